/-
  Contracts of the reference's Right and RightMeta (rollbookref04). No conditions.
-/
import Derived.Test.YtnhnfabgofncaaaPageSpec
import Derived.Test.YtnhnfabgofncaaaPageRef
namespace Go.Proofs.Ytnhnfabgofncaaa
open Go.RowKit
set_option maxRecDepth 4000 in
set_option maxHeartbeats 800000 in
theorem rright_ok (w : World) (p : PV) : Calls Try.prog 12 #[p.val] w fun e w' => e = .returned (.bool p.right) ∧ Below w.heap.size w w' := by
  have hbl : Below w.heap.size w (w.alloc (.cells #[.int .i64 p.kind, .int .i64 p.no, .int .i64 p.txn, .string p.body] 23)) := (Below.refl _ w).alloc (Nat.le_refl _) _
  obtain ⟨kind, no, txn, body⟩ := p
  unfold PV.val
  simp only at hbl ⊢
  by_cases b0 : kind < 1
  · have d0 : decide (kind < 1) = true := decide_eq_true (by omega)
    have HR : Hid (PV.right ⟨kind, no, txn, body⟩ = false) := Lib.hid (by rw [← Bool.not_eq_true, PV.right_iff]; simp only; omega)
    clear b0
    go_enter Try.func12, Try.ntmps12
    go_wp2
    go_ret
    exact ⟨by rw [HR.out]; rfl, hbl⟩
  · have d0 : decide (kind < 1) = false := decide_eq_false (by omega)
    by_cases b1 : 4 < kind
    · have d1 : decide (4 < kind) = true := decide_eq_true (by omega)
      have HR : Hid (PV.right ⟨kind, no, txn, body⟩ = false) := Lib.hid (by rw [← Bool.not_eq_true, PV.right_iff]; simp only; omega)
      clear b0 b1
      go_enter Try.func12, Try.ntmps12
      go_wp2
      go_ret
      exact ⟨by rw [HR.out]; rfl, hbl⟩
    · have d1 : decide (4 < kind) = false := decide_eq_false (by omega)
      by_cases b2 : no < 1
      · have d2 : decide (no < 1) = true := decide_eq_true (by omega)
        have HR : Hid (PV.right ⟨kind, no, txn, body⟩ = false) := Lib.hid (by rw [← Bool.not_eq_true, PV.right_iff]; simp only; omega)
        clear b0 b1 b2
        go_enter Try.func12, Try.ntmps12
        go_wp2
        go_ret
        exact ⟨by rw [HR.out]; rfl, hbl⟩
      · have d2 : decide (no < 1) = false := decide_eq_false (by omega)
        by_cases b3 : 511 < no
        · have d3 : decide (511 < no) = true := decide_eq_true (by omega)
          have HR : Hid (PV.right ⟨kind, no, txn, body⟩ = false) := Lib.hid (by rw [← Bool.not_eq_true, PV.right_iff]; simp only; omega)
          clear b0 b1 b2 b3
          go_enter Try.func12, Try.ntmps12
          go_wp2
          go_ret
          exact ⟨by rw [HR.out]; rfl, hbl⟩
        · have d3 : decide (511 < no) = false := decide_eq_false (by omega)
          by_cases b4 : txn < 0
          · have d4 : decide (0 ≤ txn) = false := decide_eq_false (by omega)
            have HR : Hid (PV.right ⟨kind, no, txn, body⟩ = false) := Lib.hid (by rw [← Bool.not_eq_true, PV.right_iff]; simp only; omega)
            clear b0 b1 b2 b3 b4
            go_enter Try.func12, Try.ntmps12
            go_wp2
            go_ret
            exact ⟨by rw [HR.out]; rfl, hbl⟩
          · have d4 : decide (0 ≤ txn) = true := decide_eq_true (by omega)
            by_cases b5 : 1099511627776 < txn
            · have d5 : decide (txn ≤ 1099511627776) = false := decide_eq_false (by omega)
              have HR : Hid (PV.right ⟨kind, no, txn, body⟩ = false) := Lib.hid (by rw [← Bool.not_eq_true, PV.right_iff]; simp only; omega)
              clear b0 b1 b2 b3 b4 b5
              go_enter Try.func12, Try.ntmps12
              go_wp2
              go_ret
              exact ⟨by rw [HR.out]; rfl, hbl⟩
            · have d5 : decide (txn ≤ 1099511627776) = true := decide_eq_true (by omega)
              by_cases b6 : 488 < body.size
              · have d6 : decide ((body.size : Int) ≤ 488) = false := decide_eq_false (by omega)
                have HR : Hid (PV.right ⟨kind, no, txn, body⟩ = false) := Lib.hid (by rw [← Bool.not_eq_true, PV.right_iff]; simp only; omega)
                clear b0 b1 b2 b3 b4 b5 b6
                go_enter Try.func12, Try.ntmps12
                go_wp2
                go_ret
                exact ⟨by rw [HR.out]; rfl, hbl⟩
              · have d6 : decide ((body.size : Int) ≤ 488) = true := decide_eq_true (by omega)
                have HR : Hid (PV.right ⟨kind, no, txn, body⟩ = true) := Lib.hid (by rw [PV.right_iff]; simp only; omega)
                clear b0 b1 b2 b3 b4 b5 b6
                go_enter Try.func12, Try.ntmps12
                go_wp2
                go_ret
                exact ⟨by rw [HR.out]; rfl, hbl⟩
set_option maxRecDepth 4000 in
set_option maxHeartbeats 800000 in
theorem rrightM_ok (w : World) (p : MV) : Calls Try.prog 22 #[p.val] w fun e w' => e = .returned (.bool p.right) ∧ Below w.heap.size w w' := by
  have hbl : Below w.heap.size w (w.alloc (.cells #[.int .i64 p.txn, .int .i64 p.root, .int .i64 p.free, .int .i64 p.pages, .int .i64 p.limit] 33)) := (Below.refl _ w).alloc (Nat.le_refl _) _
  obtain ⟨txn, root, free, pages, limit⟩ := p
  unfold MV.val
  simp only at hbl ⊢
  by_cases b0 : txn < 0
  · have d0 : decide (txn < 0) = true := decide_eq_true (by omega)
    have HR : Hid (MV.right ⟨txn, root, free, pages, limit⟩ = false) := Lib.hid (by rw [← Bool.not_eq_true, MV.right_iff]; simp only; omega)
    clear b0
    go_enter Try.func22, Try.ntmps22
    go_wp2
    go_ret
    exact ⟨by rw [HR.out]; rfl, hbl⟩
  · have d0 : decide (txn < 0) = false := decide_eq_false (by omega)
    by_cases b1 : 1099511627776 < txn
    · have d1 : decide (1099511627776 < txn) = true := decide_eq_true (by omega)
      have HR : Hid (MV.right ⟨txn, root, free, pages, limit⟩ = false) := Lib.hid (by rw [← Bool.not_eq_true, MV.right_iff]; simp only; omega)
      clear b0 b1
      go_enter Try.func22, Try.ntmps22
      go_wp2
      go_ret
      exact ⟨by rw [HR.out]; rfl, hbl⟩
    · have d1 : decide (1099511627776 < txn) = false := decide_eq_false (by omega)
      by_cases b2 : limit < 2
      · have d2 : decide (limit < 2) = true := decide_eq_true (by omega)
        have HR : Hid (MV.right ⟨txn, root, free, pages, limit⟩ = false) := Lib.hid (by rw [← Bool.not_eq_true, MV.right_iff]; simp only; omega)
        clear b0 b1 b2
        go_enter Try.func22, Try.ntmps22
        go_wp2
        go_ret
        exact ⟨by rw [HR.out]; rfl, hbl⟩
      · have d2 : decide (limit < 2) = false := decide_eq_false (by omega)
        by_cases b3 : 512 < limit
        · have d3 : decide (512 < limit) = true := decide_eq_true (by omega)
          have HR : Hid (MV.right ⟨txn, root, free, pages, limit⟩ = false) := Lib.hid (by rw [← Bool.not_eq_true, MV.right_iff]; simp only; omega)
          clear b0 b1 b2 b3
          go_enter Try.func22, Try.ntmps22
          go_wp2
          go_ret
          exact ⟨by rw [HR.out]; rfl, hbl⟩
        · have d3 : decide (512 < limit) = false := decide_eq_false (by omega)
          by_cases b4 : pages < 1
          · have d4 : decide (pages < 1) = true := decide_eq_true (by omega)
            have HR : Hid (MV.right ⟨txn, root, free, pages, limit⟩ = false) := Lib.hid (by rw [← Bool.not_eq_true, MV.right_iff]; simp only; omega)
            clear b0 b1 b2 b3 b4
            go_enter Try.func22, Try.ntmps22
            go_wp2
            go_ret
            exact ⟨by rw [HR.out]; rfl, hbl⟩
          · have d4 : decide (pages < 1) = false := decide_eq_false (by omega)
            by_cases b5 : limit < pages
            · have d5 : decide (limit < pages) = true := decide_eq_true (by omega)
              have HR : Hid (MV.right ⟨txn, root, free, pages, limit⟩ = false) := Lib.hid (by rw [← Bool.not_eq_true, MV.right_iff]; simp only; omega)
              clear b0 b1 b2 b3 b4 b5
              go_enter Try.func22, Try.ntmps22
              go_wp2
              go_ret
              exact ⟨by rw [HR.out]; rfl, hbl⟩
            · have d5 : decide (limit < pages) = false := decide_eq_false (by omega)
              by_cases b6 : root < 0
              · have d6 : decide (0 ≤ root) = false := decide_eq_false (by omega)
                have HR : Hid (MV.right ⟨txn, root, free, pages, limit⟩ = false) := Lib.hid (by rw [← Bool.not_eq_true, MV.right_iff]; simp only; omega)
                clear b0 b1 b2 b3 b4 b5 b6
                go_enter Try.func22, Try.ntmps22
                go_wp2
                go_ret
                exact ⟨by rw [HR.out]; rfl, hbl⟩
              · have d6 : decide (0 ≤ root) = true := decide_eq_true (by omega)
                by_cases b7 : pages ≤ root
                · have d7 : decide (root < pages) = false := decide_eq_false (by omega)
                  have HR : Hid (MV.right ⟨txn, root, free, pages, limit⟩ = false) := Lib.hid (by rw [← Bool.not_eq_true, MV.right_iff]; simp only; omega)
                  clear b0 b1 b2 b3 b4 b5 b6 b7
                  go_enter Try.func22, Try.ntmps22
                  go_wp2
                  go_ret
                  exact ⟨by rw [HR.out]; rfl, hbl⟩
                · have d7 : decide (root < pages) = true := decide_eq_true (by omega)
                  by_cases b8 : free < 0
                  · have d8 : decide (0 ≤ free) = false := decide_eq_false (by omega)
                    have HR : Hid (MV.right ⟨txn, root, free, pages, limit⟩ = false) := Lib.hid (by rw [← Bool.not_eq_true, MV.right_iff]; simp only; omega)
                    clear b0 b1 b2 b3 b4 b5 b6 b7 b8
                    go_enter Try.func22, Try.ntmps22
                    go_wp2
                    go_ret
                    exact ⟨by rw [HR.out]; rfl, hbl⟩
                  · have d8 : decide (0 ≤ free) = true := decide_eq_true (by omega)
                    by_cases b9 : pages ≤ free
                    · have d9 : decide (free < pages) = false := decide_eq_false (by omega)
                      have HR : Hid (MV.right ⟨txn, root, free, pages, limit⟩ = false) := Lib.hid (by rw [← Bool.not_eq_true, MV.right_iff]; simp only; omega)
                      clear b0 b1 b2 b3 b4 b5 b6 b7 b8 b9
                      go_enter Try.func22, Try.ntmps22
                      go_wp2
                      go_ret
                      exact ⟨by rw [HR.out]; rfl, hbl⟩
                    · have d9 : decide (free < pages) = true := decide_eq_true (by omega)
                      have HR : Hid (MV.right ⟨txn, root, free, pages, limit⟩ = true) := Lib.hid (by rw [MV.right_iff]; simp only; omega)
                      clear b0 b1 b2 b3 b4 b5 b6 b7 b8 b9
                      go_enter Try.func22, Try.ntmps22
                      go_wp2
                      go_ret
                      exact ⟨by rw [HR.out]; rfl, hbl⟩
end Go.Proofs.Ytnhnfabgofncaaa
