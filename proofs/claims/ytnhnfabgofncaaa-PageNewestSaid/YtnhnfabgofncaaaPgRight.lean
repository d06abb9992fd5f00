/-
  Contracts of the landed page's Right and RightMeta (package page). No conditions.
-/
import Derived.Test.YtnhnfabgofncaaaPgSmall
namespace Go.Proofs.Ytnhnfabgofncaaa
open Go.RowKit
set_option maxRecDepth 4000 in
set_option maxHeartbeats 1600000 in
theorem pright_ok (w : World) (p : PV) : Calls Try.prog 11 #[p.val] w fun e w' => e = .returned (.bool p.right) ∧ Below w.heap.size w w' := by
  have hbl : Below w.heap.size w (w.alloc (.cells #[.int .i64 p.kind, .int .i64 p.no, .int .i64 p.txn, .string p.body] 23)) := (Below.refl _ w).alloc (Nat.le_refl _) _
  have HR : Hid (p.right = ((decide (1 ≤ p.kind) && decide (p.kind ≤ 4)) && (decide (1 ≤ p.no) && decide (p.no ≤ 511)) && (decide (0 ≤ p.txn) && decide (p.txn ≤ 1099511627776)) && decide ((p.body.size : Int) ≤ 488))) := Lib.hid (by
    rw [Bool.eq_iff_iff, PV.right_iff]
    simp only [Bool.and_eq_true, decide_eq_true_eq]
    omega)
  obtain ⟨kind, no, txn, body⟩ := p
  unfold PV.val
  simp only at hbl HR ⊢
  cases h1 : (decide (1 ≤ kind) && decide (kind ≤ 4)) with
  | false =>
    have C1 := fun w => Lib.hid (within_ok kind 1 4 _ h1 w)
    go_enter Try.func11, Try.ntmps11
    go_wp2_with fail
    refine (C1 _).out.mono ?_
    rintro _ _ ⟨rfl, rfl⟩
    go_wp2
    go_ret
    exact ⟨by rw [HR.out, h1]; rfl, hbl⟩
  | true =>
    have C1 := fun w => Lib.hid (within_ok kind 1 4 _ h1 w)
    cases h2 : (decide (1 ≤ no) && decide (no ≤ 511)) with
    | false =>
      have C2 := fun w => Lib.hid (within_ok no 1 511 _ h2 w)
      go_enter Try.func11, Try.ntmps11
      go_wp2_with fail
      refine (C1 _).out.mono ?_
      rintro _ _ ⟨rfl, rfl⟩
      go_wp2_with fail
      refine (C2 _).out.mono ?_
      rintro _ _ ⟨rfl, rfl⟩
      go_wp2
      go_ret
      exact ⟨by rw [HR.out, h1, h2]; rfl, hbl⟩
    | true =>
      have C2 := fun w => Lib.hid (within_ok no 1 511 _ h2 w)
      cases h3 : (decide (0 ≤ txn) && decide (txn ≤ 1099511627776)) with
      | false =>
        have C3 := fun w => Lib.hid (within_ok txn 0 1099511627776 _ h3 w)
        go_enter Try.func11, Try.ntmps11
        go_wp2_with fail
        refine (C1 _).out.mono ?_
        rintro _ _ ⟨rfl, rfl⟩
        go_wp2_with fail
        refine (C2 _).out.mono ?_
        rintro _ _ ⟨rfl, rfl⟩
        go_wp2_with fail
        refine (C3 _).out.mono ?_
        rintro _ _ ⟨rfl, rfl⟩
        go_wp2
        go_ret
        exact ⟨by rw [HR.out, h1, h2, h3]; rfl, hbl⟩
      | true =>
        have C3 := fun w => Lib.hid (within_ok txn 0 1099511627776 _ h3 w)
        by_cases h4 : (body.size : Int) ≤ 488
        · have d4 : decide ((body.size : Int) ≤ 488) = true := decide_eq_true h4
          go_enter Try.func11, Try.ntmps11
          go_wp2_with fail
          refine (C1 _).out.mono ?_
          rintro _ _ ⟨rfl, rfl⟩
          go_wp2_with fail
          refine (C2 _).out.mono ?_
          rintro _ _ ⟨rfl, rfl⟩
          go_wp2_with fail
          refine (C3 _).out.mono ?_
          rintro _ _ ⟨rfl, rfl⟩
          go_wp2
          go_ret
          exact ⟨by rw [HR.out, h1, h2, h3, d4]; rfl, hbl⟩
        · have d4 : decide ((body.size : Int) ≤ 488) = false := decide_eq_false h4
          go_enter Try.func11, Try.ntmps11
          go_wp2_with fail
          refine (C1 _).out.mono ?_
          rintro _ _ ⟨rfl, rfl⟩
          go_wp2_with fail
          refine (C2 _).out.mono ?_
          rintro _ _ ⟨rfl, rfl⟩
          go_wp2_with fail
          refine (C3 _).out.mono ?_
          rintro _ _ ⟨rfl, rfl⟩
          go_wp2
          go_ret
          exact ⟨by rw [HR.out, h1, h2, h3, d4]; rfl, hbl⟩
theorem sub_one (n : Int) (h : 1 ≤ n ∧ n ≤ 512) : IntKind.i64.wrap (n - 1) = n - 1 := IntWalk.i64_in _ (by omega)
set_option maxRecDepth 4000 in
set_option maxHeartbeats 1600000 in
theorem prightM_ok (w : World) (p : MV) : Calls Try.prog 21 #[p.val] w fun e w' => e = .returned (.bool p.right) ∧ Below w.heap.size w w' := by
  have hbl : Below w.heap.size w (w.alloc (.cells #[.int .i64 p.txn, .int .i64 p.root, .int .i64 p.free, .int .i64 p.pages, .int .i64 p.limit] 33)) := (Below.refl _ w).alloc (Nat.le_refl _) _
  have HR : Hid (p.right = ((decide (0 ≤ p.txn) && decide (p.txn ≤ 1099511627776)) && (decide (2 ≤ p.limit) && decide (p.limit ≤ 512)) && (decide (1 ≤ p.pages) && decide (p.pages ≤ p.limit)) && (decide (0 ≤ p.root) && decide (p.root ≤ p.pages - 1)) && (decide (0 ≤ p.free) && decide (p.free ≤ p.pages - 1)))) := Lib.hid (by
    rw [Bool.eq_iff_iff, MV.right_iff]
    simp only [Bool.and_eq_true, decide_eq_true_eq]
    omega)
  obtain ⟨txn, root, free, pages, limit⟩ := p
  unfold MV.val
  simp only at hbl HR ⊢
  cases h1 : (decide (0 ≤ txn) && decide (txn ≤ 1099511627776)) with
  | false =>
    have C1 := fun w => Lib.hid (within_ok txn 0 1099511627776 _ h1 w)
    go_enter Try.func21, Try.ntmps21
    go_wp2_with fail
    refine (C1 _).out.mono ?_
    rintro _ _ ⟨rfl, rfl⟩
    go_wp2
    go_ret
    exact ⟨by rw [HR.out, h1]; rfl, hbl⟩
  | true =>
    have C1 := fun w => Lib.hid (within_ok txn 0 1099511627776 _ h1 w)
    cases h2 : (decide (2 ≤ limit) && decide (limit ≤ 512)) with
    | false =>
      have C2 := fun w => Lib.hid (within_ok limit 2 512 _ h2 w)
      go_enter Try.func21, Try.ntmps21
      go_wp2_with fail
      refine (C1 _).out.mono ?_
      rintro _ _ ⟨rfl, rfl⟩
      go_wp2_with fail
      refine (C2 _).out.mono ?_
      rintro _ _ ⟨rfl, rfl⟩
      go_wp2
      go_ret
      exact ⟨by rw [HR.out, h1, h2]; rfl, hbl⟩
    | true =>
      have C2 := fun w => Lib.hid (within_ok limit 2 512 _ h2 w)
      have hl : 2 ≤ limit ∧ limit ≤ 512 := by simpa using h2
      cases h3 : (decide (1 ≤ pages) && decide (pages ≤ limit)) with
      | false =>
        have C3 := fun w => Lib.hid (within_ok pages 1 limit _ h3 w)
        clear hl
        go_enter Try.func21, Try.ntmps21
        go_wp2_with fail
        refine (C1 _).out.mono ?_
        rintro _ _ ⟨rfl, rfl⟩
        go_wp2_with fail
        refine (C2 _).out.mono ?_
        rintro _ _ ⟨rfl, rfl⟩
        go_wp2_with fail
        refine (C3 _).out.mono ?_
        rintro _ _ ⟨rfl, rfl⟩
        go_wp2
        go_ret
        exact ⟨by rw [HR.out, h1, h2, h3]; rfl, hbl⟩
      | true =>
        have C3 := fun w => Lib.hid (within_ok pages 1 limit _ h3 w)
        have hp : 1 ≤ pages ∧ pages ≤ limit := by simpa using h3
        have hw : wrap64 (pages - 1) = pages - 1 := IntWalk.wrap64_in _ (by omega)
        have hw2 := sub_one pages (by omega)
        cases h4 : (decide (0 ≤ root) && decide (root ≤ pages - 1)) with
        | false =>
          have C4 := fun w => Lib.hid (within_ok root 0 (pages - 1) _ h4 w)
          go_enter Try.func21, Try.ntmps21
          go_wp2_with fail
          refine (C1 _).out.mono ?_
          rintro _ _ ⟨rfl, rfl⟩
          go_wp2_with fail
          refine (C2 _).out.mono ?_
          rintro _ _ ⟨rfl, rfl⟩
          go_wp2_with fail
          refine (C3 _).out.mono ?_
          rintro _ _ ⟨rfl, rfl⟩
          go_wp2_with fail
          refine (C4 _).out.mono ?_
          rintro _ _ ⟨rfl, rfl⟩
          go_wp2
          go_ret
          exact ⟨by rw [HR.out, h1, h2, h3, h4]; rfl, hbl⟩
        | true =>
          have C4 := fun w => Lib.hid (within_ok root 0 (pages - 1) _ h4 w)
          have h5 : (decide (0 ≤ free) && decide (free ≤ pages - 1)) = (decide (0 ≤ free) && decide (free ≤ pages - 1)) := rfl
          obtain ⟨F, hF⟩ : ∃ F, (decide (0 ≤ free) && decide (free ≤ pages - 1)) = F := ⟨_, rfl⟩
          have C5 := fun w => Lib.hid (within_ok free 0 (pages - 1) _ hF w)
          clear h5
          go_enter Try.func21, Try.ntmps21
          go_wp2_with fail
          refine (C1 _).out.mono ?_
          rintro _ _ ⟨rfl, rfl⟩
          go_wp2_with fail
          refine (C2 _).out.mono ?_
          rintro _ _ ⟨rfl, rfl⟩
          go_wp2_with fail
          refine (C3 _).out.mono ?_
          rintro _ _ ⟨rfl, rfl⟩
          go_wp2_with fail
          refine (C4 _).out.mono ?_
          rintro _ _ ⟨rfl, rfl⟩
          go_wp2_with fail
          refine (C5 _).out.mono ?_
          rintro _ _ ⟨rfl, rfl⟩
          go_wp2
          go_ret
          exact ⟨by rw [HR.out, h1, h2, h3, h4, hF]; rfl, hbl⟩
end Go.Proofs.Ytnhnfabgofncaaa
