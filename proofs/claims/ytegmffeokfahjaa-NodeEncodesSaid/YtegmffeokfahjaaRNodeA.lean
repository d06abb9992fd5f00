/-
  Cells of a node, as they lie in memory; contracts of the reference (rollbookref06): Cell, Long. No conditions but those typed.
-/
import Derived.Test.YtegmffeokfahjaaNodeSeekP
import Derived.Test.YtegmffeokfahjaaPageRef
import Derived.Test.YtegmffeokfahjaaOwn
namespace Go.Proofs.Ytegmffeokfahjaa
open Go.RowKit
/-- the cells of a cell -/
def CV.cells (c : CV) : List Value := [.string c.key, .string c.val, .int .i64 c.over, .int .i64 c.size, .int .i64 c.child]
/-- the slice v reads as the cells l -/
def CellsAt (w : World) (v : Value) (l : List CV) : Prop :=
  ∃ A cap, v = .slice A l.length cap ∧ l.length ≤ cap ∧ cap ≤ 9223372036854775807 ∧ ∀ k (h : k < l.length), ∃ b off, A = some ⟨b, off, none⟩ ∧ b < w.heap.size ∧ ∀ i, i < 5 → w.cell? ⟨b, off + k * 5 + i, none⟩ = (l[k]).cells[i]?
theorem CellsAt.below {w w' : World} {v : Value} {l : List CV} (h : CellsAt w v l) (hb : Below w.heap.size w w') : CellsAt w' v l := by
  obtain ⟨A, cap, hv, h1, h2, hc⟩ := h
  refine ⟨A, cap, hv, h1, h2, fun k hk => ?_⟩
  obtain ⟨b, off, hA, hlt, hcell⟩ := hc k hk
  exact ⟨b, off, hA, Nat.lt_of_lt_of_le hlt hb.size, fun i hi => (hb.cell (p := ⟨b, off + k * 5 + i, none⟩) hlt).trans (hcell i hi)⟩
theorem CellsAt.get {w : World} {A : Option Addr} {len cap : Nat} {l : List CV} (h : CellsAt w (.slice A len cap) l) (k : Nat) (hk : k < l.length) :
    ∃ b off, A = some ⟨b, off, none⟩ ∧ b < w.heap.size ∧ w.cell? ⟨b, off + k * 5, none⟩ = some (.string l[k].key) ∧ w.cell? ⟨b, off + k * 5 + 1, none⟩ = some (.string l[k].val) ∧ w.cell? ⟨b, off + k * 5 + 2, none⟩ = some (.int .i64 l[k].over) ∧ w.cell? ⟨b, off + k * 5 + 3, none⟩ = some (.int .i64 l[k].size) ∧ w.cell? ⟨b, off + k * 5 + 4, none⟩ = some (.int .i64 l[k].child) := by
  obtain ⟨A', cap', hv, _, _, hh⟩ := h
  injection hv with e1 e2 e3
  subst e1
  obtain ⟨b, off, hA, hlt, hc⟩ := hh k hk
  exact ⟨b, off, hA, hlt, hc 0 (by omega), hc 1 (by omega), hc 2 (by omega), hc 3 (by omega), hc 4 (by omega)⟩
theorem CellsAt.form {w : World} {v : Value} {l : List CV} (h : CellsAt w v l) : ∃ A cap, v = .slice A l.length cap ∧ l.length ≤ cap ∧ cap ≤ 9223372036854775807 := by
  obtain ⟨A, cap, hv, h1, h2, _⟩ := h
  exact ⟨A, cap, hv, h1, h2⟩
/-- no list is too long, no text in it -/
def Bnd (l : List CV) : Prop := l.length ≤ 600 ∧ ∀ c ∈ l, c.key.size ≤ 600 ∧ c.val.size ≤ 600
theorem Bnd.at_ {l : List CV} (h : Bnd l) (k : Nat) (hk : k < l.length) : l[k].key.size ≤ 600 ∧ l[k].val.size ≤ 600 := h.2 _ (List.getElem_mem hk)
theorem CV.ok_leaf (key val : ByteArray) (over size child : Int) : CV.ok true ⟨key, val, over, size, child⟩ = true ↔ key.size ≤ 120 ∧ key.size ≠ 0 ∧ child = 0 ∧ ((over = 0 ∧ size = 0 ∧ val.size ≤ 96) ∨ (val.size = 0 ∧ 1 ≤ over ∧ over ≤ 511 ∧ 97 ≤ size ∧ size ≤ 4000)) := by
  unfold CV.ok
  simp only [if_true, Bool.and_eq_true, Bool.or_eq_true, decide_eq_true_eq]
  omega
theorem CV.ok_branch (key val : ByteArray) (over size child : Int) : CV.ok false ⟨key, val, over, size, child⟩ = true ↔ key.size ≤ 120 ∧ 1 ≤ child ∧ child ≤ 511 ∧ val.size = 0 ∧ over = 0 ∧ size = 0 := by
  unfold CV.ok
  simp only [Bool.false_eq_true, if_false, Bool.and_eq_true, decide_eq_true_eq]
  omega
theorem empty_iff (s : ByteArray) (b : Bool) (h : decide (s.size = 0) = b) : s.toList.isEmpty = b ∧ (s.toList == []) = b ∧ (s.toList == (⟨#[]⟩ : ByteArray).toList) = b ∧ decide (s = ⟨#[]⟩) = b := by
  have e : s.size = 0 ↔ s = ⟨#[]⟩ := ⟨fun h => by
    apply ByteArray.ext
    apply Array.eq_empty_of_size_eq_zero
    exact h, fun h => by rw [h]; rfl⟩
  by_cases hs : s = ⟨#[]⟩
  · subst hs
    have : b = true := by rw [← h]; rfl
    subst this
    simp
  · have hz : ¬ s.size = 0 := fun x => hs (e.1 x)
    have hb : b = false := by rw [← h]; exact decide_eq_false hz
    subst hb
    have h0 : (⟨#[]⟩ : ByteArray).toList = [] := by simp
    have h1 := beq_str_false hs
    rw [h0] at h1
    have hl : s.toList ≠ [] := by simpa using h1
    refine ⟨?_, h1, by rw [h0]; exact h1, decide_eq_false hs⟩
    cases hh : s.toList with
    | nil => exact absurd hh hl
    | cons a l => rfl
set_option maxRecDepth 100000 in
set_option maxHeartbeats 1600000 in
theorem rcell_ok (w : World) (leaf : Bool) (c : CV) : Calls Try.prog 25 #[.bool leaf, c.v] w fun e w' => e = .returned (.bool (c.ok leaf)) ∧ Below w.heap.size w w' := by
  obtain ⟨key, val, over, size, child⟩ := c
  unfold CV.v
  simp only
  have hbl : Below w.heap.size w (w.alloc (.cells #[.string key, .string val, .int .i64 over, .int .i64 size, .int .i64 child] 35)) := (Below.refl _ w).alloc (Nat.le_refl _) _
  cases leaf
  case false =>
    by_cases h0 : 120 < key.size
    · have d_k : decide ((120 : Int) < (key.size : Int)) = true := decide_eq_true (by omega)
      have HR : Hid (CV.ok false ⟨key, val, over, size, child⟩ = false) := Lib.hid (by rw [← Bool.not_eq_true, CV.ok_branch]; omega)
      clear h0
      go_enter Try.func25, Try.ntmps25
      go_wp2
      go_ret
      exact ⟨by rw [HR.out]; rfl, hbl⟩
    · have d_k : decide ((120 : Int) < (key.size : Int)) = false := decide_eq_false (by omega)
      by_cases h1 : 1 ≤ child
      · have d_c1 : decide ((1 : Int) ≤ child) = true := decide_eq_true (by omega)
        by_cases h2 : child ≤ 511
        · have d_c2 : decide (child ≤ (511 : Int)) = true := decide_eq_true (by omega)
          by_cases h3 : val.size = 0
          · obtain ⟨d_v, e_v, f_v, g_v⟩ := empty_iff val true (decide_eq_true (by omega))
            by_cases h4 : over = 0
            · have d_o : (over == 0) = true := by rw [beq_iff_eq]; omega
              by_cases h5 : size = 0
              · have d_s : (size == 0) = true := by rw [beq_iff_eq]; omega
                have HR : Hid (CV.ok false ⟨key, val, over, size, child⟩ = true) := Lib.hid (by exact (CV.ok_branch _ _ _ _ _).2 (by omega))
                clear h0 h1 h2 h3 h4 h5
                go_enter Try.func25, Try.ntmps25
                go_wp2
                go_ret
                exact ⟨by rw [HR.out]; rfl, hbl⟩
              · have d_s : (size == 0) = false := by rw [beq_eq_false_iff_ne]; omega
                have HR : Hid (CV.ok false ⟨key, val, over, size, child⟩ = false) := Lib.hid (by rw [← Bool.not_eq_true, CV.ok_branch]; omega)
                clear h0 h1 h2 h3 h4 h5
                go_enter Try.func25, Try.ntmps25
                go_wp2
                go_ret
                exact ⟨by rw [HR.out]; rfl, hbl⟩
            · have d_o : (over == 0) = false := by rw [beq_eq_false_iff_ne]; omega
              have HR : Hid (CV.ok false ⟨key, val, over, size, child⟩ = false) := Lib.hid (by rw [← Bool.not_eq_true, CV.ok_branch]; omega)
              clear h0 h1 h2 h3 h4
              go_enter Try.func25, Try.ntmps25
              go_wp2
              go_ret
              exact ⟨by rw [HR.out]; rfl, hbl⟩
          · obtain ⟨d_v, e_v, f_v, g_v⟩ := empty_iff val false (decide_eq_false (by omega))
            have HR : Hid (CV.ok false ⟨key, val, over, size, child⟩ = false) := Lib.hid (by rw [← Bool.not_eq_true, CV.ok_branch]; omega)
            clear h0 h1 h2 h3
            go_enter Try.func25, Try.ntmps25
            go_wp2
            go_ret
            exact ⟨by rw [HR.out]; rfl, hbl⟩
        · have d_c2 : decide (child ≤ (511 : Int)) = false := decide_eq_false (by omega)
          have HR : Hid (CV.ok false ⟨key, val, over, size, child⟩ = false) := Lib.hid (by rw [← Bool.not_eq_true, CV.ok_branch]; omega)
          clear h0 h1 h2
          go_enter Try.func25, Try.ntmps25
          go_wp2
          go_ret
          exact ⟨by rw [HR.out]; rfl, hbl⟩
      · have d_c1 : decide ((1 : Int) ≤ child) = false := decide_eq_false (by omega)
        have HR : Hid (CV.ok false ⟨key, val, over, size, child⟩ = false) := Lib.hid (by rw [← Bool.not_eq_true, CV.ok_branch]; omega)
        clear h0 h1
        go_enter Try.func25, Try.ntmps25
        go_wp2
        go_ret
        exact ⟨by rw [HR.out]; rfl, hbl⟩
  case true =>
    by_cases h0 : 120 < key.size
    · have d_k : decide ((120 : Int) < (key.size : Int)) = true := decide_eq_true (by omega)
      have HR : Hid (CV.ok true ⟨key, val, over, size, child⟩ = false) := Lib.hid (by rw [← Bool.not_eq_true, CV.ok_leaf]; omega)
      clear h0
      go_enter Try.func25, Try.ntmps25
      go_wp2
      go_ret
      exact ⟨by rw [HR.out]; rfl, hbl⟩
    · have d_k : decide ((120 : Int) < (key.size : Int)) = false := decide_eq_false (by omega)
      by_cases h1 : key.size = 0
      · have d_k0 : ((key.size : Int) == 0) = true := by rw [beq_iff_eq]; omega
        have HR : Hid (CV.ok true ⟨key, val, over, size, child⟩ = false) := Lib.hid (by rw [← Bool.not_eq_true, CV.ok_leaf]; omega)
        clear h0 h1
        go_enter Try.func25, Try.ntmps25
        go_wp2
        go_ret
        exact ⟨by rw [HR.out]; rfl, hbl⟩
      · have d_k0 : ((key.size : Int) == 0) = false := by rw [beq_eq_false_iff_ne]; omega
        by_cases h2 : child ≠ 0
        · have d_c : (child != 0) = true := by rw [bne_iff_ne]; omega
          have HR : Hid (CV.ok true ⟨key, val, over, size, child⟩ = false) := Lib.hid (by rw [← Bool.not_eq_true, CV.ok_leaf]; omega)
          clear h0 h1 h2
          go_enter Try.func25, Try.ntmps25
          go_wp2
          go_ret
          exact ⟨by rw [HR.out]; rfl, hbl⟩
        · have d_c : (child != 0) = false := by rw [bne_eq_false_iff_eq]; omega
          by_cases h3 : over = 0
          · have d_o : (over == 0) = true := by rw [beq_iff_eq]; omega
            by_cases h4 : size = 0
            · have d_s : (size == 0) = true := by rw [beq_iff_eq]; omega
              by_cases h5 : val.size ≤ 96
              · have d_v96 : decide ((val.size : Int) ≤ 96) = true := decide_eq_true (by omega)
                have HR : Hid (CV.ok true ⟨key, val, over, size, child⟩ = true) := Lib.hid (by exact (CV.ok_leaf _ _ _ _ _).2 (by omega))
                clear h0 h1 h2 h3 h4 h5
                go_enter Try.func25, Try.ntmps25
                go_wp2
                go_ret
                exact ⟨by rw [HR.out]; rfl, hbl⟩
              · have d_v96 : decide ((val.size : Int) ≤ 96) = false := decide_eq_false (by omega)
                have HR : Hid (CV.ok true ⟨key, val, over, size, child⟩ = false) := Lib.hid (by rw [← Bool.not_eq_true, CV.ok_leaf]; omega)
                clear h0 h1 h2 h3 h4 h5
                go_enter Try.func25, Try.ntmps25
                go_wp2
                go_ret
                exact ⟨by rw [HR.out]; rfl, hbl⟩
            · have d_s : (size == 0) = false := by rw [beq_eq_false_iff_ne]; omega
              by_cases h5 : val.size = 0
              · obtain ⟨d_v, e_v, f_v, g_v⟩ := empty_iff val true (decide_eq_true (by omega))
                by_cases h6 : 1 ≤ over
                · have d_o1 : decide ((1 : Int) ≤ over) = true := decide_eq_true (by omega)
                  by_cases h7 : over ≤ 511
                  · have d_o2 : decide (over ≤ (511 : Int)) = true := decide_eq_true (by omega)
                    by_cases h8 : 97 ≤ size
                    · have d_s1 : decide ((97 : Int) ≤ size) = true := decide_eq_true (by omega)
                      by_cases h9 : size ≤ 4000
                      · have d_s2 : decide (size ≤ (4000 : Int)) = true := decide_eq_true (by omega)
                        have HR : Hid (CV.ok true ⟨key, val, over, size, child⟩ = true) := Lib.hid (by exact (CV.ok_leaf _ _ _ _ _).2 (by omega))
                        clear h0 h1 h2 h3 h4 h5 h6 h7 h8 h9
                        go_enter Try.func25, Try.ntmps25
                        go_wp2
                        go_ret
                        exact ⟨by rw [HR.out]; rfl, hbl⟩
                      · have d_s2 : decide (size ≤ (4000 : Int)) = false := decide_eq_false (by omega)
                        have HR : Hid (CV.ok true ⟨key, val, over, size, child⟩ = false) := Lib.hid (by rw [← Bool.not_eq_true, CV.ok_leaf]; omega)
                        clear h0 h1 h2 h3 h4 h5 h6 h7 h8 h9
                        go_enter Try.func25, Try.ntmps25
                        go_wp2
                        go_ret
                        exact ⟨by rw [HR.out]; rfl, hbl⟩
                    · have d_s1 : decide ((97 : Int) ≤ size) = false := decide_eq_false (by omega)
                      have HR : Hid (CV.ok true ⟨key, val, over, size, child⟩ = false) := Lib.hid (by rw [← Bool.not_eq_true, CV.ok_leaf]; omega)
                      clear h0 h1 h2 h3 h4 h5 h6 h7 h8
                      go_enter Try.func25, Try.ntmps25
                      go_wp2
                      go_ret
                      exact ⟨by rw [HR.out]; rfl, hbl⟩
                  · have d_o2 : decide (over ≤ (511 : Int)) = false := decide_eq_false (by omega)
                    have HR : Hid (CV.ok true ⟨key, val, over, size, child⟩ = false) := Lib.hid (by rw [← Bool.not_eq_true, CV.ok_leaf]; omega)
                    clear h0 h1 h2 h3 h4 h5 h6 h7
                    go_enter Try.func25, Try.ntmps25
                    go_wp2
                    go_ret
                    exact ⟨by rw [HR.out]; rfl, hbl⟩
                · have d_o1 : decide ((1 : Int) ≤ over) = false := decide_eq_false (by omega)
                  have HR : Hid (CV.ok true ⟨key, val, over, size, child⟩ = false) := Lib.hid (by rw [← Bool.not_eq_true, CV.ok_leaf]; omega)
                  clear h0 h1 h2 h3 h4 h5 h6
                  go_enter Try.func25, Try.ntmps25
                  go_wp2
                  go_ret
                  exact ⟨by rw [HR.out]; rfl, hbl⟩
              · obtain ⟨d_v, e_v, f_v, g_v⟩ := empty_iff val false (decide_eq_false (by omega))
                have HR : Hid (CV.ok true ⟨key, val, over, size, child⟩ = false) := Lib.hid (by rw [← Bool.not_eq_true, CV.ok_leaf]; omega)
                clear h0 h1 h2 h3 h4 h5
                go_enter Try.func25, Try.ntmps25
                go_wp2
                go_ret
                exact ⟨by rw [HR.out]; rfl, hbl⟩
          · have d_o : (over == 0) = false := by rw [beq_eq_false_iff_ne]; omega
            by_cases h4 : val.size = 0
            · obtain ⟨d_v, e_v, f_v, g_v⟩ := empty_iff val true (decide_eq_true (by omega))
              by_cases h5 : 1 ≤ over
              · have d_o1 : decide ((1 : Int) ≤ over) = true := decide_eq_true (by omega)
                by_cases h6 : over ≤ 511
                · have d_o2 : decide (over ≤ (511 : Int)) = true := decide_eq_true (by omega)
                  by_cases h7 : 97 ≤ size
                  · have d_s1 : decide ((97 : Int) ≤ size) = true := decide_eq_true (by omega)
                    by_cases h8 : size ≤ 4000
                    · have d_s2 : decide (size ≤ (4000 : Int)) = true := decide_eq_true (by omega)
                      have HR : Hid (CV.ok true ⟨key, val, over, size, child⟩ = true) := Lib.hid (by exact (CV.ok_leaf _ _ _ _ _).2 (by omega))
                      clear h0 h1 h2 h3 h4 h5 h6 h7 h8
                      go_enter Try.func25, Try.ntmps25
                      go_wp2
                      go_ret
                      exact ⟨by rw [HR.out]; rfl, hbl⟩
                    · have d_s2 : decide (size ≤ (4000 : Int)) = false := decide_eq_false (by omega)
                      have HR : Hid (CV.ok true ⟨key, val, over, size, child⟩ = false) := Lib.hid (by rw [← Bool.not_eq_true, CV.ok_leaf]; omega)
                      clear h0 h1 h2 h3 h4 h5 h6 h7 h8
                      go_enter Try.func25, Try.ntmps25
                      go_wp2
                      go_ret
                      exact ⟨by rw [HR.out]; rfl, hbl⟩
                  · have d_s1 : decide ((97 : Int) ≤ size) = false := decide_eq_false (by omega)
                    have HR : Hid (CV.ok true ⟨key, val, over, size, child⟩ = false) := Lib.hid (by rw [← Bool.not_eq_true, CV.ok_leaf]; omega)
                    clear h0 h1 h2 h3 h4 h5 h6 h7
                    go_enter Try.func25, Try.ntmps25
                    go_wp2
                    go_ret
                    exact ⟨by rw [HR.out]; rfl, hbl⟩
                · have d_o2 : decide (over ≤ (511 : Int)) = false := decide_eq_false (by omega)
                  have HR : Hid (CV.ok true ⟨key, val, over, size, child⟩ = false) := Lib.hid (by rw [← Bool.not_eq_true, CV.ok_leaf]; omega)
                  clear h0 h1 h2 h3 h4 h5 h6
                  go_enter Try.func25, Try.ntmps25
                  go_wp2
                  go_ret
                  exact ⟨by rw [HR.out]; rfl, hbl⟩
              · have d_o1 : decide ((1 : Int) ≤ over) = false := decide_eq_false (by omega)
                have HR : Hid (CV.ok true ⟨key, val, over, size, child⟩ = false) := Lib.hid (by rw [← Bool.not_eq_true, CV.ok_leaf]; omega)
                clear h0 h1 h2 h3 h4 h5
                go_enter Try.func25, Try.ntmps25
                go_wp2
                go_ret
                exact ⟨by rw [HR.out]; rfl, hbl⟩
            · obtain ⟨d_v, e_v, f_v, g_v⟩ := empty_iff val false (decide_eq_false (by omega))
              have HR : Hid (CV.ok true ⟨key, val, over, size, child⟩ = false) := Lib.hid (by rw [← Bool.not_eq_true, CV.ok_leaf]; omega)
              clear h0 h1 h2 h3 h4
              go_enter Try.func25, Try.ntmps25
              go_wp2
              go_ret
              exact ⟨by rw [HR.out]; rfl, hbl⟩
end Go.Proofs.Ytegmffeokfahjaa
