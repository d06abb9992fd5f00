/-
  The landed list of free pages: New, isPage, right, Has, Add, Count; of nil too. Conditions: those of a list that may be.
-/
import Derived.Test.YtjgndgcegenikaaFlA
namespace Go.Proofs.Ytjgndgcegenikaa
open Go.RowKit
namespace Fr
def isP (n : Int) : Bool := decide (1 ≤ n) && decide (n ≤ 511)
theorem isP_iff (n : Int) : isP n = true ↔ 1 ≤ n ∧ n ≤ 511 := by unfold isP; simp
theorem right_is (f : FP) : right f = (decide (0 ≤ f.1) && decide (f.1 ≤ 1099511627776) && isP f.2) := by unfold right isP; rw [Bool.and_assoc (decide (0 ≤ f.1) && _)]
end Fr
set_option maxRecDepth 100000 in
theorem flnew_ok (w : World) : Calls Try.prog 10 #[] w (FrMade FLAt [] w) := by
  have hz := flZero
  obtain ⟨Z, hZ⟩ : ∃ Z, Fr.stA (fun _ => none) = Z := ⟨_, rfl⟩
  have HE : Hid (Blk (w.alloc (.cells Z 57)) w.heap.size (Fr.stA (fun _ => none)) 57) := Lib.hid (hZ ▸ Blk.new w _ _)
  rw [hZ] at hz
  clear hZ
  go_enter Try.func10, Try.ntmps10
  go_wp2
  go_ret
  exact ⟨w.heap.size, [w.heap.size], rfl, ⟨fun _ => none, HE.out, fun k x => by simp, rfl⟩, by simp, (Below.refl _ w).alloc (Nat.le_refl _) _⟩
set_option maxRecDepth 100000 in
theorem flpage_ok (w : World) (n : Int) : Calls Try.prog 32 #[.int .i64 n] w fun e w' => e = .returned (.bool (Fr.isP n)) ∧ w = w' := by
  obtain ⟨b, hb⟩ : ∃ b, Fr.isP n = b := ⟨_, rfl⟩
  rw [hb]
  unfold Fr.isP at hb
  by_cases h0 : 1 ≤ n
  · have d1 : decide (1 ≤ n) = true := decide_eq_true h0
    by_cases h4 : n ≤ 511
    · have d2 : decide (n < 512) = true := decide_eq_true (by omega)
      have HE : Hid (b = true) := Lib.hid (by rw [← hb, d1, decide_eq_true h4]; rfl)
      clear h0 h4 hb
      go_enter Try.func32, Try.ntmps32
      go_wp2
      go_ret
      exact ⟨by rw [HE.out]; rfl, rfl⟩
    · have d2 : decide (n < 512) = false := decide_eq_false (by omega)
      have HE : Hid (b = false) := Lib.hid (by rw [← hb, d1, decide_eq_false h4]; rfl)
      clear h0 h4 hb
      go_enter Try.func32, Try.ntmps32
      go_wp2
      go_ret
      exact ⟨by rw [HE.out]; rfl, rfl⟩
  · have d1 : decide (1 ≤ n) = false := decide_eq_false h0
    have HE : Hid (b = false) := Lib.hid (by rw [← hb, d1]; rfl)
    clear h0 hb
    go_enter Try.func32, Try.ntmps32
    go_wp2
    go_ret
    exact ⟨by rw [HE.out]; rfl, rfl⟩
set_option maxRecDepth 100000 in
theorem flright_ok (w : World) (f : FP) : Calls Try.prog 28 #[fv f] w fun e w' => e = .returned (.bool (Fr.right f)) ∧ Below w.heap.size w w' := by
  obtain ⟨b, hb⟩ : ∃ b, Fr.right f = b := ⟨_, rfl⟩
  rw [hb]
  rw [Fr.right_is] at hb
  obtain ⟨x, y⟩ := f
  unfold fv
  simp only at hb ⊢
  have C := fun w => Lib.hid (flpage_ok w y)
  by_cases h0 : 0 ≤ x
  · have d1 : decide (0 ≤ x) = true := decide_eq_true h0
    by_cases h4 : x ≤ 1099511627776
    · have d2 : decide (x ≤ 1099511627776) = true := decide_eq_true h4
      have HE : Hid (b = Fr.isP y) := Lib.hid (by rw [← hb, d1, d2]; rfl)
      clear h0 h4 hb
      go_enter Try.func28, Try.ntmps28
      go_wp2_with fail
      refine (C _).out.mono ?_
      rintro _ w1 ⟨rfl, rfl⟩
      go_wp2
      go_ret
      exact ⟨by rw [HE.out]; rfl, (Below.refl _ w).alloc (Nat.le_refl _) _⟩
    · have d2 : decide (x ≤ 1099511627776) = false := decide_eq_false h4
      have HE : Hid (b = false) := Lib.hid (by rw [← hb, d1, d2]; rfl)
      clear h0 h4 hb
      go_enter Try.func28, Try.ntmps28
      go_wp2
      go_ret
      exact ⟨by rw [HE.out]; rfl, (Below.refl _ w).alloc (Nat.le_refl _) _⟩
  · have d1 : decide (0 ≤ x) = false := decide_eq_false h0
    have HE : Hid (b = false) := Lib.hid (by rw [← hb, d1]; rfl)
    clear h0 hb
    go_enter Try.func28, Try.ntmps28
    go_wp2
    go_ret
    exact ⟨by rw [HE.out]; rfl, (Below.refl _ w).alloc (Nat.le_refl _) _⟩
theorem Fr.tells_has {t : Fr.St} {l : List FP} (ht : Fr.Tells t l) (k : Nat) : (t k).isSome = Fr.has l k := by
  rw [Bool.eq_iff_iff, Fr.has_iff, Option.isSome_iff_exists]
  constructor
  · rintro ⟨x, hx⟩; exact ⟨_, (ht k x).1 hx, rfl⟩
  · rintro ⟨⟨x, y⟩, hf, hy⟩
    simp only at hy
    subst hy
    exact ⟨x, (ht k x).2 hf⟩
theorem Fr.has_far {l : List FP} (ok : Fr.Ok l) (n : Int) (h : Fr.isP n = false) : Fr.has l n = false := by
  rw [Fr.has_not]
  intro f hf e
  have := (Fr.right_iff f).1 (ok.right f hf)
  rw [← Bool.not_eq_true, Fr.isP_iff] at h
  omega
set_option maxRecDepth 100000 in
theorem flhas_ok (w : World) (p : Nat) (l : List FP) (F : List Nat) (n : Int) (ok : Fr.Ok l) (hA : FLAt w p l F) : Calls Try.prog 16 #[.pointer (some ⟨p, 0, none⟩), .int .i64 n] w fun e w' => e = .returned (.bool (Fr.has l n)) ∧ Below w.heap.size w w' := by
  have C := fun w => Lib.hid (flpage_ok w n)
  by_cases h : Fr.isP n = true
  · have hn := (Fr.isP_iff n).1 h
    obtain ⟨k, rfl⟩ := Int.eq_ofNat_of_zero_le (show 0 ≤ n by omega)
    obtain ⟨t, hp, ht, _⟩ := hA
    have hk : k < 512 := by omega
    have c0 : w.cell? ⟨p, k * 2, none⟩ = some (.bool (t k).isSome) := by
      have := hp.cell (k * 2)
      rw [this]
      exact Fr.stA_get t k 0 hk (by omega)
    rw [Fr.tells_has ht] at c0
    have hi0 : (0 : Int) ≤ (k : Int) := by omega
    have hi1 : (k : Int) < 512 := by omega
    rw [h] at C
    clear ht hp h hn
    go_enter Try.func16, Try.ntmps16
    go_wp2_with fail
    refine (C _).out.mono ?_
    rintro _ _ ⟨rfl, rfl⟩
    go_wp2
    go_ret
    exact ⟨rfl, Below.refl _ _⟩
  · have h' : Fr.isP n = false := by simpa using h
    have HE := Lib.hid (Fr.has_far ok n h')
    rw [h'] at C
    clear h h' hA
    go_enter Try.func16, Try.ntmps16
    go_wp2_with fail
    refine (C _).out.mono ?_
    rintro _ _ ⟨rfl, rfl⟩
    go_wp2
    go_ret
    exact ⟨by rw [HE.out]; rfl, Below.refl _ _⟩
set_option maxRecDepth 100000 in
theorem flhas_nil (w : World) (n : Int) : Calls Try.prog 16 #[.pointer none, .int .i64 n] w fun e w' => e = .returned (.bool false) ∧ Below w.heap.size w w' := by
  go_enter Try.func16, Try.ntmps16
  go_wp2
  go_ret
  exact ⟨rfl, Below.refl _ _⟩
set_option maxRecDepth 100000 in
theorem flcount_nil (w : World) : Calls Try.prog 18 #[.pointer none] w fun e w' => e = .returned (.int .i64 0) ∧ Below w.heap.size w w' := by
  go_enter Try.func18, Try.ntmps18
  go_wp2
  go_ret
  exact ⟨rfl, Below.refl _ _⟩
set_option maxRecDepth 100000 in
theorem flall_nil (w : World) : Calls Try.prog 20 #[.pointer none] w fun e w' => ∃ A cap, e = .returned (.slice A 0 cap) ∧ Below w.heap.size w w' := by
  go_enter Try.func20, Try.ntmps20
  go_wp2
  go_ret
  exact ⟨none, 0, rfl, Below.refl _ _⟩
set_option maxRecDepth 100000 in
theorem flcopy_nil (w : World) : Calls Try.prog 15 #[.pointer none] w fun e w' => e = .returned (.pointer none) ∧ Below w.heap.size w w' := by
  go_enter Try.func15, Try.ntmps15
  go_wp2
  go_ret
  exact ⟨rfl, Below.refl _ _⟩
set_option maxRecDepth 100000 in
theorem fladd_nil (w : World) (f : FP) : Calls Try.prog 11 #[.pointer none, fv f] w fun e w' => e = .returned (.int .i64 2) ∧ Below w.heap.size w w' := by
  obtain ⟨x, y⟩ := f
  unfold fv
  go_enter Try.func11, Try.ntmps11
  go_wp2
  go_ret
  exact ⟨rfl, (Below.refl _ w).alloc (Nat.le_refl _) _⟩
set_option maxRecDepth 100000 in
theorem fltake_nil (w : World) (u : Int) : Calls Try.prog 13 #[.pointer none, .int .i64 u] w fun e w' => e = .returned (.tuple #[.int .i64 0, .bool false]) ∧ Below w.heap.size w w' := by
  have C : ∀ w, Hid (Calls Try.prog 30 #[.pointer none] w fun e w' => e = .returned (.int .i64 0) ∧ w = w') := fun w => Lib.hid (by
    go_enter Try.func30, Try.ntmps30
    go_wp2
    go_ret
    exact ⟨rfl, rfl⟩)
  go_enter Try.func13, Try.ntmps13
  go_wp2_with fail
  refine (C _).out.mono ?_
  rintro _ _ ⟨rfl, rfl⟩
  go_wp2
  go_ret2
  exact ⟨rfl, Below.refl _ _⟩
end Go.Proofs.Ytjgndgcegenikaa
