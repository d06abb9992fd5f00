/-
  The contract of the statements' own guard (rollbooklaw01.awake): it answers true, and nothing that was in memory before has changed. No conditions.
-/
import Derived.Test.YtkbhjpgadhbakaaTuple
import Derived.Test.YtkbhjpgadhbakaaAfter
namespace Go.Proofs.Ytkbhjpgadhbakaa
open Go.RowKit
theorem tup_awake : tup [⟨#[97]⟩, ⟨#[]⟩] = [97, 0, 1, 0, 1] := by decide
theorem strs_awake (w : World) : StrsAt (w.alloc (.cells #[.string ⟨#[97]⟩, .string ⟨#[]⟩] 9)) w.heap.size 0 [⟨#[97]⟩, ⟨#[]⟩] := by
  intro i hi
  rw [Nat.zero_add, World.cell?_alloc_mark]
  match i, hi with
  | 0, _ => rfl
  | 1, _ => rfl
theorem stem_awake : Stem ⟨#[97, 255]⟩ 1 := by
  refine ⟨by decide, ?_, ?_⟩
  · intro j h hj
    have hj2 : j < 2 := h
    obtain rfl : j = 1 := by omega
    rfl
  · intro h _
    show ¬ ((97 : UInt8) = 255)
    decide
theorem be_awake : beB 258 2 0 = [1, 2] := by decide
set_option maxHeartbeats 400000 in
theorem awake_any (w : World) : Calls Try.prog 9 #[] w fun e w' => e = .returned (.bool true) ∧ Below w.heap.size w w' := by
  have c1 := tuple_ok w.heap.size 0 2 [⟨#[97]⟩, ⟨#[]⟩] (by decide) (by rw [tup_awake]; decide) _ (strs_awake w) (by simp)
  rw [tup_awake] at c1
  have C1 := Lib.hid c1
  clear c1
  have C2 := fun w => Lib.hid (put_ok ⟨#[120]⟩ 258 2 (by decide) (by decide) (by decide) (by decide) w)
  rw [be_awake] at C2
  have C3 := fun w => Lib.hid (after_some ⟨#[97, 255]⟩ (by decide) 0 stem_awake w)
  go_enter Try.func9, Try.ntmps9
  go_wp2_with fail
  refine C1.out.mono ?_
  rintro e w1 ⟨rfl, hb1⟩
  go_wp2_with fail
  refine (C2 _).out.mono ?_
  rintro e w2 ⟨rfl, hb2⟩
  go_wp2_with fail
  refine (C3 _).out.mono ?_
  rintro e w3 ⟨rfl, hb3⟩
  go_wp2
  go_ret
  refine ⟨rfl, ?_⟩
  have h1 : Below w.heap.size w w1 := ((Below.refl _ w).alloc (Nat.le_refl _) _).trans (hb1.mono (by simp))
  exact (h1.trans (hb2.mono h1.size)).trans (hb3.mono (Nat.le_trans h1.size hb2.size))
end Go.Proofs.Ytkbhjpgadhbakaa
