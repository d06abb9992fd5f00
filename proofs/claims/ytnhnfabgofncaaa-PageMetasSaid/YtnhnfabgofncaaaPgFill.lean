/-
  Contract of the landed page's fill (package page): a text with noughts behind it, by the library's contract of strings.Repeat. Conditions: a text no longer than the bytes asked for, at most 2000.
-/
import Derived.Test.YtnhnfabgofncaaaRepeat
import Derived.Test.YtnhnfabgofncaaaPgSmall
namespace Go.Proofs.Ytnhnfabgofncaaa
open Go.RowKit Go.Shelf
theorem repeatExtra : Builder.Extra Try.prog Try.repeatLays_ren := {
  sizeBuilder := by kernel_rfl
  liesBuilder := by kernel_rfl
  t5 := Try.repeatLays.t5
  a5 := Try.repeatLays.a5
  z5 := Try.repeatLays.z5
  v5 := Try.repeatLays.v5
  infoByte := by kernel_rfl
  cellsByte := by kernel_rfl
  sizeByte := by kernel_rfl
  neB5 := by decide }
theorem repeat_noughts (c : Nat) (w : World) (hc : c ≤ 2000) :
    Calls Try.prog 41 #[.string ⟨#[0]⟩, .int .i64 c] w fun e w' => e = .returned (.string (ba (Page.noughts c))) ∧ Below w.heap.size w w' := by
  have h := Any.strings_Repeat Try.repeatLays repeatExtra ⟨#[0]⟩ c w (by omega) (by rw [show (⟨#[0]⟩ : ByteArray).size = 1 from rfl]; omega)
  have e : Lib.repeatL (⟨#[0]⟩ : ByteArray).data.toList c = Page.noughts c := by
    have := Lib.repeatL_replicate 0 1 c
    rw [Nat.mul_one] at this
    exact this
  rw [e] at h
  exact h
theorem fill_ok (s : ByteArray) (n : Nat) (h : s.size ≤ n) (hn : n ≤ 2000) (w : World) :
    Calls Try.prog 35 #[.string s, .int .i64 n] w fun e w' => e = .returned (.string (s ++ ba (Page.noughts (n - s.size)))) ∧ Below w.heap.size w w' := by
  obtain ⟨r, hr⟩ : ∃ r : Nat, n - s.size = r := ⟨_, rfl⟩
  have hd : (n : Int) - (s.size : Int) = (r : Int) := by omega
  have C := fun w => Lib.hid (repeat_noughts r w (by omega))
  rw [hr]
  have hz : (ba (Page.noughts r)).size = r := by rw [ba_size]; simp [Page.noughts]
  obtain ⟨Z, hZ⟩ : ∃ Z, ba (Page.noughts r) = Z := ⟨_, rfl⟩
  rw [hZ] at C hz ⊢
  clear hr hZ
  have q : ¬ ((9223372036854775807 : Int) < (s.size : Int) + (Z.size : Int)) := by omega
  go_enter Try.func35, Try.ntmps35
  go_wp2_with fail
  refine (C _).out.mono ?_
  rintro _ w1 ⟨rfl, hb1⟩
  go_wp2
  go_ret
  exact ⟨rfl, hb1⟩
end Go.Proofs.Ytnhnfabgofncaaa
