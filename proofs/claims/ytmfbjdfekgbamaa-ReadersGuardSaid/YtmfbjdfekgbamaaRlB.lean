/-
  The landed table of readers: Reads, Leave, Enter; of nil too. Conditions: the table has four slots, each free or a transaction's.
-/
import Derived.Test.YtmfbjdfekgbamaaRlA
namespace Go.Proofs.Ytmfbjdfekgbamaa
open Go.RowKit
namespace Rd
theorem at_get {l : List Int} {k : Nat} (hk : k < l.length) : at_ l (k : Nat) = l[k] := by unfold at_; rw [List.getD_eq_getElem?_getD]; simp [hk]
theorem lslot_nat {k : Nat} (hk : k < 4) : has (k : Nat) = true := (rd_has _).2 ⟨by omega, by omega⟩
theorem there_get {l : List Int} {k : Nat} (hk : k < l.length) (h4 : k < 4) : there l (k : Nat) = hd l[k] := by unfold there hd; rw [at_get hk, lslot_nat h4]; rfl
theorem readN_get {l : List Int} {k : Nat} (hk : k < l.length) (h4 : k < 4) : readN l (k : Nat) = tx l[k] := by
  unfold readN
  rw [there_get hk h4, at_get hk]
  unfold hd tx
  by_cases h : 0 ≤ l[k]
  · rw [if_pos (decide_eq_true h), if_pos h]
  · rw [if_neg (by simpa using h), if_neg h]
theorem there_no {l : List Int} {i : Int} (h : has i = false) : there l i = false := by unfold there; rw [h]; rfl
theorem readN_no {l : List Int} {i : Int} (h : has i = false) : readN l i = 0 := by unfold readN; rw [there_no h]; rfl
end Rd
set_option maxRecDepth 100000 in
set_option maxHeartbeats 1600000 in
theorem rlreads_ok (w : World) (p : Nat) (l : List Int) (F : List Nat) (i : Int) (hok : Rd.Ok l) (hA : RLAt w p l F) : Calls Try.prog 17 #[.pointer (some ⟨p, 0, none⟩), .int .i64 i] w fun e w' => e = .returned (.tuple #[.int .i64 (Rd.readN l i), .bool (Rd.there l i)]) ∧ Below w.heap.size w w' := by
  have SL := fun w => Lib.hid (rlslot_ok w i)
  by_cases hh : Rd.has i = true
  · have hi := (rd_has i).1 hh
    obtain ⟨k, rfl⟩ := Int.eq_ofNat_of_zero_le hi.1
    have hk4 : k < 4 := by omega
    have i0 : (0 : Int) ≤ (k : Int) := by omega
    have i1 : (k : Int) < 4 := by omega
    obtain ⟨hF, hpl, cg, fg⟩ := hA.cells
    have hkl : k < l.length := by rw [hok.1]; exact hk4
    obtain ⟨c0, c1⟩ := cg k hkl
    have HE1 : Hid (Rd.there l (k : Nat) = Rd.hd l[k]) := Lib.hid (Rd.there_get hkl hk4)
    have HE2 : Hid (Rd.readN l (k : Nat) = Rd.tx l[k]) := Lib.hid (Rd.readN_get hkl hk4)
    rw [HE1.out, HE2.out]
    obtain ⟨b, hb⟩ : ∃ b, Rd.hd l[k] = b := ⟨_, rfl⟩
    obtain ⟨t, ht⟩ : ∃ b, Rd.tx l[k] = b := ⟨_, rfl⟩
    rw [hb] at c0 ⊢
    rw [ht] at c1 ⊢
    rw [hh] at SL
    clear hA cg fg hh hi hok hkl HE1 HE2 hb ht
    go_enter Try.func17, Try.ntmps17
    go_wp2_with fail
    refine (SL _).out.mono ?_
    rintro _ _ ⟨rfl, rfl⟩
    go_wp2_with fail
    go_quiet (fail)
    go_wp2
    go_ret2
    exact ⟨rfl, ⟨rfl, rfl, rfl, Nat.le_refl _, fun _ _ => rfl⟩⟩
  · have hf : Rd.has i = false := by simpa using hh
    rw [Rd.there_no hf, Rd.readN_no hf]
    rw [hf] at SL
    clear hA hh hok hf
    go_enter Try.func17, Try.ntmps17
    go_wp2_with fail
    refine (SL _).out.mono ?_
    rintro _ _ ⟨rfl, rfl⟩
    go_wp2
    go_ret2
    exact ⟨rfl, Below.refl _ _⟩
set_option maxRecDepth 100000 in
set_option maxHeartbeats 1600000 in
theorem rlnilreads_ok (w : World) (n : Int) : Calls Try.prog 17 #[.pointer none, .int .i64 n] w fun e w' => e = .returned (.tuple #[.int .i64 0, .bool false]) ∧ Below w.heap.size w w' := by
  go_enter Try.func17, Try.ntmps17
  go_wp2
  go_ret2
  exact ⟨rfl, Below.refl _ _⟩
set_option maxRecDepth 100000 in
set_option maxHeartbeats 1600000 in
theorem rlnilleave_ok (w : World) (n : Int) : Calls Try.prog 11 #[.pointer none, .int .i64 n] w fun e w' => e = .returned (.int .i64 2) ∧ Below w.heap.size w w' := by
  go_enter Try.func11, Try.ntmps11
  go_wp2
  go_ret
  exact ⟨rfl, Below.refl _ _⟩
set_option maxRecDepth 100000 in
set_option maxHeartbeats 1600000 in
theorem rlnilenter_ok (w : World) (n : Int) : Calls Try.prog 9 #[.pointer none, .int .i64 n] w fun e w' => e = .returned (.tuple #[.int .i64 0, .int .i64 2]) ∧ Below w.heap.size w w' := by
  go_enter Try.func9, Try.ntmps9
  go_wp2
  go_ret2
  exact ⟨rfl, Below.refl _ _⟩
set_option maxRecDepth 100000 in
set_option maxHeartbeats 1600000 in
theorem rlleave_ok (w : World) (p : Nat) (l : List Int) (F : List Nat) (i : Int) (hok : Rd.Ok l) (hA : RLAt w p l F) : Calls Try.prog 11 #[.pointer (some ⟨p, 0, none⟩), .int .i64 i] w (RdDid RLAt w p F (Rd.leaveL l i) (.returned (.int .i64 (Rd.leaveE l i)))) := by
  have SL := fun w => Lib.hid (rlslot_ok w i)
  have HA := Lib.hid hA
  by_cases hh : Rd.has i = true
  · have hi := (rd_has i).1 hh
    obtain ⟨k, rfl⟩ := Int.eq_ofNat_of_zero_le hi.1
    have hk4 : k < 4 := by omega
    have i0 : (0 : Int) ≤ (k : Int) := by omega
    have i1 : (k : Int) < 4 := by omega
    obtain ⟨hF, hpl, cg, fg⟩ := hA.cells
    have hkl : k < l.length := by rw [hok.1]; exact hk4
    obtain ⟨c0, c1⟩ := cg k hkl
    have f0 := fg (k * 2)
    have f1 := fg (k * 2 + 1)
    have HT := Rd.there_get hkl hk4
    have hat := Rd.at_get hkl
    rw [hh] at SL
    obtain ⟨t, ht⟩ : ∃ b, Rd.tx l[k] = b := ⟨_, rfl⟩
    rw [ht] at c1
    by_cases hx : 0 ≤ l[k]
    · have hd : Rd.hd l[k] = true := decide_eq_true hx
      rw [hd] at c0 HT
      have HP := Lib.hid (hA.put k hk4 (-1))
      have HE1 : Hid (Rd.leaveL l (k : Nat) = l.set k (-1)) := Lib.hid (by unfold Rd.leaveL; rw [if_pos HT]; rfl)
      have HE2 : Hid (Rd.leaveE l (k : Nat) = 0) := Lib.hid (by unfold Rd.leaveE; rw [if_pos hh, hat, if_neg (by omega)])
      rw [HE1.out, HE2.out]
      clear hA cg fg hh hi hok hkl HT hat HE1 HE2 hd hx ht HA hF
      go_enter Try.func11, Try.ntmps11
      go_wp2_with fail
      refine (SL _).out.mono ?_
      rintro _ _ ⟨rfl, rfl⟩
      go_wp2
      go_ret
      exact ⟨rfl, F, HP.out.1, HP.out.2, Grows.refl _ _⟩
    · have hd : Rd.hd l[k] = false := decide_eq_false hx
      rw [hd] at c0 HT
      have HE1 : Hid (Rd.leaveL l (k : Nat) = l) := Lib.hid (by unfold Rd.leaveL; rw [HT]; rfl)
      have HE2 : Hid (Rd.leaveE l (k : Nat) = 7) := Lib.hid (by unfold Rd.leaveE; rw [if_pos hh, hat, if_pos (by omega)])
      rw [HE1.out, HE2.out]
      clear hA cg fg hh hi hok hkl HT hat HE1 HE2 hd hx ht hF
      go_enter Try.func11, Try.ntmps11
      go_wp2_with fail
      refine (SL _).out.mono ?_
      rintro _ _ ⟨rfl, rfl⟩
      go_wp2
      go_ret
      exact ⟨rfl, F, HA.out, Touch.refl _ _, Grows.refl _ _⟩
  · have hf : Rd.has i = false := by simpa using hh
    have HE1 : Hid (Rd.leaveL l i = l) := Lib.hid (by unfold Rd.leaveL; rw [Rd.there_no hf]; rfl)
    have HE2 : Hid (Rd.leaveE l i = 1) := Lib.hid (by unfold Rd.leaveE; rw [hf]; rfl)
    rw [hf] at SL
    rw [HE1.out, HE2.out]
    clear hA hh hok hf HE1 HE2
    go_enter Try.func11, Try.ntmps11
    go_wp2_with fail
    refine (SL _).out.mono ?_
    rintro _ _ ⟨rfl, rfl⟩
    go_wp2
    go_ret
    exact ⟨rfl, F, HA.out, Touch.refl _ _, Grows.refl _ _⟩
end Go.Proofs.Ytmfbjdfekgbamaa
