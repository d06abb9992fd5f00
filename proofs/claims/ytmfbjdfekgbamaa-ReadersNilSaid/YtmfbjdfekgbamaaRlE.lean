/-
  The landed table of readers: Clear, Oldest, of nil too; it meets the kit. Conditions: the table has four slots, each free or a transaction's.
-/
import Derived.Test.YtmfbjdfekgbamaaRlD
namespace Go.Proofs.Ytmfbjdfekgbamaa
open Go.RowKit
set_option maxRecDepth 100000 in
set_option maxHeartbeats 1600000 in
theorem rlnilclear_ok (w : World) : Calls Try.prog 13 #[.pointer none] w fun e w' => e = .returned (.int .i64 0) ∧ Below w.heap.size w w' := by
  go_enter Try.func13, Try.ntmps13
  go_wp2
  go_ret
  exact ⟨rfl, Below.refl _ _⟩
set_option maxRecDepth 100000 in
set_option maxHeartbeats 1600000 in
theorem rlnilold_ok (w : World) (n : Int) : Calls Try.prog 15 #[.pointer none, .int .i64 n] w fun e w' => e = .returned (.int .i64 n) ∧ Below w.heap.size w w' := by
  go_enter Try.func15, Try.ntmps15
  go_wp2_with fail
  refine (rlnillive_ok w).mono ?_
  rintro _ w1 ⟨A, cap, rfl, hb1⟩
  go_wp2
  go_loop [5, 12] (fun mm ii => mm = .int .i64 n ∧ ii = .int .i64 0) (fun _ _ => 0)
  case atStart => exact ⟨rfl, rfl⟩
  case round =>
    obtain ⟨rfl, rfl⟩ := hrel
    go_wp2
    go_ret
    exact ⟨rfl, hb1⟩
set_option maxRecDepth 100000 in
set_option maxHeartbeats 1600000 in
theorem rlold_ok (w : World) (p : Nat) (l : List Int) (F : List Nat) (now : Int) (hok : Rd.Ok l) (hA : RLAt w p l F) : Calls Try.prog 15 #[.pointer (some ⟨p, 0, none⟩), .int .i64 now] w fun e w' => e = .returned (.int .i64 (Rd.oldest l now)) ∧ Below w.heap.size w w' := by
  have LV := Lib.hid (rllive_ok w p l F hok hA)
  have HOK := Lib.hid hok
  obtain ⟨R, hR⟩ : ∃ R, Rd.oldest l now = R := ⟨_, rfl⟩
  have HR := Lib.hid hR
  rw [hR]
  clear hA hok hR
  go_enter Try.func15, Try.ntmps15
  go_wp2_with fail
  refine LV.out.mono ?_
  rintro _ w1 ⟨V, L, rfl, hI, hlive, hb1⟩
  obtain ⟨A, cap, rfl, hc⟩ := hI
  have HC := Lib.hid hc
  have HF : Hid (R = L.foldl min now) := Lib.hid (by rw [← HR.out]; exact hlive.oldest now)
  have hlen : L.length ≤ 4 := by
    rw [hlive.length HOK.out]
    unfold Rd.count
    omega
  clear hc hlive LV
  go_wp2
  go_loop [5, 12] (fun mm ii => ∃ (k : Nat) (m : Int), k ≤ L.length ∧ mm = .int .i64 m ∧ ii = .int .i64 k ∧ Hid (m = (L.take k).foldl min now)) (fun _ ii => L.length - (intOf ii).toNat)
  case atStart => exact ⟨0, now, by omega, rfl, rfl, Lib.hid rfl⟩
  case round =>
    obtain ⟨k, m, hk, rfl, rfl, HM⟩ := hrel
    by_cases hkl : k < L.length
    · have t1 : decide ((k : Int) < (L.length : Int)) = true := decide_eq_true (by omega)
      obtain ⟨b, off, rfl, hlt, ck⟩ := HC.out k hkl
      have i0 : (0 : Int) ≤ (k : Int) := by omega
      have i1 : (k : Int) < (L.length : Int) := by omega
      have hs := Rd.fold_take L now k hkl
      rw [← HM.out] at hs
      obtain ⟨x, hx⟩ : ∃ x, L[k] = x := ⟨_, rfl⟩
      rw [hx] at ck hs
      have HS := Lib.hid hs
      clear hx hs
      go_wp2
      go_round
      case rel => exact ⟨k + 1, min m x, by omega, rfl, by go_num, Lib.hid HS.out.symm⟩
      case measure => simp [intOf]; omega
    · have t1 : decide ((k : Int) < (L.length : Int)) = false := decide_eq_false (by omega)
      have HE : Hid (m = R) := Lib.hid (by rw [HM.out, HF.out, List.take_of_length_le (by omega)])
      go_wp2
      go_ret
      exact ⟨by rw [← HE.out]; rfl, hb1⟩
theorem tab_noughts (a b c d : Int) : ((((((((tabCells a b c d).setIfInBounds 0 (.bool false)).setIfInBounds 1 (.int .i64 0)).setIfInBounds 2 (.bool false)).setIfInBounds 3 (.int .i64 0)).setIfInBounds 4 (.bool false)).setIfInBounds 5 (.int .i64 0)).setIfInBounds 6 (.bool false)).setIfInBounds 7 (.int .i64 0) = tabCells (-1) (-1) (-1) (-1) := by
  unfold tabCells
  simp [Rd.hd, Rd.tx]
theorem tab_cleared {w : World} {p : Nat} {a b c d : Int} (h : Blk w p (tabCells a b c d) 47) : Blk ((((((((w.setCell ⟨p, 0, none⟩ (.bool false)).setCell ⟨p, 1, none⟩ (.int .i64 0)).setCell ⟨p, 2, none⟩ (.bool false)).setCell ⟨p, 3, none⟩ (.int .i64 0)).setCell ⟨p, 4, none⟩ (.bool false)).setCell ⟨p, 5, none⟩ (.int .i64 0)).setCell ⟨p, 6, none⟩ (.bool false)).setCell ⟨p, 7, none⟩ (.int .i64 0)) p (tabCells (-1) (-1) (-1) (-1)) 47 := by
  have h0 := h.set 0 (.bool false)
  have h1 := h0.set 1 (.int .i64 0)
  have h2 := h1.set 2 (.bool false)
  have h3 := h2.set 3 (.int .i64 0)
  have h4 := h3.set 4 (.bool false)
  have h5 := h4.set 5 (.int .i64 0)
  have h6 := h5.set 6 (.bool false)
  have h7 := h6.set 7 (.int .i64 0)
  rw [tab_noughts] at h7
  exact h7
theorem tab_touched {w0 w : World} {p : Nat} (h : Touch [p] w0 w) : Touch [p] w0 ((((((((w.setCell ⟨p, 0, none⟩ (.bool false)).setCell ⟨p, 1, none⟩ (.int .i64 0)).setCell ⟨p, 2, none⟩ (.bool false)).setCell ⟨p, 3, none⟩ (.int .i64 0)).setCell ⟨p, 4, none⟩ (.bool false)).setCell ⟨p, 5, none⟩ (.int .i64 0)).setCell ⟨p, 6, none⟩ (.bool false)).setCell ⟨p, 7, none⟩ (.int .i64 0)) := by
  have h0 := h.setCell (p := ⟨p, 0, none⟩) (.inl (List.mem_cons_self ..)) (.bool false)
  have h1 := h0.setCell (p := ⟨p, 1, none⟩) (.inl (List.mem_cons_self ..)) (.int .i64 0)
  have h2 := h1.setCell (p := ⟨p, 2, none⟩) (.inl (List.mem_cons_self ..)) (.bool false)
  have h3 := h2.setCell (p := ⟨p, 3, none⟩) (.inl (List.mem_cons_self ..)) (.int .i64 0)
  have h4 := h3.setCell (p := ⟨p, 4, none⟩) (.inl (List.mem_cons_self ..)) (.bool false)
  have h5 := h4.setCell (p := ⟨p, 5, none⟩) (.inl (List.mem_cons_self ..)) (.int .i64 0)
  have h6 := h5.setCell (p := ⟨p, 6, none⟩) (.inl (List.mem_cons_self ..)) (.bool false)
  have h7 := h6.setCell (p := ⟨p, 7, none⟩) (.inl (List.mem_cons_self ..)) (.int .i64 0)
  exact h7
set_option maxRecDepth 100000 in
set_option maxHeartbeats 1600000 in
theorem rlclear_ok (w : World) (p : Nat) (l : List Int) (F : List Nat) (hok : Rd.Ok l) (hA : RLAt w p l F) : Calls Try.prog 13 #[.pointer (some ⟨p, 0, none⟩)] w (RdDid RLAt w p F Rd.none4 (.returned (.int .i64 (Rd.count l : Nat)))) := by
  have LV := Lib.hid (rllive_ok w p l F hok hA)
  have HOK := Lib.hid hok
  obtain ⟨a, b, c, d, hl, hp, rfl⟩ := hA
  clear hok
  have HP := Lib.hid hp
  have hpl := hp.lt
  clear hp hl
  go_enter Try.func13, Try.ntmps13
  go_wp2_with fail
  refine LV.out.mono ?_
  rintro _ w1 ⟨V, L, rfl, hI, hlive, hb1⟩
  obtain ⟨A, cap, rfl, hc⟩ := hI
  have HL : Hid (L.length = Rd.count l) := Lib.hid (hlive.length HOK.out)
  have hp1 : Blk w1 p (tabCells a b c d) 47 := (hb1.block _ HP.out.lt).trans HP.out
  have HP1 := Lib.hid hp1
  have hpl1 := hp1.lt
  have c0 := hp1.cell 0
  have c1 := hp1.cell 1
  have c2 := hp1.cell 2
  have c3 := hp1.cell 3
  have c4 := hp1.cell 4
  have c5 := hp1.cell 5
  have c6 := hp1.cell 6
  have c7 := hp1.cell 7
  unfold tabCells at c0 c1 c2 c3 c4 c5 c6 c7
  simp only [List.getElem?_toArray, List.getElem?_cons_zero, List.getElem?_cons_succ] at c0 c1 c2 c3 c4 c5 c6 c7
  have f0 := hp1.free 0
  have f1 := hp1.free 1
  have f2 := hp1.free 2
  have f3 := hp1.free 3
  have f4 := hp1.free 4
  have f5 := hp1.free 5
  have f6 := hp1.free 6
  have f7 := hp1.free 7
  obtain ⟨n, hn⟩ : ∃ n, L.length = n := ⟨_, rfl⟩
  have HNN : Hid (n = Rd.count l) := Lib.hid (by rw [← hn]; exact HL.out)
  rw [hn]
  clear hc hlive LV hp1 hn
  go_wp2
  go_ret
  refine ⟨by rw [← HNN.out]; rfl, [p], ⟨-1, -1, -1, -1, rfl, ?_, rfl⟩, ?_, Grows.refl _ _⟩
  · exact tab_cleared HP1.out
  · exact tab_touched ((Touch.ofBelow hb1).more (by simp))
/-- the landed table meets the kit -/
theorem theTable : RdKit RLAt where
  lt := RLAt.lt
  touch := RLAt.touch
  new := rlnew_ok
  enter := rlenter_ok
  leave := rlleave_ok
  clear := rlclear_ok
  reads := rlreads_ok
  oldest := rlold_ok
  live := rllive_ok
  nilEnter := rlnilenter_ok
  nilLeave := rlnilleave_ok
  nilClear := rlnilclear_ok
  nilReads := rlnilreads_ok
  nilOldest := rlnilold_ok
  nilLive := rlnillive_ok
end Go.Proofs.Ytmfbjdfekgbamaa
