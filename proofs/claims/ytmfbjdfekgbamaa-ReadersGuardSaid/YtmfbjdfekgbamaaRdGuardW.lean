/-
  P7.2 (guard), of any table that meets the kit: the statement's function returns true, whatever it is handed. No conditions but those typed.
-/
import Derived.Test.YtmfbjdfekgbamaaRdKit
namespace Go.Proofs.Ytmfbjdfekgbamaa
open Go.RowKit
namespace Rd
theorem enters_E {l : List Int} {n : Int} (h : enters l n = true) : enterE l n = 0 ∧ enterL l n = l.set (free l) n ∧ enterI l n = (free l : Nat) ∧ free l < 4 ∧ 0 ≤ n ∧ n ≤ 1099511627776 := by
  have hh := h
  unfold enters at hh
  rw [Bool.and_eq_true, decide_eq_true_eq] at hh
  have hm := (may_iff n).1 hh.1
  refine ⟨?_, ?_, ?_, hh.2, hm.1, hm.2⟩
  · unfold enterE; rw [if_pos hh.1, if_pos hh.2]
  · unfold enterL; rw [if_pos h]
  · unfold enterI; rw [if_pos h]
theorem enters_not {l : List Int} {n : Int} (h : enters l n = false) : enterE l n ≠ 0 ∧ enterL l n = l := by
  constructor
  · unfold enterE
    unfold enters at h
    split
    · rename_i hm
      rw [hm, Bool.true_and, decide_eq_false_iff_not] at h
      rw [if_neg h]
      decide
    · decide
  · unfold enterL; rw [h]; rfl
theorem has_nat (k : Nat) (h : k < 4) : has (k : Nat) = true := (rd_has _).2 (by omega)
end Rd
set_option maxRecDepth 100000 in
set_option maxHeartbeats 3200000 in
theorem rdguard_any (At : World → Nat → List Int → List Nat → Prop) (D : RdKit At) (w : World) (v : Value) (xs : List (Int × Int)) (hx : PairsAt w w.heap.size v xs) (txn now : Int) : Calls Try.prog 4 #[v, .int .i64 txn, .int .i64 now] w fun e w' => e = .returned (.bool true) ∧ Below w.heap.size w w' := by
  have HX := Lib.hid hx
  obtain ⟨A, cap, rfl, _, _⟩ := hx
  go_enter Try.func4, Try.ntmps4
  go_wp2_with fail
  refine (rawake_ok At D _).mono ?_
  rintro _ w1 ⟨rfl, hb1⟩
  go_wp2_with fail
  refine (D.news w1 w.heap.size hb1.size).mono ?_
  rintro _ w2 ⟨p, rfl, hH2, hb2⟩
  have HB2 := Lib.hid (hb1.trans (hb2.mono hb1.size))
  have HH2 := Lib.hid hH2
  clear hb1 hb2 hH2
  go_wp2
  go_loopw [8] (fun ii wr => ∃ (j : Nat) (l : List Int), j ≤ xs.length ∧ ii = .int .i64 j ∧ Hid (RdHas At w.heap.size p l wr) ∧ Below w.heap.size w wr) (fun ii _ => xs.length - (intOf ii).toNat)
  case atStart => exact ⟨0, _, by omega, rfl, HH2, HB2.out⟩
  case round =>
    obtain ⟨j, l, hj, rfl, HH, hBr⟩ := hrel
    have hge := hBr.size
    by_cases hlt : j < xs.length ∧ j < 60
    · obtain ⟨hlt, hl6⟩ := hlt
      have t1 : decide (j < xs.length) = true := decide_eq_true hlt
      have t2 : decide ((j : Int) < 60) = true := decide_eq_true (by omega)
      obtain ⟨b, off, hA, hbl, c0, c1⟩ := (HX.out.below hBr).get j hlt
      obtain ⟨kind, hk⟩ : ∃ k, xs[j].1 = k := ⟨_, rfl⟩
      obtain ⟨n, hn⟩ : ∃ k, xs[j].2 = k := ⟨_, rfl⟩
      rw [hk] at c0
      rw [hn] at c1
      have i0 : (0 : Int) ≤ (j : Int) := by omega
      have i1 : (j : Int) < (xs.length : Int) := by omega
      have hbw : b < wr.heap.size := Nat.lt_of_lt_of_le hbl hge
      have HBr := Lib.hid hBr
      subst hA
      clear hk hn hBr
      by_cases k1 : kind = 1
      · have d1 : (kind == 1) = true := by rw [beq_iff_eq]; exact k1
        clear k1
        go_wp2_with fail
        refine (D.enters n hge HH.out).mono ?_
        rintro _ w3 ⟨rfl, hH3, hb3⟩
        have HH3 := Lib.hid hH3
        clear hH3
        go_wp2
        go_roundw
        case rel => exact ⟨j + 1, _, by omega, by go_num, HH3, HBr.out.trans hb3⟩
        case measure => simp [intOf]; omega
      · have d1 : (kind == 1) = false := by rw [beq_eq_false_iff_ne]; exact k1
        clear k1
        by_cases k2 : kind = 2
        · have d2 : (kind == 2) = true := by rw [beq_iff_eq]; exact k2
          clear k2
          go_wp2_with fail
          refine (D.leaves n hge HH.out).mono ?_
          rintro _ w3 ⟨rfl, hH3, hb3⟩
          have HH3 := Lib.hid hH3
          clear hH3
          go_wp2
          go_roundw
          case rel => exact ⟨j + 1, _, by omega, by go_num, HH3, HBr.out.trans hb3⟩
          case measure => simp [intOf]; omega
        · have d2 : (kind == 2) = false := by rw [beq_eq_false_iff_ne]; exact k2
          clear k2
          go_wp2
          go_roundw
          case rel => exact ⟨j + 1, l, by omega, by go_num, HH, HBr.out⟩
          case measure => simp [intOf]; omega
    · have HBr := Lib.hid hBr
      have O1 := fun (l' : List Int) wx (hb : w.heap.size ≤ wx.heap.size) (h : RdHas At w.heap.size p l' wx) => D.olds now hb h
      have hgo : decide (j < xs.length) = false ∨ (decide (j < xs.length) = true ∧ decide ((j : Int) < 60) = false) := by
        by_cases h : j < xs.length
        · exact .inr ⟨decide_eq_true h, decide_eq_false (by omega)⟩
        · exact .inl (decide_eq_false h)
      obtain ⟨was, hwas⟩ : ∃ x, Rd.oldest l now = x := ⟨_, rfl⟩
      have OW : Hid (∀ wx, w.heap.size ≤ wx.heap.size → RdHas At w.heap.size p l wx → Calls Try.prog 15 #[.pointer (some ⟨p, 0, none⟩), .int .i64 now] wx fun e w' => e = .returned (.int .i64 was) ∧ RdHas At w.heap.size p l w' ∧ Below w.heap.size wx w') := Lib.hid (fun wx hb h => by have := O1 l wx hb h; rwa [hwas] at this)
      have hOk : Rd.Ok l := by obtain ⟨_, _, _, h⟩ := HH.out; exact h
      clear hBr
      cases he : Rd.enters l txn with
      | true =>
        obtain ⟨e1, e2, e3, hf4, hn0, hn1⟩ := Rd.enters_E he
        have hlen := hOk.1
        have hfl : Rd.free l < l.length := by rw [hlen]; exact hf4
        have hat := Rd.free_ok hOk hf4
        have hmin : Rd.oldest (l.set (Rd.free l) txn) now = min was txn := by rw [Rd.oldest_set l _ hfl (by rw [hat]; decide) txn now hn0, hwas]
        obtain ⟨l2, hl2⟩ : ∃ x, l.set (Rd.free l) txn = x := ⟨_, rfl⟩
        have hback : l2.set (Rd.free l) (-1) = l := by rw [← hl2]; exact Rd.set_back hOk hf4 txn
        have hat2 : Rd.at_ l2 (Rd.free l : Nat) = txn := by rw [← hl2]; exact Rd.at_set _ hfl txn
        have hat1 : Rd.at_ l (Rd.free l : Nat) = -1 := by unfold Rd.at_; rw [List.getD_eq_getElem?_getD]; simp [hfl, hat]
        have hhas := Rd.has_nat (Rd.free l) hf4
        rw [hl2] at e2 hmin
        obtain ⟨f, hf⟩ : ∃ f, Rd.free l = f := ⟨_, rfl⟩
        rw [hf] at e3 hback hat2 hat1 hhas
        obtain ⟨mn, hmn⟩ : ∃ x, min was txn = x := ⟨_, rfl⟩
        rw [hmn] at hmin
        have EW : Hid (∀ wx, w.heap.size ≤ wx.heap.size → RdHas At w.heap.size p l wx → Calls Try.prog 9 #[.pointer (some ⟨p, 0, none⟩), .int .i64 txn] wx fun e w' => e = .returned (.tuple #[.int .i64 (f : Nat), .int .i64 0]) ∧ RdHas At w.heap.size p l2 w' ∧ Below w.heap.size wx w') := Lib.hid (fun wx hb h => by have := D.enters txn hb h; rwa [e1, e2, e3] at this)
        have OM : Hid (∀ wx, w.heap.size ≤ wx.heap.size → RdHas At w.heap.size p l2 wx → Calls Try.prog 15 #[.pointer (some ⟨p, 0, none⟩), .int .i64 now] wx fun e w' => e = .returned (.int .i64 mn) ∧ RdHas At w.heap.size p l2 w' ∧ Below w.heap.size wx w') := Lib.hid (fun wx hb h => by have := O1 l2 wx hb h; rwa [hmin] at this)
        have l1 : Rd.leaveE l2 (f : Nat) = 0 := by unfold Rd.leaveE; rw [if_pos hhas, hat2, if_neg (by omega)]
        have l2' : Rd.leaveL l2 (f : Nat) = l := by
          unfold Rd.leaveL Rd.there
          rw [hhas, hat2, decide_eq_true hn0]
          simpa using hback
        have l3 : Rd.leaveE l (f : Nat) = 7 := by unfold Rd.leaveE; rw [if_pos hhas, hat1]; rfl
        have LW : Hid (∀ wx, w.heap.size ≤ wx.heap.size → RdHas At w.heap.size p l2 wx → Calls Try.prog 11 #[.pointer (some ⟨p, 0, none⟩), .int .i64 (f : Nat)] wx fun e w' => e = .returned (.int .i64 0) ∧ RdHas At w.heap.size p l w' ∧ Below w.heap.size wx w') := Lib.hid (fun wx hb h => by have := D.leaves (f : Nat) hb h; rwa [l1, l2'] at this)
        have LN : Hid (∀ wx, w.heap.size ≤ wx.heap.size → RdHas At w.heap.size p l wx → Calls Try.prog 11 #[.pointer (some ⟨p, 0, none⟩), .int .i64 (f : Nat)] wx fun e w' => e = .returned (.int .i64 7) ∧ Below w.heap.size wx w') := Lib.hid (fun wx hb h => by
          have := D.leaves (f : Nat) hb h
          rw [l3] at this
          exact this.mono fun _ _ ⟨h1, _, h3⟩ => ⟨h1, h3⟩)
        have hminb : ∀ (ts : Array TypeId) (t : TypeId) w, (Builtin.min_ ts t #[.int .i64 was, .int .i64 txn]).run Try.prog w = .ok (.int .i64 mn) w := fun ts t w => by
          rw [run_min_int2]
          congr 2
          split <;> omega
        clear O1 hwas hOk he e1 e2 e3 hn0 hn1 hfl hat hmin hl2 hback hat2 hat1 hhas hf hmn l1 l2' l3 hlen hf4
        rcases hgo with t1 | ⟨t1, t2⟩
        all_goals
          go_wp2_with fail
          refine (OW.out _ hge HH.out).mono ?_
          rintro _ w3 ⟨rfl, hH3, hb3⟩
          have hc3 := HBr.out.trans hb3
          go_wp2_with fail
          refine (EW.out _ hc3.size hH3).mono ?_
          rintro _ w4 ⟨rfl, hH4, hb4⟩
          have hc4 := hc3.trans hb4
          go_wp2_with fail
          refine (OM.out _ hc4.size hH4).mono ?_
          rintro _ w5 ⟨rfl, hH5, hb5⟩
          have hc5 := hc4.trans hb5
          go_wp2_with fail
          refine (LW.out _ hc5.size hH5).mono ?_
          rintro _ w6 ⟨rfl, hH6, hb6⟩
          have hc6 := hc5.trans hb6
          go_wp2_with fail
          refine (OW.out _ hc6.size hH6).mono ?_
          rintro _ w7 ⟨rfl, hH7, hb7⟩
          have hc7 := hc6.trans hb7
          go_wp2_with fail
          refine (LN.out _ hc7.size hH7).mono ?_
          rintro _ w8 ⟨rfl, hb8⟩
          go_wp2
          go_ret
          exact ⟨rfl, hc7.trans hb8⟩
      | false =>
        obtain ⟨e1, e2⟩ := Rd.enters_not he
        obtain ⟨E, hE⟩ : ∃ x, Rd.enterE l txn = x := ⟨_, rfl⟩
        obtain ⟨I, hI⟩ : ∃ x, Rd.enterI l txn = x := ⟨_, rfl⟩
        have EW : Hid (∀ wx, w.heap.size ≤ wx.heap.size → RdHas At w.heap.size p l wx → Calls Try.prog 9 #[.pointer (some ⟨p, 0, none⟩), .int .i64 txn] wx fun e w' => e = .returned (.tuple #[.int .i64 I, .int .i64 E]) ∧ RdHas At w.heap.size p l w' ∧ Below w.heap.size wx w') := Lib.hid (fun wx hb h => by have := D.enters txn hb h; rwa [e2, hE, hI] at this)
        have d1 : (E != 0) = true := by rw [bne_iff_ne, ← hE]; exact e1
        clear O1 hwas hOk he e1 e2 hE hI
        rcases hgo with t1 | ⟨t1, t2⟩
        all_goals
          go_wp2_with fail
          refine (OW.out _ hge HH.out).mono ?_
          rintro _ w3 ⟨rfl, hH3, hb3⟩
          have hc3 := HBr.out.trans hb3
          go_wp2_with fail
          refine (EW.out _ hc3.size hH3).mono ?_
          rintro _ w4 ⟨rfl, hH4, hb4⟩
          have hc4 := hc3.trans hb4
          go_wp2_with fail
          refine (OW.out _ hc4.size hH4).mono ?_
          rintro _ w5 ⟨rfl, hH5, hb5⟩
          go_wp2
          go_ret
          exact ⟨rfl, hc4.trans hb5⟩
end Go.Proofs.Ytmfbjdfekgbamaa
