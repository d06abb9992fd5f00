/-
  The landed table of readers: Enter. Conditions: the table has four slots, each free or a transaction's.
-/
import Derived.Test.YtmfbjdfekgbamaaRlB
namespace Go.Proofs.Ytmfbjdfekgbamaa
open Go.RowKit
set_option maxRecDepth 100000 in
set_option maxHeartbeats 1600000 in
theorem rlenter_bad (w : World) (p : Nat) (n : Int) (h : Rd.may n = false) : Calls Try.prog 9 #[.pointer (some ⟨p, 0, none⟩), .int .i64 n] w fun e w' => e = .returned (.tuple #[.int .i64 0, .int .i64 1]) ∧ w = w' := by
  have hh : ¬ (0 ≤ n ∧ n ≤ 1099511627776) := fun hx => by rw [(Rd.may_iff n).2 hx] at h; cases h
  by_cases h0 : n < 0
  · have d1 : decide (n < 0) = true := decide_eq_true h0
    clear h hh h0
    go_enter Try.func9, Try.ntmps9
    go_wp2
    go_ret2
    exact ⟨rfl, rfl⟩
  · have d1 : decide (n < 0) = false := decide_eq_false h0
    have d2 : decide (1099511627776 < n) = true := decide_eq_true (by omega)
    clear h hh h0
    go_enter Try.func9, Try.ntmps9
    go_wp2
    go_ret2
    exact ⟨rfl, rfl⟩
theorem tab_at (a b c d : Int) (k : Nat) (hk : k < [a, b, c, d].length) : [a, b, c, d].getD k 0 = [a, b, c, d][k] := by rw [List.getD_eq_getElem?_getD, List.getElem?_eq_getElem hk]; rfl
set_option maxRecDepth 100000 in
set_option maxHeartbeats 1600000 in
theorem rlenter_ok (w : World) (p : Nat) (l : List Int) (F : List Nat) (n : Int) (hok : Rd.Ok l) (hA : RLAt w p l F) : Calls Try.prog 9 #[.pointer (some ⟨p, 0, none⟩), .int .i64 n] w (RdDid RLAt w p F (Rd.enterL l n) (.returned (.tuple #[.int .i64 (Rd.enterI l n), .int .i64 (Rd.enterE l n)]))) := by
  by_cases hm : Rd.may n = true
  · have hmi := (Rd.may_iff n).1 hm
    have d1 : decide (n < 0) = false := decide_eq_false (by omega)
    have d2 : decide (1099511627776 < n) = false := decide_eq_false (by omega)
    have HN : Hid (0 ≤ n) := Lib.hid hmi.1
    have HL := Lib.hid hok.1
    have HA := Lib.hid hA
    have HM := Lib.hid hm
    have hpl := hA.cells.2.1
    obtain ⟨a, b, c, d, rfl, hp, rfl⟩ := hA
    obtain ⟨l, hl⟩ : ∃ l, [a, b, c, d] = l := ⟨_, rfl⟩
    have HIX : Hid (∀ (k : Nat) (hk : k < l.length) (w : World), (Instr.index 45 (tabV a b c d) (.int .i64 (k : Nat))).run Try.prog w = .ok (.agg #[.bool (Rd.hd l[k]), .int .i64 (Rd.tx l[k])]) w) := Lib.hid (fun k hk w => by
      subst hl
      rw [← tab_at a b c d k hk]
      exact tab_index a b c d k hk w)
    have hld : ∀ w' : World, Below w.heap.size w w' → w'.cell? ⟨p, 0, none⟩ = some (.bool (Rd.hd a)) := fun w' hb => (hb.cell (p := ⟨p, 0, none⟩) hpl).trans (hp.cell 0)
    have c0 := hp.cell 0
    have c1 := hp.cell 1
    have c2 := hp.cell 2
    have c3 := hp.cell 3
    have c4 := hp.cell 4
    have c5 := hp.cell 5
    have c6 := hp.cell 6
    have c7 := hp.cell 7
    unfold tabCells at c0 c1 c2 c3 c4 c5 c6 c7
    simp only [List.getElem?_toArray, List.getElem?_cons_zero, List.getElem?_cons_succ] at c0 c1 c2 c3 c4 c5 c6 c7
    rw [hl] at HL HA ⊢
    unfold tabV tabCells at HIX
    clear hm hok hmi hp hld hl
    obtain ⟨a0, ha0⟩ : ∃ x, Rd.hd a = x := ⟨_, rfl⟩
    obtain ⟨b0, hb0⟩ : ∃ x, Rd.hd b = x := ⟨_, rfl⟩
    obtain ⟨e0, he0⟩ : ∃ x, Rd.hd c = x := ⟨_, rfl⟩
    obtain ⟨g0, hg0⟩ : ∃ x, Rd.hd d = x := ⟨_, rfl⟩
    obtain ⟨a1, ha1⟩ : ∃ x, Rd.tx a = x := ⟨_, rfl⟩
    obtain ⟨b1, hb1⟩ : ∃ x, Rd.tx b = x := ⟨_, rfl⟩
    obtain ⟨e1, he1⟩ : ∃ x, Rd.tx c = x := ⟨_, rfl⟩
    obtain ⟨g1, hg1⟩ : ∃ x, Rd.tx d = x := ⟨_, rfl⟩
    rw [ha0, hb0, he0, hg0, ha1, hb1, he1, hg1] at HIX
    rw [ha0] at c0
    rw [ha1] at c1
    rw [hb0] at c2
    rw [hb1] at c3
    rw [he0] at c4
    rw [he1] at c5
    rw [hg0] at c6
    rw [hg1] at c7
    clear ha0 hb0 he0 hg0 ha1 hb1 he1 hg1
    go_enter Try.func9, Try.ntmps9
    go_wp2
    go_loopw [20] (fun ii wr => ∃ k : Nat, k ≤ 4 ∧ ii = .int .i64 k ∧ Hid (∀ j (hj : j < l.length), j < k → 0 ≤ l[j]) ∧ Below w.heap.size w wr) (fun ii _ => 4 - (intOf ii).toNat)
    case atStart => exact ⟨0, by omega, rfl, Lib.hid (fun j _ hj => by omega), Below.refl _ _⟩
    case round =>
      obtain ⟨k, hk, rfl, HB, hbw⟩ := hrel
      clear c0 c1 c2 c3 c4 c5 c6 c7
      by_cases hk4 : k < 4
      · have t1 : decide ((k : Int) < 4) = true := decide_eq_true (by omega)
        have hkl : k < l.length := by rw [HL.out]; exact hk4
        have ix := HIX.out k hkl
        have i0 : (0 : Int) ≤ (k : Int) := by omega
        have i1 : (k : Int) < 4 := by omega
        obtain ⟨x, hx⟩ : ∃ x, l[k] = x := ⟨_, rfl⟩
        rw [hx] at ix
        by_cases hx0 : x < 0
        · have hd0 : Rd.hd x = false := decide_eq_false (by omega)
          have hfree : Rd.free l = k := Rd.free_is l k hkl (by rw [hx]; exact hx0) HB.out
          have he : Rd.enters l n = true := by unfold Rd.enters; rw [HM.out, hfree, decide_eq_true hk4]; rfl
          have HE1 : Hid (Rd.enterL l n = l.set k n) := Lib.hid (by unfold Rd.enterL; rw [if_pos he, hfree])
          have HE2 : Hid (Rd.enterI l n = (k : Int)) := Lib.hid (by unfold Rd.enterI; rw [if_pos he, hfree])
          have HE3 : Hid (Rd.enterE l n = 0) := Lib.hid (by unfold Rd.enterE; rw [if_pos HM.out, if_pos (by rw [hfree]; exact hk4)])
          have hN : Rd.hd n = true ∧ Rd.tx n = n := ⟨decide_eq_true HN.out, if_pos HN.out⟩
          rw [hd0] at ix
          obtain ⟨t, ht⟩ : ∃ t, Rd.tx x = t := ⟨_, rfl⟩
          rw [ht] at ix
          have hpr : p < wr.heap.size := Nat.lt_of_lt_of_le hpl hbw.size
          have HP : Hid (RLAt (((wr.setCell ⟨p, k * 2, none⟩ (.bool true)).setCell ⟨p, k * 2 + 1, none⟩ (.int .i64 n)).alloc (.cells #[.bool false, .int .i64 t] 44)) p (l.set k n) [p] ∧ Touch [p] w (((wr.setCell ⟨p, k * 2, none⟩ (.bool true)).setCell ⟨p, k * 2 + 1, none⟩ (.int .i64 n)).alloc (.cells #[.bool false, .int .i64 t] 44))) := Lib.hid (by
            have h1 := (HA.out.touch (Touch.ofBelow hbw) (by simp)).put k hk4 n
            rw [hN.1, hN.2] at h1
            exact ⟨h1.1.touch (S := []) ((Touch.refl [] _).alloc _) (by simp), (((Touch.ofBelow hbw).more (by simp)).trans h1.2 (Grows.refl _ _)).alloc _⟩)
          have hAr := (HA.out.touch (Touch.ofBelow hbw) (by simp)).cells.2.2.2
          have f0 := hAr (k * 2)
          have f1 := hAr (k * 2 + 1)
          obtain ⟨x0, x1⟩ := (HA.out.touch (Touch.ofBelow hbw) (by simp)).cells.2.2.1 k hkl
          rw [hx] at x0 x1
          rw [ht] at x1
          rw [hd0] at x0
          clear hx hx0 hfree he hkl hN hd0 ht hAr HIX HB HA
          go_wp2
          go_ret2
          rw [HE1.out, HE2.out, HE3.out]
          exact ⟨rfl, [p], HP.out.1, HP.out.2, Grows.refl _ _⟩
        · have hd0 : Rd.hd x = true := decide_eq_true (by omega)
          rw [hd0] at ix
          have HB2 : Hid (∀ j (hj : j < l.length), j < k + 1 → 0 ≤ l[j]) := Lib.hid (fun j hj hjk => by
            by_cases e : j = k
            · subst e; rw [hx]; omega
            · exact HB.out j hj (by omega))
          clear hx hx0 hkl HIX HB HA hd0
          go_wp2
          go_roundw
          case rel => exact ⟨k + 1, by omega, by go_num, HB2, hbw.alloc hbw.size _⟩
          case measure => simp [intOf]; omega
      · have t1 : decide ((k : Int) < 4) = false := decide_eq_false (by omega)
        have hfull : Rd.free l = 4 := by
          rw [Rd.free_full l (fun j hj => HB.out j hj (by rw [HL.out] at hj; omega)), HL.out]
        have he : Rd.enters l n = false := by unfold Rd.enters; rw [hfull]; simp
        have HE1 : Hid (Rd.enterL l n = l) := Lib.hid (by unfold Rd.enterL; rw [he]; rfl)
        have HE2 : Hid (Rd.enterI l n = 0) := Lib.hid (by unfold Rd.enterI; rw [he]; rfl)
        have HE3 : Hid (Rd.enterE l n = 9) := Lib.hid (by unfold Rd.enterE; rw [if_pos HM.out, hfull]; rfl)
        clear hfull he HIX
        go_wp2
        go_ret2
        rw [HE1.out, HE2.out, HE3.out]
        exact ⟨rfl, [p], HA.out.touch (Touch.ofBelow hbw) (by simp), (Touch.ofBelow hbw).more (by simp), Grows.refl _ _⟩
  · have hm : Rd.may n = false := by simpa using hm
    have he : Rd.enters l n = false := by unfold Rd.enters; rw [hm]; rfl
    have e1 : Rd.enterL l n = l := by unfold Rd.enterL; rw [he]; rfl
    have e2 : Rd.enterI l n = 0 := by unfold Rd.enterI; rw [he]; rfl
    have e3 : Rd.enterE l n = 1 := by unfold Rd.enterE; rw [hm]; rfl
    rw [e1, e2, e3]
    refine (rlenter_bad w _ n hm).mono ?_
    rintro _ _ ⟨rfl, rfl⟩
    exact ⟨rfl, F, hA, Touch.refl _ _, Grows.refl _ _⟩
end Go.Proofs.Ytmfbjdfekgbamaa
