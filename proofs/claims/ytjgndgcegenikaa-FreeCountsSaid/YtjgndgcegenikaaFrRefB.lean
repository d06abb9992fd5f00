/-
  Contracts of the reference (rollbookref08): Add, Take. Conditions: lists of at most 600.
-/
import Derived.Test.YtjgndgcegenikaaFrRefA
namespace Go.Proofs.Ytjgndgcegenikaa
open Go.RowKit
set_option maxRecDepth 100000 in
set_option maxHeartbeats 3200000 in
theorem fradd_ok (w : World) (p : Nat) (l : List FP) (F : List Nat) (f : FP) (hl : l.length ≤ 599) (hA : FRefAt w p l F) : Calls Try.prog 12 #[.pointer (some ⟨p, 0, none⟩), fv f] w (FrDid FRefAt w p F (Fr.addL l f) (.returned (.int .i64 (Fr.addE l f)))) := by
  have RC0 := fun w => frright_ok w f
  have HC0 := fun w (h : FRefAt w p l F) => frhas_ok w p l F f.2 (by omega) h
  have HA := Lib.hid hA
  obtain ⟨R, hR⟩ : ∃ R, Fr.right f = R := ⟨_, rfl⟩
  obtain ⟨H, hH⟩ : ∃ H, Fr.has l f.2 = H := ⟨_, rfl⟩
  simp only [hR] at RC0
  simp only [hH] at HC0
  have HE : Hid (Fr.addE l f = if R then (if H then 8 else 0) else 1) := Lib.hid (by unfold Fr.addE; rw [hR, hH])
  have HL : Hid (Fr.addL l f = if R && !H then l ++ [f] else l) := Lib.hid (by unfold Fr.addL Fr.adds; rw [hR, hH])
  clear hR hH
  obtain ⟨t, q⟩ := f
  unfold fv at RC0 ⊢
  simp only at RC0 HC0 ⊢
  have RC := fun w => Lib.hid (RC0 w)
  have HC := Lib.hid HC0
  obtain ⟨vr, hb, hr, hF, hN⟩ := hA
  have hp := hb.lt
  have HB0 := Lib.hid hb
  have HR0 := Lib.hid hr
  have HF := Lib.hid hF
  have HN := Lib.hid hN
  have HNE : Hid (some p ≠ vr.ownBlock) := Lib.hid (by
    intro e
    rw [hF, ← e] at hN
    simp at hN)
  obtain ⟨i0, hi, hz0, hz1, hz2⟩ := info_parts freeInfo
  clear RC0 HC0 hb hr hF hN
  cases R
  case false =>
    go_enter Try.func12, Try.ntmps12
    go_wp2_with fail
    refine (RC _).out.mono ?_
    rintro _ w1 ⟨rfl, hb1⟩
    have HB : Hid (Below w.heap.size w w1) := Lib.hid (((Below.refl _ w).alloc (Nat.le_refl _) _).trans (hb1.mono (by simp)))
    go_wp2
    go_ret
    rw [HE.out, HL.out]
    exact ⟨rfl, F, HA.out.touch (Touch.ofBelow HB.out) (by simp), (Touch.ofBelow HB.out).more (by simp), Grows.refl _ _⟩
  case true =>
    cases H
    case true =>
      go_enter Try.func12, Try.ntmps12
      go_wp2_with fail
      refine (RC _).out.mono ?_
      rintro _ w1 ⟨rfl, hb1⟩
      have HB : Hid (Below w.heap.size w w1) := Lib.hid (((Below.refl _ w).alloc (Nat.le_refl _) _).trans (hb1.mono (by simp)))
      have hX : Blk w1 w.heap.size #[.int .i64 t, .int .i64 q] 31 := (hb1.block _ (by simp)).trans (heap_alloc_new w _)
      have y0 : w1.cell? ⟨w.heap.size, 0, none⟩ = some (.int .i64 t) := hX.cell 0
      have y1 : w1.cell? ⟨w.heap.size, 1, none⟩ = some (.int .i64 q) := hX.cell 1
      clear hb1 hX
      go_wp2_with fail
      refine (HC.out w1 (HA.out.touch (Touch.ofBelow HB.out) (by simp))).mono ?_
      rintro _ _ ⟨rfl, rfl⟩
      go_wp2
      go_ret
      rw [HE.out, HL.out]
      exact ⟨rfl, F, HA.out.touch (Touch.ofBelow HB.out) (by simp), (Touch.ofBelow HB.out).more (by simp), Grows.refl _ _⟩
    case false =>
      go_enter Try.func12, Try.ntmps12
      go_wp2_with fail
      refine (RC _).out.mono ?_
      rintro _ w1 ⟨rfl, hb1⟩
      have HB : Hid (Below w.heap.size w w1) := Lib.hid (((Below.refl _ w).alloc (Nat.le_refl _) _).trans (hb1.mono (by simp)))
      have hX : Blk w1 w.heap.size #[.int .i64 t, .int .i64 q] 31 := (hb1.block _ (by simp)).trans (heap_alloc_new w _)
      have y0 : w1.cell? ⟨w.heap.size, 0, none⟩ = some (.int .i64 t) := hX.cell 0
      have y1 : w1.cell? ⟨w.heap.size, 1, none⟩ = some (.int .i64 q) := hX.cell 1
      clear hb1 hX
      go_wp2_with fail
      refine (HC.out w1 (HA.out.touch (Touch.ofBelow HB.out) (by simp))).mono ?_
      rintro _ _ ⟨rfl, rfl⟩
      have hbq := HB0.out.touch (Touch.ofBelow HB.out) (by simp)
      have hrq := ownsRow_touch (S := []) HR0.out (Touch.ofBelow HB.out) (by simp)
      have x0 : w1.cell? ⟨p, 0, none⟩ = some vr := hbq.cell 0
      have hpx : p ≠ w.heap.size := by omega
      have hp1 := hbq.lt
      go_wp2
      go_region_law
        ((refine step_append_lies _ (by rfl) _ _ _ (by rfl) 0 31 i0 _ 2 16 Try.underlying27 hi hz0 hz1 hz2 rfl (by omega) vr l.length _ (by rfl) (hrq.alloc _)
              ⟨w1.heap.size, 0, none⟩ 1 1 [.int .i64 t, .int .i64 q] (by rfl) (by rfl) (World.news_of_block (heap_alloc_new w1 _)) (by simp [Value.oneCell'])
              (by omega) (by simp [maxLen]; omega) (by omega) (by simp) (w1.heap.size + 1) (by simp) ?_; intro g cap w2 hown2 hgrow hat hlt2; have kb2 := ((hbq.alloc (.cells #[.int .i64 t, .int .i64 q] 31)).drew).grown hgrow HNE.out; have g0 : w2.cell? ⟨p, 0, none⟩ = some vr := kb2.cell 0; have g1 := kb2.free 0; have g2 := kb2.lt))
      all_goals
        go_wp2
        go_ret
        rw [HE.out, HL.out]
        have hs5 := HB.out.size
        have TT : Touch (p :: vr.ownBlock.toList) w (w2.setCell ⟨p, 0, none⟩ (.slice (some ⟨g, 0, none⟩) (l.length + 1) cap)) :=
          (((((Touch.ofBelow HB.out).more (S' := p :: vr.ownBlock.toList) (by simp)).alloc _).drew.grown hgrow (by intro k hk; left; simp [hk])).setCell (p := ⟨p, 0, none⟩) (.inl (by simp)) _)
        have hpg : p ≠ g := by
          intro e
          subst e
          rcases hat with hat | hat
          · exact HNE.out hat.symm
          · omega
        refine ⟨rfl, p :: [g], ⟨.slice (some ⟨g, 0, none⟩) (l.length + 1) cap, kb2.set 0 _, ?_, rfl, by simpa using hpg⟩, ?_, ?_⟩
        · show World.ownsRow _ 0 31 2 _ (l ++ [(t, q)]).length (fvs (l ++ [(t, q)]))
          rw [List.length_append, fvs_snoc]
          refine ownsRow_touch (S := [p]) hown2 ((Touch.refl [p] w2).setCell (p := ⟨p, 0, none⟩) (.inl (by simp)) _) ?_
          intro k hk hm
          have hk : g = k := by simpa [Value.ownBlock] using hk
          simp only [List.mem_singleton] at hm
          subst hk
          exact hpg hm.symm
        · rw [HF.out]; exact TT
        · intro k hk
          rw [HF.out]
          rcases List.mem_cons.1 hk with rfl | hk
          · exact .inl (List.mem_cons_self ..)
          · rw [List.mem_singleton] at hk
            subst hk
            rcases hat with hat | hat
            · exact .inl (by simp [hat])
            · exact .inr (by omega)
section
variable {P : Program} {ops : Array Oper} {C : World → Prop} {Q : Act → Prop} {o : Oper} {rest : List Oper} {a : Act}
theorem qh_call2w (v : Value) (hw : Region.wanted o (yielded ops a.tmps) = true) (f : FuncId) (x y : Operand) (ts : Array TypeId) (ho : o.op = .call { callee := .value (.func f), args := #[x, y], argTypes := ts }) (u s : Value) (hx : a.eval x = u) (hy : a.eval y = s)
    (hE : ∀ args w, (callFunc f args).run P w = .ok (.enter f args) w) (hc : ∀ w, C w → Calls P f #[u, s] w fun e w' => e = .returned v ∧ C w') (h : Cov (wpQuiet P ops C Q rest (a.put o.dst v))) : Cov (wpQuiet P ops C Q (o :: rest) a) := by
  refine Cov.mk ?_
  unfold wpQuiet
  rw [if_pos hw]
  refine ⟨v, fun w hw => ?_, h.out⟩
  have hf : a.eval (.func f) = .func (.func f) #[] #[] := rfl
  have hr : (execOp a.eval o).run P w = .ok (.enter f #[u, s]) w := by
    unfold execOp
    simp only [ho, resolve, List.map_toArray, List.map_cons, List.map_nil, hx, hy, hf]
    simp [Deferred.ofValue, invoke, hE]
  unfold Oper.quietAt
  rw [hr]
  exact ⟨rfl, hc w hw⟩
end
namespace Fr
theorem erase_snoc (l : List FP) (k a : Nat) (hk : k < l.length) : (l.take (k + 1)).eraseIdx a = if k = a then (l.take k).eraseIdx a else (l.take k).eraseIdx a ++ [l[k]] := by
  have hl : (l.take k).length = k := by rw [List.length_take]; omega
  rw [List.take_succ_eq_append_getElem hk]
  by_cases h : k = a
  · subst h
    rw [if_pos rfl, List.eraseIdx_append_of_length_le (by omega), hl, Nat.sub_self, List.eraseIdx_of_length_le (l := l.take k) (by omega)]
    simp
  · rw [if_neg h]
    by_cases h2 : a < k
    · rw [List.eraseIdx_append_of_lt_length (by omega)]
    · rw [List.eraseIdx_of_length_le (by rw [List.length_append, hl]; simp; omega), List.eraseIdx_of_length_le (by omega)]
/-- what the first loop has found among the first k -/
def Found (l : List FP) (u : Int) (k : Nat) (at_ : Int) : Prop := (at_ = -1 ∧ least (l.take k) u = none) ∨ ∃ a : Nat, at_ = a ∧ a < k ∧ ∃ h : a < l.length, least (l.take k) u = some l[a]
end Fr
set_option maxRecDepth 100000 in
set_option maxHeartbeats 12800000 in
theorem frtake_ok (w : World) (p : Nat) (l : List FP) (F : List Nat) (u : Int) (ok : Fr.Ok l) (hl : l.length ≤ 600) (hA : FRefAt w p l F) : Calls Try.prog 14 #[.pointer (some ⟨p, 0, none⟩), .int .i64 u] w (FrDid FRefAt w p F (Fr.takeL l u) (.returned (.tuple #[.int .i64 (Fr.takeP l u), .bool (Fr.takeB l u)]))) := by
  have HA := Lib.hid hA
  have OK := Lib.hid ok
  obtain ⟨A, cap, cp, hf, hpl⟩ := hA.head hl
  have HF := Lib.hid hf
  have HHD : Hid (∀ wx, Below w.heap.size w wx → wx.cell? ⟨p, 0, none⟩ = some (.slice A l.length cap) ∧ FreesAt wx (.slice A l.length cap) l ∧ p < wx.heap.size) := Lib.hid (fun wx hx => ⟨(hx.cell (p := ⟨p, 0, none⟩) hpl).trans cp, hf.below hx, Nat.lt_of_lt_of_le hpl hx.size⟩)
  have E30 : ∀ args w, (callFunc 31 args).run Try.prog w = .ok (.enter 31 args) w := fun args w => by kernel_rfl
  clear hA hf ok
  go_enter Try.func14, Try.ntmps14
  go_wp2
  go_loopw [6, 7] (fun aa ii wr => ∃ (k : Nat) (at_ : Int), k ≤ l.length ∧ aa = .int .i64 at_ ∧ ii = .int .i64 k ∧ Hid (Fr.Found l u k at_) ∧ Below w.heap.size w wr) (fun _ ii _ => l.length - (intOf ii).toNat)
  case atStart => exact ⟨0, -1, by omega, rfl, rfl, Lib.hid (.inl ⟨rfl, rfl⟩), Below.refl _ _⟩
  case round =>
    obtain ⟨k, at_, hk, rfl, rfl, HFd, hBr⟩ := hrel
    obtain ⟨wo, rfl⟩ : ∃ wo : World, wo = wr := ⟨_, rfl⟩
    obtain ⟨cpr, hfr, hplr⟩ := HHD.out wo hBr
    by_cases hkl : k < l.length
    · have t1 : decide (k < l.length) = true := decide_eq_true hkl
      obtain ⟨b, off, hAA, hbl, c0, c1⟩ := hfr.get k hkl
      have HBr := Lib.hid hBr
      have hst := Fr.least_take l u k hkl
      obtain ⟨⟨tk, pk⟩, hx⟩ : ∃ x, l[k] = x := ⟨_, rfl⟩
      have HX := Lib.hid hx
      rw [hx] at c0 c1 hst
      simp only at c0 c1
      have i0 : (0 : Int) ≤ (k : Int) := by omega
      have i1 : (k : Int) < (l.length : Int) := by omega
      have HGET : Hid (∀ a (ha : a < l.length), wo.cell? ⟨b, off + a * 2, none⟩ = some (.int .i64 l[a].1) ∧ wo.cell? ⟨b, off + a * 2 + 1, none⟩ = some (.int .i64 l[a].2)) := Lib.hid (fun a ha => by
        obtain ⟨b', off', hA', _, d0, d1⟩ := hfr.get a ha
        rw [hAA] at hA'
        injection hA' with h
        injection h with h1 h2
        subst h1 h2
        exact ⟨d0, d1⟩)
      subst hAA
      have KP : Hid (∀ wS, Below wo.heap.size wo wS → wS.cell? ⟨p, 0, none⟩ = some (.slice (some ⟨b, off, none⟩) l.length cap)) := Lib.hid (fun wS hS => (hS.cell (p := ⟨p, 0, none⟩) hplr).trans cpr)
      have KI : Hid (∀ wS, Below wo.heap.size wo wS → wS.cell? ⟨b, off + k * 2, none⟩ = some (.int .i64 tk) ∧ wS.cell? ⟨b, off + k * 2 + 1, none⟩ = some (.int .i64 pk)) := Lib.hid (fun wS hS => ⟨(hS.cell (p := ⟨b, off + k * 2, none⟩) hbl).trans c0, (hS.cell (p := ⟨b, off + k * 2 + 1, none⟩) hbl).trans c1⟩)
      clear hfr hBr hx
      by_cases hu : tk ≤ u
      · have d1 : decide (tk ≤ u) = true := decide_eq_true hu
        unfold Fr.better at hst
        rw [if_pos hu] at hst
        rcases HFd.out with ⟨rfl, hn⟩ | ⟨a, rfl, hak, hal, hs⟩
        · have HF2 : Hid (Fr.Found l u (k + 1) (k : Nat)) := Lib.hid (.inr ⟨k, rfl, by omega, hkl, by rw [hst, hn, HX.out]⟩)
          clear hn hst hu c0 c1
          go_upto_region 5 with fail
          refine region_qh (C := fun w' => Below wo.heap.size wo w') (by kernel_rfl) (by kernel_rfl) ((Below.refl _ wo).drew) ?_
          refine qh_op (.pointer (some ⟨p, 0, none⟩)) rfl (fun wS hSw => by go_simp; try with_reducible rfl) ?_
          simp only [Act.put, List.setIfInBounds_toArray, List.set_cons_zero, List.set_cons_succ]
          refine qh_op (.pointer (some ⟨p, 0, none⟩)) rfl (fun wS hSw => by go_simp; try with_reducible rfl) ?_
          simp only [Act.put, List.setIfInBounds_toArray, List.set_cons_zero, List.set_cons_succ]
          refine qh_op (.pointer (some ⟨p, 0, none⟩)) rfl (fun wS hSw => by go_simp; try with_reducible rfl) ?_
          simp only [Act.put, List.setIfInBounds_toArray, List.set_cons_zero, List.set_cons_succ]
          refine qh_op (.slice (some ⟨b, off, none⟩) l.length cap) rfl (fun wS hSw => by have kp := KP.out wS hSw; go_simp; try with_reducible rfl) ?_
          simp only [Act.put, List.setIfInBounds_toArray, List.set_cons_zero, List.set_cons_succ]
          refine qh_op (.int .i64 k) rfl (fun wS hSw => by go_simp; try with_reducible rfl) ?_
          simp only [Act.put, List.setIfInBounds_toArray, List.set_cons_zero, List.set_cons_succ]
          refine qh_op (.pointer (some ⟨b, off + k * 2, none⟩)) rfl (fun wS hSw => by go_simp; try with_reducible rfl) ?_
          simp only [Act.put, List.setIfInBounds_toArray, List.set_cons_zero, List.set_cons_succ]
          refine qh_op (.pointer (some ⟨b, off + k * 2, none⟩)) rfl (fun wS hSw => by go_simp; try with_reducible rfl) ?_
          simp only [Act.put, List.setIfInBounds_toArray, List.set_cons_zero, List.set_cons_succ]
          refine qh_op (.int .i64 tk) rfl (fun wS hSw => by obtain ⟨ki0, ki1⟩ := KI.out wS hSw; go_simp; try with_reducible rfl) ?_
          simp only [Act.put, List.setIfInBounds_toArray, List.set_cons_zero, List.set_cons_succ]
          refine qh_op (.int .i64 u) rfl (fun wS hSw => by go_simp; try with_reducible rfl) ?_
          simp only [Act.put, List.setIfInBounds_toArray, List.set_cons_zero, List.set_cons_succ]
          refine qh_op (.bool true) rfl (fun wS hSw => by go_simp; try with_reducible rfl) ?_
          simp only [Act.put, List.setIfInBounds_toArray, List.set_cons_zero, List.set_cons_succ]
          refine qh_op (.bool true) rfl (fun wS hSw => by go_simp; try with_reducible rfl) ?_
          simp only [Act.put, List.setIfInBounds_toArray, List.set_cons_zero, List.set_cons_succ]
          refine qh_opw (.int .i64 (-1)) (by rfl) (fun wS hSw => by go_simp; try with_reducible rfl) ?_
          simp only [Act.put, List.setIfInBounds_toArray, List.set_cons_zero, List.set_cons_succ]
          refine qh_opw (.bool true) (by rfl) (fun wS hSw => by go_simp; try with_reducible rfl) ?_
          simp only [Act.put, List.setIfInBounds_toArray, List.set_cons_zero, List.set_cons_succ]
          refine qh_opw (.bool true) (by rfl) (fun wS hSw => by go_simp; try with_reducible rfl) ?_
          simp only [Act.put, List.setIfInBounds_toArray, List.set_cons_zero, List.set_cons_succ]
          refine qh_skip (by rfl) ?_
          simp only [Act.put, List.setIfInBounds_toArray, List.set_cons_zero, List.set_cons_succ]
          refine qh_skip (by rfl) ?_
          simp only [Act.put, List.setIfInBounds_toArray, List.set_cons_zero, List.set_cons_succ]
          refine qh_skip (by rfl) ?_
          simp only [Act.put, List.setIfInBounds_toArray, List.set_cons_zero, List.set_cons_succ]
          refine qh_skip (by rfl) ?_
          simp only [Act.put, List.setIfInBounds_toArray, List.set_cons_zero, List.set_cons_succ]
          refine qh_skip (by rfl) ?_
          simp only [Act.put, List.setIfInBounds_toArray, List.set_cons_zero, List.set_cons_succ]
          refine qh_skip (by rfl) ?_
          simp only [Act.put, List.setIfInBounds_toArray, List.set_cons_zero, List.set_cons_succ]
          refine qh_skip (by rfl) ?_
          simp only [Act.put, List.setIfInBounds_toArray, List.set_cons_zero, List.set_cons_succ]
          refine qh_skip (by rfl) ?_
          simp only [Act.put, List.setIfInBounds_toArray, List.set_cons_zero, List.set_cons_succ]
          refine qh_skip (by rfl) ?_
          simp only [Act.put, List.setIfInBounds_toArray, List.set_cons_zero, List.set_cons_succ]
          refine qh_skip (by rfl) ?_
          simp only [Act.put, List.setIfInBounds_toArray, List.set_cons_zero, List.set_cons_succ]
          refine qh_skip (by rfl) ?_
          simp only [Act.put, List.setIfInBounds_toArray, List.set_cons_zero, List.set_cons_succ]
          refine qh_skip (by rfl) ?_
          simp only [Act.put, List.setIfInBounds_toArray, List.set_cons_zero, List.set_cons_succ]
          refine qh_skip (by rfl) ?_
          simp only [Act.put, List.setIfInBounds_toArray, List.set_cons_zero, List.set_cons_succ]
          refine qh_skip (by rfl) ?_
          simp only [Act.put, List.setIfInBounds_toArray, List.set_cons_zero, List.set_cons_succ]
          refine qh_skip (by rfl) ?_
          simp only [Act.put, List.setIfInBounds_toArray, List.set_cons_zero, List.set_cons_succ]
          refine qh_opw (.bool true) (by rfl) (fun wS hSw => by go_simp; try with_reducible rfl) ?_
          simp only [Act.put, List.setIfInBounds_toArray, List.set_cons_zero, List.set_cons_succ]
          refine qh_op (.bool true) rfl (fun wS hSw => by go_simp; try with_reducible rfl) ?_
          simp only [Act.put, List.setIfInBounds_toArray, List.set_cons_zero, List.set_cons_succ]
          refine qh_nil ⟨?_⟩
          intro wE hE
          go_wp2
          go_roundw
          case rel => exact ⟨k + 1, (k : Nat), by omega, rfl, by go_num, HF2, HBr.out.trans (hE.mono HBr.out.size)⟩
          case measure => simp [intOf]; omega
        · rw [hs] at hst
          simp only at hst
          obtain ⟨a0, a1⟩ := HGET.out a hal
          have LC0 := fun w => frless_ok w (tk, pk) l[a]
          obtain ⟨z, hz⟩ : ∃ z, Fr.less (tk, pk) l[a] = z := ⟨_, rfl⟩
          simp only [hz] at LC0
          rw [hz] at hst
          obtain ⟨⟨ta, pa⟩, hy⟩ : ∃ x, l[a] = x := ⟨_, rfl⟩
          rw [hy] at a0 a1
          simp only [hy] at LC0
          simp only at a0 a1
          unfold fv at LC0
          simp only at LC0
          have KT : Hid (∀ wS, Below wo.heap.size wo wS → wS.cell? ⟨b, off + a * 2, none⟩ = some (.int .i64 ta) ∧ wS.cell? ⟨b, off + a * 2 + 1, none⟩ = some (.int .i64 pa)) := Lib.hid (fun wS hS => ⟨(hS.cell (p := ⟨b, off + a * 2, none⟩) hbl).trans a0, (hS.cell (p := ⟨b, off + a * 2 + 1, none⟩) hbl).trans a1⟩)
          have LC : Hid (∀ wS, Below wo.heap.size wo wS → Calls Try.prog 31 #[.agg #[.int .i64 tk, .int .i64 pk], .agg #[.int .i64 ta, .int .i64 pa]] wS fun e w' => e = .returned (.bool z) ∧ Below wo.heap.size wo w') := Lib.hid (fun wS hS => (LC0 wS).mono fun _ _ ⟨e, hb⟩ => ⟨e, hS.trans (hb.mono hS.size)⟩)
          have j0 : (0 : Int) ≤ (a : Int) := by omega
          have j1 : (a : Int) < (l.length : Int) := by omega
          have d2 : decide ((a : Int) < 0) = false := decide_eq_false (by omega)
          cases z
          · have HF2 : Hid (Fr.Found l u (k + 1) (a : Nat)) := Lib.hid (.inr ⟨a, rfl, by omega, hal, by rw [hst]; rfl⟩)
            clear hz hy hs hst hu c0 c1 a0 a1 LC0
            go_upto_region 5 with fail
            refine region_qh (C := fun w' => Below wo.heap.size wo w') (by kernel_rfl) (by kernel_rfl) ((Below.refl _ wo).drew) ?_
            refine qh_op (.pointer (some ⟨p, 0, none⟩)) rfl (fun wS hSw => by go_simp; try with_reducible rfl) ?_
            simp only [Act.put, List.setIfInBounds_toArray, List.set_cons_zero, List.set_cons_succ]
            refine qh_op (.pointer (some ⟨p, 0, none⟩)) rfl (fun wS hSw => by go_simp; try with_reducible rfl) ?_
            simp only [Act.put, List.setIfInBounds_toArray, List.set_cons_zero, List.set_cons_succ]
            refine qh_op (.pointer (some ⟨p, 0, none⟩)) rfl (fun wS hSw => by go_simp; try with_reducible rfl) ?_
            simp only [Act.put, List.setIfInBounds_toArray, List.set_cons_zero, List.set_cons_succ]
            refine qh_op (.slice (some ⟨b, off, none⟩) l.length cap) rfl (fun wS hSw => by have kp := KP.out wS hSw; go_simp; try with_reducible rfl) ?_
            simp only [Act.put, List.setIfInBounds_toArray, List.set_cons_zero, List.set_cons_succ]
            refine qh_op (.int .i64 k) rfl (fun wS hSw => by go_simp; try with_reducible rfl) ?_
            simp only [Act.put, List.setIfInBounds_toArray, List.set_cons_zero, List.set_cons_succ]
            refine qh_op (.pointer (some ⟨b, off + k * 2, none⟩)) rfl (fun wS hSw => by go_simp; try with_reducible rfl) ?_
            simp only [Act.put, List.setIfInBounds_toArray, List.set_cons_zero, List.set_cons_succ]
            refine qh_op (.pointer (some ⟨b, off + k * 2, none⟩)) rfl (fun wS hSw => by go_simp; try with_reducible rfl) ?_
            simp only [Act.put, List.setIfInBounds_toArray, List.set_cons_zero, List.set_cons_succ]
            refine qh_op (.int .i64 tk) rfl (fun wS hSw => by obtain ⟨ki0, ki1⟩ := KI.out wS hSw; go_simp; try with_reducible rfl) ?_
            simp only [Act.put, List.setIfInBounds_toArray, List.set_cons_zero, List.set_cons_succ]
            refine qh_op (.int .i64 u) rfl (fun wS hSw => by go_simp; try with_reducible rfl) ?_
            simp only [Act.put, List.setIfInBounds_toArray, List.set_cons_zero, List.set_cons_succ]
            refine qh_op (.bool true) rfl (fun wS hSw => by go_simp; try with_reducible rfl) ?_
            simp only [Act.put, List.setIfInBounds_toArray, List.set_cons_zero, List.set_cons_succ]
            refine qh_op (.bool true) rfl (fun wS hSw => by go_simp; try with_reducible rfl) ?_
            simp only [Act.put, List.setIfInBounds_toArray, List.set_cons_zero, List.set_cons_succ]
            refine qh_opw (.int .i64 a) (by rfl) (fun wS hSw => by go_simp; try with_reducible rfl) ?_
            simp only [Act.put, List.setIfInBounds_toArray, List.set_cons_zero, List.set_cons_succ]
            refine qh_opw (.bool false) (by rfl) (fun wS hSw => by go_simp; try with_reducible rfl) ?_
            simp only [Act.put, List.setIfInBounds_toArray, List.set_cons_zero, List.set_cons_succ]
            refine qh_opw (.bool false) (by rfl) (fun wS hSw => by go_simp; try with_reducible rfl) ?_
            simp only [Act.put, List.setIfInBounds_toArray, List.set_cons_zero, List.set_cons_succ]
            refine qh_opw (.pointer (some ⟨p, 0, none⟩)) (by rfl) (fun wS hSw => by go_simp; try with_reducible rfl) ?_
            simp only [Act.put, List.setIfInBounds_toArray, List.set_cons_zero, List.set_cons_succ]
            refine qh_opw (.pointer (some ⟨p, 0, none⟩)) (by rfl) (fun wS hSw => by go_simp; try with_reducible rfl) ?_
            simp only [Act.put, List.setIfInBounds_toArray, List.set_cons_zero, List.set_cons_succ]
            refine qh_opw (.pointer (some ⟨p, 0, none⟩)) (by rfl) (fun wS hSw => by go_simp; try with_reducible rfl) ?_
            simp only [Act.put, List.setIfInBounds_toArray, List.set_cons_zero, List.set_cons_succ]
            refine qh_opw (.slice (some ⟨b, off, none⟩) l.length cap) (by rfl) (fun wS hSw => by have kp := KP.out wS hSw; go_simp; try with_reducible rfl) ?_
            simp only [Act.put, List.setIfInBounds_toArray, List.set_cons_zero, List.set_cons_succ]
            refine qh_opw (.int .i64 k) (by rfl) (fun wS hSw => by go_simp; try with_reducible rfl) ?_
            simp only [Act.put, List.setIfInBounds_toArray, List.set_cons_zero, List.set_cons_succ]
            refine qh_opw (.pointer (some ⟨b, off + k * 2, none⟩)) (by rfl) (fun wS hSw => by go_simp; try with_reducible rfl) ?_
            simp only [Act.put, List.setIfInBounds_toArray, List.set_cons_zero, List.set_cons_succ]
            refine qh_opw (.agg #[.int .i64 tk, .int .i64 pk]) (by rfl) (fun wS hSw => by obtain ⟨ki0, ki1⟩ := KI.out wS hSw; go_simp; try with_reducible rfl) ?_
            simp only [Act.put, List.setIfInBounds_toArray, List.set_cons_zero, List.set_cons_succ]
            refine qh_opw (.pointer (some ⟨p, 0, none⟩)) (by rfl) (fun wS hSw => by go_simp; try with_reducible rfl) ?_
            simp only [Act.put, List.setIfInBounds_toArray, List.set_cons_zero, List.set_cons_succ]
            refine qh_opw (.pointer (some ⟨p, 0, none⟩)) (by rfl) (fun wS hSw => by go_simp; try with_reducible rfl) ?_
            simp only [Act.put, List.setIfInBounds_toArray, List.set_cons_zero, List.set_cons_succ]
            refine qh_opw (.pointer (some ⟨p, 0, none⟩)) (by rfl) (fun wS hSw => by go_simp; try with_reducible rfl) ?_
            simp only [Act.put, List.setIfInBounds_toArray, List.set_cons_zero, List.set_cons_succ]
            refine qh_opw (.slice (some ⟨b, off, none⟩) l.length cap) (by rfl) (fun wS hSw => by have kp := KP.out wS hSw; go_simp; try with_reducible rfl) ?_
            simp only [Act.put, List.setIfInBounds_toArray, List.set_cons_zero, List.set_cons_succ]
            refine qh_opw (.int .i64 a) (by rfl) (fun wS hSw => by go_simp; try with_reducible rfl) ?_
            simp only [Act.put, List.setIfInBounds_toArray, List.set_cons_zero, List.set_cons_succ]
            refine qh_opw (.pointer (some ⟨b, off + a * 2, none⟩)) (by rfl) (fun wS hSw => by go_simp; try with_reducible rfl) ?_
            simp only [Act.put, List.setIfInBounds_toArray, List.set_cons_zero, List.set_cons_succ]
            refine qh_opw (.agg #[.int .i64 ta, .int .i64 pa]) (by rfl) (fun wS hSw => by obtain ⟨kt0, kt1⟩ := KT.out wS hSw; go_simp; try with_reducible rfl) ?_
            simp only [Act.put, List.setIfInBounds_toArray, List.set_cons_zero, List.set_cons_succ]
            refine qh_call2w (.bool false) (by rfl) 31 _ _ _ rfl (.agg #[.int .i64 tk, .int .i64 pk]) (.agg #[.int .i64 ta, .int .i64 pa]) (by rfl) (by rfl) E30 (fun wS hSw => LC.out wS hSw) ?_
            simp only [Act.put, List.setIfInBounds_toArray, List.set_cons_zero, List.set_cons_succ]
            refine qh_opw (.bool false) (by rfl) (fun wS hSw => by go_simp; try with_reducible rfl) ?_
            simp only [Act.put, List.setIfInBounds_toArray, List.set_cons_zero, List.set_cons_succ]
            refine qh_op (.bool false) rfl (fun wS hSw => by go_simp; try with_reducible rfl) ?_
            simp only [Act.put, List.setIfInBounds_toArray, List.set_cons_zero, List.set_cons_succ]
            refine qh_nil ⟨?_⟩
            intro wE hE
            go_wp2
            go_roundw
            case rel => exact ⟨k + 1, (a : Nat), by omega, rfl, by go_num, HF2, HBr.out.trans (hE.mono HBr.out.size)⟩
            case measure => simp [intOf]; omega
          · have HF2 : Hid (Fr.Found l u (k + 1) (k : Nat)) := Lib.hid (.inr ⟨k, rfl, by omega, hkl, by rw [hst, HX.out]; rfl⟩)
            clear hz hy hs hst hu c0 c1 a0 a1 LC0
            go_upto_region 5 with fail
            refine region_qh (C := fun w' => Below wo.heap.size wo w') (by kernel_rfl) (by kernel_rfl) ((Below.refl _ wo).drew) ?_
            refine qh_op (.pointer (some ⟨p, 0, none⟩)) rfl (fun wS hSw => by go_simp; try with_reducible rfl) ?_
            simp only [Act.put, List.setIfInBounds_toArray, List.set_cons_zero, List.set_cons_succ]
            refine qh_op (.pointer (some ⟨p, 0, none⟩)) rfl (fun wS hSw => by go_simp; try with_reducible rfl) ?_
            simp only [Act.put, List.setIfInBounds_toArray, List.set_cons_zero, List.set_cons_succ]
            refine qh_op (.pointer (some ⟨p, 0, none⟩)) rfl (fun wS hSw => by go_simp; try with_reducible rfl) ?_
            simp only [Act.put, List.setIfInBounds_toArray, List.set_cons_zero, List.set_cons_succ]
            refine qh_op (.slice (some ⟨b, off, none⟩) l.length cap) rfl (fun wS hSw => by have kp := KP.out wS hSw; go_simp; try with_reducible rfl) ?_
            simp only [Act.put, List.setIfInBounds_toArray, List.set_cons_zero, List.set_cons_succ]
            refine qh_op (.int .i64 k) rfl (fun wS hSw => by go_simp; try with_reducible rfl) ?_
            simp only [Act.put, List.setIfInBounds_toArray, List.set_cons_zero, List.set_cons_succ]
            refine qh_op (.pointer (some ⟨b, off + k * 2, none⟩)) rfl (fun wS hSw => by go_simp; try with_reducible rfl) ?_
            simp only [Act.put, List.setIfInBounds_toArray, List.set_cons_zero, List.set_cons_succ]
            refine qh_op (.pointer (some ⟨b, off + k * 2, none⟩)) rfl (fun wS hSw => by go_simp; try with_reducible rfl) ?_
            simp only [Act.put, List.setIfInBounds_toArray, List.set_cons_zero, List.set_cons_succ]
            refine qh_op (.int .i64 tk) rfl (fun wS hSw => by obtain ⟨ki0, ki1⟩ := KI.out wS hSw; go_simp; try with_reducible rfl) ?_
            simp only [Act.put, List.setIfInBounds_toArray, List.set_cons_zero, List.set_cons_succ]
            refine qh_op (.int .i64 u) rfl (fun wS hSw => by go_simp; try with_reducible rfl) ?_
            simp only [Act.put, List.setIfInBounds_toArray, List.set_cons_zero, List.set_cons_succ]
            refine qh_op (.bool true) rfl (fun wS hSw => by go_simp; try with_reducible rfl) ?_
            simp only [Act.put, List.setIfInBounds_toArray, List.set_cons_zero, List.set_cons_succ]
            refine qh_op (.bool true) rfl (fun wS hSw => by go_simp; try with_reducible rfl) ?_
            simp only [Act.put, List.setIfInBounds_toArray, List.set_cons_zero, List.set_cons_succ]
            refine qh_opw (.int .i64 a) (by rfl) (fun wS hSw => by go_simp; try with_reducible rfl) ?_
            simp only [Act.put, List.setIfInBounds_toArray, List.set_cons_zero, List.set_cons_succ]
            refine qh_opw (.bool false) (by rfl) (fun wS hSw => by go_simp; try with_reducible rfl) ?_
            simp only [Act.put, List.setIfInBounds_toArray, List.set_cons_zero, List.set_cons_succ]
            refine qh_opw (.bool false) (by rfl) (fun wS hSw => by go_simp; try with_reducible rfl) ?_
            simp only [Act.put, List.setIfInBounds_toArray, List.set_cons_zero, List.set_cons_succ]
            refine qh_opw (.pointer (some ⟨p, 0, none⟩)) (by rfl) (fun wS hSw => by go_simp; try with_reducible rfl) ?_
            simp only [Act.put, List.setIfInBounds_toArray, List.set_cons_zero, List.set_cons_succ]
            refine qh_opw (.pointer (some ⟨p, 0, none⟩)) (by rfl) (fun wS hSw => by go_simp; try with_reducible rfl) ?_
            simp only [Act.put, List.setIfInBounds_toArray, List.set_cons_zero, List.set_cons_succ]
            refine qh_opw (.pointer (some ⟨p, 0, none⟩)) (by rfl) (fun wS hSw => by go_simp; try with_reducible rfl) ?_
            simp only [Act.put, List.setIfInBounds_toArray, List.set_cons_zero, List.set_cons_succ]
            refine qh_opw (.slice (some ⟨b, off, none⟩) l.length cap) (by rfl) (fun wS hSw => by have kp := KP.out wS hSw; go_simp; try with_reducible rfl) ?_
            simp only [Act.put, List.setIfInBounds_toArray, List.set_cons_zero, List.set_cons_succ]
            refine qh_opw (.int .i64 k) (by rfl) (fun wS hSw => by go_simp; try with_reducible rfl) ?_
            simp only [Act.put, List.setIfInBounds_toArray, List.set_cons_zero, List.set_cons_succ]
            refine qh_opw (.pointer (some ⟨b, off + k * 2, none⟩)) (by rfl) (fun wS hSw => by go_simp; try with_reducible rfl) ?_
            simp only [Act.put, List.setIfInBounds_toArray, List.set_cons_zero, List.set_cons_succ]
            refine qh_opw (.agg #[.int .i64 tk, .int .i64 pk]) (by rfl) (fun wS hSw => by obtain ⟨ki0, ki1⟩ := KI.out wS hSw; go_simp; try with_reducible rfl) ?_
            simp only [Act.put, List.setIfInBounds_toArray, List.set_cons_zero, List.set_cons_succ]
            refine qh_opw (.pointer (some ⟨p, 0, none⟩)) (by rfl) (fun wS hSw => by go_simp; try with_reducible rfl) ?_
            simp only [Act.put, List.setIfInBounds_toArray, List.set_cons_zero, List.set_cons_succ]
            refine qh_opw (.pointer (some ⟨p, 0, none⟩)) (by rfl) (fun wS hSw => by go_simp; try with_reducible rfl) ?_
            simp only [Act.put, List.setIfInBounds_toArray, List.set_cons_zero, List.set_cons_succ]
            refine qh_opw (.pointer (some ⟨p, 0, none⟩)) (by rfl) (fun wS hSw => by go_simp; try with_reducible rfl) ?_
            simp only [Act.put, List.setIfInBounds_toArray, List.set_cons_zero, List.set_cons_succ]
            refine qh_opw (.slice (some ⟨b, off, none⟩) l.length cap) (by rfl) (fun wS hSw => by have kp := KP.out wS hSw; go_simp; try with_reducible rfl) ?_
            simp only [Act.put, List.setIfInBounds_toArray, List.set_cons_zero, List.set_cons_succ]
            refine qh_opw (.int .i64 a) (by rfl) (fun wS hSw => by go_simp; try with_reducible rfl) ?_
            simp only [Act.put, List.setIfInBounds_toArray, List.set_cons_zero, List.set_cons_succ]
            refine qh_opw (.pointer (some ⟨b, off + a * 2, none⟩)) (by rfl) (fun wS hSw => by go_simp; try with_reducible rfl) ?_
            simp only [Act.put, List.setIfInBounds_toArray, List.set_cons_zero, List.set_cons_succ]
            refine qh_opw (.agg #[.int .i64 ta, .int .i64 pa]) (by rfl) (fun wS hSw => by obtain ⟨kt0, kt1⟩ := KT.out wS hSw; go_simp; try with_reducible rfl) ?_
            simp only [Act.put, List.setIfInBounds_toArray, List.set_cons_zero, List.set_cons_succ]
            refine qh_call2w (.bool true) (by rfl) 31 _ _ _ rfl (.agg #[.int .i64 tk, .int .i64 pk]) (.agg #[.int .i64 ta, .int .i64 pa]) (by rfl) (by rfl) E30 (fun wS hSw => LC.out wS hSw) ?_
            simp only [Act.put, List.setIfInBounds_toArray, List.set_cons_zero, List.set_cons_succ]
            refine qh_opw (.bool true) (by rfl) (fun wS hSw => by go_simp; try with_reducible rfl) ?_
            simp only [Act.put, List.setIfInBounds_toArray, List.set_cons_zero, List.set_cons_succ]
            refine qh_op (.bool true) rfl (fun wS hSw => by go_simp; try with_reducible rfl) ?_
            simp only [Act.put, List.setIfInBounds_toArray, List.set_cons_zero, List.set_cons_succ]
            refine qh_nil ⟨?_⟩
            intro wE hE
            go_wp2
            go_roundw
            case rel => exact ⟨k + 1, (k : Nat), by omega, rfl, by go_num, HF2, HBr.out.trans (hE.mono HBr.out.size)⟩
            case measure => simp [intOf]; omega
      · have d1 : decide (tk ≤ u) = false := decide_eq_false hu
        unfold Fr.better at hst
        rw [if_neg hu] at hst
        have HF2 : Hid (Fr.Found l u (k + 1) at_) := Lib.hid (by
          rcases HFd.out with ⟨h1, hn⟩ | ⟨a, h1, hak, hal, hs⟩
          · exact .inl ⟨h1, by rw [hst, hn]⟩
          · exact .inr ⟨a, h1, by omega, hal, by rw [hst, hs]⟩)
        clear hst hu c0 c1
        go_upto_region 5 with fail
        refine region_qh (C := fun w' => Below wo.heap.size wo w') (by kernel_rfl) (by kernel_rfl) ((Below.refl _ wo).drew) ?_
        refine qh_op (.pointer (some ⟨p, 0, none⟩)) rfl (fun wS hSw => by go_simp; try with_reducible rfl) ?_
        simp only [Act.put, List.setIfInBounds_toArray, List.set_cons_zero, List.set_cons_succ]
        refine qh_op (.pointer (some ⟨p, 0, none⟩)) rfl (fun wS hSw => by go_simp; try with_reducible rfl) ?_
        simp only [Act.put, List.setIfInBounds_toArray, List.set_cons_zero, List.set_cons_succ]
        refine qh_op (.pointer (some ⟨p, 0, none⟩)) rfl (fun wS hSw => by go_simp; try with_reducible rfl) ?_
        simp only [Act.put, List.setIfInBounds_toArray, List.set_cons_zero, List.set_cons_succ]
        refine qh_op (.slice (some ⟨b, off, none⟩) l.length cap) rfl (fun wS hSw => by have kp := KP.out wS hSw; go_simp; try with_reducible rfl) ?_
        simp only [Act.put, List.setIfInBounds_toArray, List.set_cons_zero, List.set_cons_succ]
        refine qh_op (.int .i64 k) rfl (fun wS hSw => by go_simp; try with_reducible rfl) ?_
        simp only [Act.put, List.setIfInBounds_toArray, List.set_cons_zero, List.set_cons_succ]
        refine qh_op (.pointer (some ⟨b, off + k * 2, none⟩)) rfl (fun wS hSw => by go_simp; try with_reducible rfl) ?_
        simp only [Act.put, List.setIfInBounds_toArray, List.set_cons_zero, List.set_cons_succ]
        refine qh_op (.pointer (some ⟨b, off + k * 2, none⟩)) rfl (fun wS hSw => by go_simp; try with_reducible rfl) ?_
        simp only [Act.put, List.setIfInBounds_toArray, List.set_cons_zero, List.set_cons_succ]
        refine qh_op (.int .i64 tk) rfl (fun wS hSw => by obtain ⟨ki0, ki1⟩ := KI.out wS hSw; go_simp; try with_reducible rfl) ?_
        simp only [Act.put, List.setIfInBounds_toArray, List.set_cons_zero, List.set_cons_succ]
        refine qh_op (.int .i64 u) rfl (fun wS hSw => by go_simp; try with_reducible rfl) ?_
        simp only [Act.put, List.setIfInBounds_toArray, List.set_cons_zero, List.set_cons_succ]
        refine qh_op (.bool false) rfl (fun wS hSw => by go_simp; try with_reducible rfl) ?_
        simp only [Act.put, List.setIfInBounds_toArray, List.set_cons_zero, List.set_cons_succ]
        refine qh_op (.bool false) rfl (fun wS hSw => by go_simp; try with_reducible rfl) ?_
        simp only [Act.put, List.setIfInBounds_toArray, List.set_cons_zero, List.set_cons_succ]
        refine qh_skip (by rfl) ?_
        simp only [Act.put, List.setIfInBounds_toArray, List.set_cons_zero, List.set_cons_succ]
        refine qh_skip (by rfl) ?_
        simp only [Act.put, List.setIfInBounds_toArray, List.set_cons_zero, List.set_cons_succ]
        refine qh_skip (by rfl) ?_
        simp only [Act.put, List.setIfInBounds_toArray, List.set_cons_zero, List.set_cons_succ]
        refine qh_skip (by rfl) ?_
        simp only [Act.put, List.setIfInBounds_toArray, List.set_cons_zero, List.set_cons_succ]
        refine qh_skip (by rfl) ?_
        simp only [Act.put, List.setIfInBounds_toArray, List.set_cons_zero, List.set_cons_succ]
        refine qh_skip (by rfl) ?_
        simp only [Act.put, List.setIfInBounds_toArray, List.set_cons_zero, List.set_cons_succ]
        refine qh_skip (by rfl) ?_
        simp only [Act.put, List.setIfInBounds_toArray, List.set_cons_zero, List.set_cons_succ]
        refine qh_skip (by rfl) ?_
        simp only [Act.put, List.setIfInBounds_toArray, List.set_cons_zero, List.set_cons_succ]
        refine qh_skip (by rfl) ?_
        simp only [Act.put, List.setIfInBounds_toArray, List.set_cons_zero, List.set_cons_succ]
        refine qh_skip (by rfl) ?_
        simp only [Act.put, List.setIfInBounds_toArray, List.set_cons_zero, List.set_cons_succ]
        refine qh_skip (by rfl) ?_
        simp only [Act.put, List.setIfInBounds_toArray, List.set_cons_zero, List.set_cons_succ]
        refine qh_skip (by rfl) ?_
        simp only [Act.put, List.setIfInBounds_toArray, List.set_cons_zero, List.set_cons_succ]
        refine qh_skip (by rfl) ?_
        simp only [Act.put, List.setIfInBounds_toArray, List.set_cons_zero, List.set_cons_succ]
        refine qh_skip (by rfl) ?_
        simp only [Act.put, List.setIfInBounds_toArray, List.set_cons_zero, List.set_cons_succ]
        refine qh_skip (by rfl) ?_
        simp only [Act.put, List.setIfInBounds_toArray, List.set_cons_zero, List.set_cons_succ]
        refine qh_skip (by rfl) ?_
        simp only [Act.put, List.setIfInBounds_toArray, List.set_cons_zero, List.set_cons_succ]
        refine qh_skip (by rfl) ?_
        simp only [Act.put, List.setIfInBounds_toArray, List.set_cons_zero, List.set_cons_succ]
        refine qh_skip (by rfl) ?_
        simp only [Act.put, List.setIfInBounds_toArray, List.set_cons_zero, List.set_cons_succ]
        refine qh_skip (by rfl) ?_
        simp only [Act.put, List.setIfInBounds_toArray, List.set_cons_zero, List.set_cons_succ]
        refine qh_op (.bool false) rfl (fun wS hSw => by go_simp; try with_reducible rfl) ?_
        simp only [Act.put, List.setIfInBounds_toArray, List.set_cons_zero, List.set_cons_succ]
        refine qh_nil ⟨?_⟩
        intro wE hE
        go_wp2
        go_roundw
        case rel => exact ⟨k + 1, at_, by omega, rfl, by go_num, HF2, HBr.out.trans (hE.mono HBr.out.size)⟩
        case measure => simp [intOf]; omega
    · obtain rfl : k = l.length := by omega
      have t1 : decide (l.length < l.length) = false := decide_eq_false (by omega)
      have HBr := Lib.hid hBr
      rcases HFd.out with ⟨rfl, hn⟩ | ⟨a, rfl, hak, hal, hs⟩
      · rw [List.take_length] at hn
        have HE1 : Hid (Fr.takeL l u = l ∧ Fr.takeP l u = 0 ∧ Fr.takeB l u = false) := Lib.hid (by
          unfold Fr.takeL Fr.takeP Fr.takeB
          rw [hn]
          exact ⟨rfl, rfl, rfl⟩)
        clear hn hfr hBr
        go_wp2
        go_ret2
        obtain ⟨e1, e2, e3⟩ := HE1.out
        rw [e1, e2, e3]
        exact ⟨rfl, F, HA.out.touch (Touch.ofBelow HBr.out) (by simp), (Touch.ofBelow HBr.out).more (by simp), Grows.refl _ _⟩
      · rw [List.take_length] at hs
        have d2 : decide ((a : Int) < 0) = false := decide_eq_false (by omega)
        obtain ⟨b, off, hAA, hbl, a0, a1⟩ := hfr.get a hal
        have HE1 : Hid (Fr.takeL l u = l.eraseIdx a ∧ Fr.takeP l u = l[a].2 ∧ Fr.takeB l u = true) := Lib.hid (by
          unfold Fr.takeL Fr.takeP Fr.takeB
          rw [hs]
          exact ⟨Fr.erase_filter OK.out a hal, rfl, rfl⟩)
        have j0 : (0 : Int) ≤ (a : Int) := by omega
        have j1 : (a : Int) < (l.length : Int) := by omega
        have HOWN : Hid (OwnF (wo.alloc (.cells #[] 31)) w.heap.size (.slice (some ⟨wo.heap.size, 0, none⟩) 0 0) []) := Lib.hid (World.ownsRow_made (size := 2) wo #[] 0 HBr.out.size (by simp [maxLen]) rfl)
        have HBA := Lib.hid (HBr.out.alloc HBr.out.size (.cells #[] 31))
        subst hAA
        clear hs hfr hBr
        go_wp2
        go_loopw [9, 10] (fun vv ii wr => ∃ k : Nat, k ≤ l.length ∧ ii = .int .i64 k ∧ OwnF wr w.heap.size vv ((l.take k).eraseIdx a) ∧ Below w.heap.size w wr) (fun _ ii _ => l.length - (intOf ii).toNat)
        case atStart => exact ⟨0, by omega, rfl, by rw [List.take_zero]; exact HOWN.out, HBA.out⟩
        case round =>
          obtain ⟨k, hk, rfl, hown, hBs⟩ := hrel
          obtain ⟨cps, hfs, hpls⟩ := HHD.out wr hBs
          by_cases hkl : k < l.length
          · have t3 : decide (k < l.length) = true := decide_eq_true hkl
            have hes := Fr.erase_snoc l k a hkl
            by_cases hka : k = a
            · have d3 : ((k : Int) != (a : Int)) = false := by rw [bne_eq_false_iff_eq]; omega
              have d4 : (k != a) = false := by rw [bne_eq_false_iff_eq]; exact hka
              have d5 : decide (k = a) = true := decide_eq_true hka
              have d6 : ((k : Int) == (a : Int)) = true := by rw [beq_iff_eq]; omega
              rw [if_pos hka] at hes
              have HO2 : Hid (OwnF wr w.heap.size u9 ((l.take (k + 1)).eraseIdx a)) := Lib.hid (by rw [hes]; exact hown)
              have HBs := Lib.hid hBs
              clear hes hown hfs hBs hka
              go_wp2
              go_roundw
              case rel => exact ⟨k + 1, by omega, by go_num, HO2.out, HBs.out⟩
              case measure => simp [intOf]; omega
            · have d3 : ((k : Int) != (a : Int)) = true := by rw [bne_iff_ne]; omega
              have d4 : (k != a) = true := by rw [bne_iff_ne]; exact hka
              have d5 : decide (k = a) = false := decide_eq_false hka
              have d6 : ((k : Int) == (a : Int)) = false := by rw [beq_eq_false_iff_ne]; omega
              rw [if_neg hka] at hes
              obtain ⟨b', off', hA', hbs, s0, s1⟩ := hfs.get k hkl
              injection hA' with h
              injection h with h1 h2
              subst h1 h2
              obtain ⟨⟨tk, pk⟩, hx⟩ : ∃ x, l[k] = x := ⟨_, rfl⟩
              rw [hx] at s0 s1 hes
              simp only at s0 s1
              have HES := Lib.hid hes
              have i0 : (0 : Int) ≤ (k : Int) := by omega
              have i1 : (k : Int) < (l.length : Int) := by omega
              have hlen : ((l.take k).eraseIdx a).length + 1 ≤ 4294967296 := by
                have := List.length_eraseIdx_le (l.take k) a
                rw [List.length_take] at this
                omega
              have HBs := Lib.hid hBs
              have hbase := hBs.size
              clear hes hfs hBs hx hka
              go_wp2_with (at_builtin; refine wpList_append_free _ rfl (.tmp 75) (.tmp 83) 27 rfl _ undF freeInfo _ _ rfl hown (tk, pk) rfl hlen hbase ?_; intro V4 w4 hown4 hbel4)
              go_roundw
              case rel => exact ⟨k + 1, by omega, by go_num, by rw [HES.out]; exact hown4, HBs.out.trans hbel4⟩
              case measure => simp [intOf]; omega
          · obtain rfl : k = l.length := by omega
            have t3 : decide (l.length < l.length) = false := decide_eq_false (by omega)
            rw [List.take_length] at hown
            have hblk : ∀ k, u9.ownBlock = some k → w.heap.size ≤ k ∧ k < wr.heap.size := fun k hk => World.ownsRow.lt hown k hk
            have HBK := Lib.hid hblk
            have HOW := Lib.hid hown
            have HBs := Lib.hid hBs
            obtain ⟨A9, cap9, hv9⟩ := ownsRow_slice hown
            subst hv9
            have hpf : wr.frozen? ⟨p, 0, none⟩ = false := by
              obtain ⟨vr, hb, _⟩ := HA.out
              exact ((Touch.ofBelow HBs.out).frozen (p := ⟨p, 0, none⟩) hb.lt (by simp)).trans (hb.free 0)
            clear hown hblk hfs hBs
            go_wp2
            go_ret2
            obtain ⟨e1, e2, e3⟩ := HE1.out
            rw [e1, e2, e3]
            obtain ⟨vr, hb, hr, hFF, hN⟩ := HA.out
            have hbw := hb.touch (Touch.ofBelow HBs.out) (by simp)
            refine ⟨rfl, p :: (Value.slice A9 (l.eraseIdx a).length cap9).ownBlock.toList, ⟨.slice A9 (l.eraseIdx a).length cap9, hbw.set 0 _, ?_, rfl, ?_⟩, ?_, ?_⟩
            · have h0 : OwnF wr 0 (.slice A9 (l.eraseIdx a).length cap9) (l.eraseIdx a) := ⟨HOW.out.1, HOW.out.2.imp id (fun ⟨g, c, cur, q1, q2, rest⟩ => ⟨g, c, cur, q1, Nat.zero_le _, rest⟩)⟩
              refine ownsRow_touch (S := [p]) h0 ((Touch.refl [p] wr).setCell (p := ⟨p, 0, none⟩) (.inl (by simp)) _) ?_
              intro k hk hm
              rw [List.mem_singleton] at hm
              have := (HBK.out k hk).1
              omega
            · rw [List.nodup_cons]
              refine ⟨fun hm => ?_, by cases (Value.slice A9 (l.eraseIdx a).length cap9).ownBlock <;> simp⟩
              have := (HBK.out p (by simpa using hm)).1
              omega
            · rw [hFF]
              exact ((Touch.ofBelow HBs.out).more (by simp)).setCell (p := ⟨p, 0, none⟩) (.inl (by simp)) _
            · intro k hk
              rcases List.mem_cons.1 hk with rfl | hk
              · exact .inl (by rw [hFF]; exact List.mem_cons_self ..)
              · exact .inr (HBK.out k (by simpa using hk)).1
end Go.Proofs.Ytjgndgcegenikaa
