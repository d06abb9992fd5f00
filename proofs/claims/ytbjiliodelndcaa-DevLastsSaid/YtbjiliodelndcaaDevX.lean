/-
  Contract of the program's dev.Write. No conditions but those typed.
-/
import Derived.Test.YtbjiliodelndcaaDevWE
import Derived.Test.YtbjiliodelndcaaTakes
import Derived.Test.YtbjiliodelndcaaTakes2
import Derived.Test.YtbjiliodelndcaaBuild1
import Derived.Test.YtbjiliodelndcaaHeadQuiet
import Derived.Deep.CutRange
import Derived.Deep.DeepCutAuto
namespace Go.Proofs.Ytbjiliodelndcaa
open Go.RowKit
attribute [local go_sem ↓] Go.wp_at_zero Go.wp_at_succ
theorem touch_map {w w1 : World} {b : Nat} (h : w.grownBy w1 (some b)) : Touch [b] w w1 := ⟨h.os, h.tape, h.output, h.size, fun k hk hn => h.block k hk (fun e => hn (by injection e with e; simp [e]))⟩
set_option maxRecDepth 4000 in
set_option maxHeartbeats 800000 in
theorem dev_write_not (w : World) (p : Nat) (d : RD) (F : List Nat) (i : Int) (s : ByteArray) (h : DevAt w p d F) (hn : ¬ (d.has i && decide (s.size = 128)) = true) :
    Calls Try.prog 27 #[.pointer (some ⟨p, 0, none⟩), .int .i64 i, .string s] w (Did DevAt w p F (d.writeD i s) (.returned (.int .i64 (d.writeE i s)))) := by
  have hh := dev_has w p d F i h
  have HE : Hid (d.writeD i s = d ∧ d.writeE i s = 1) := Lib.hid (by unfold RD.writeD RD.writeE; rw [if_neg hn, if_neg hn]; exact ⟨rfl, rfl⟩)
  have HA := Lib.hid h
  clear h
  cases hi : d.has i
  · rw [hi] at hh
    have HH := Lib.hid hh
    clear hh hn hi
    go_enter Try.func27, Try.ntmps27
    go_wp2_with (go_at_call 33; refine HH.out.mono ?_; rintro _ _ ⟨rfl, rfl⟩)
    go_ret
    refine ⟨by rw [HE.out.2]; rfl, ?_⟩
    rw [HE.out.1]
    exact ⟨F, HA.out, Touch.refl _ _, Grows.refl _ _⟩
  · rw [hi] at hh
    have HH := Lib.hid hh
    have d8 : ((s.size : Int) != 128) = true := by rw [hi] at hn; simp at hn; simp; omega
    clear hh hn hi
    go_enter Try.func27, Try.ntmps27
    go_wp2_with (go_at_call 33; refine HH.out.mono ?_; rintro _ _ ⟨rfl, rfl⟩)
    go_ret
    refine ⟨by rw [HE.out.2]; rfl, ?_⟩
    rw [HE.out.1]
    exact ⟨F, HA.out, Touch.refl _ _, Grows.refl _ _⟩
section
variable {P : Program} {w w' : World} {ops : Array Oper} {o : Oper} {a : Act} {K : Act → World → Prop} {Q : Exit → Act → World → Prop} {E : Prop}
/-- a slice literal, as one step of a region that draws, where its run is known by an equation -/
theorem step_buildSlice (hgd : o.guard = none) (t : TypeId) (n : Nat) (x : Operand) (ho : o.op = .buildSlice t n #[(0, x)]) {u v : Value} (hp : a.eval x = u)
    (hr : (Instr.buildSlice t n #[(0, u)]).run P w = .ok v w') (h : K (a.put o.dst v) w') : if Region.wanted o (yielded ops a.tmps) = true then Oper.wp P o a w K Q else E := by
  have hw : Region.wanted o (yielded ops a.tmps) = true := by simp [Region.wanted, hgd]
  rw [if_pos hw]
  unfold Oper.wp execOp
  simp only [ho, List.map_toArray, List.map_cons, List.map_nil, hp, hr, Sem.run_bind, Result.andThen_ok, Sem.run_pure]
  exact h
end
set_option maxRecDepth 4000 in
set_option maxHeartbeats 3200000 in
theorem dev_write (w : World) (p : Nat) (d : RD) (F : List Nat) (K : Nat) (hK : K ≤ 1000000) (ok : RD.Ok K d) (i : Int) (s : ByteArray) (h : DevAt w p d F) :
    Calls Try.prog 27 #[.pointer (some ⟨p, 0, none⟩), .int .i64 i, .string s] w (Did DevAt w p F (d.writeD i s) (.returned (.int .i64 (d.writeE i s)))) := by
  by_cases hc : (d.has i && decide (s.size = 128)) = true
  case neg => exact dev_write_not w p d F i s h hc
  have hh := dev_has w p d F i h
  have hst := dev_step w p d F K hK ok h
  have hl := ok.row
  have hw := ok.wrote
  clear h
  have hD : d.writeD i s = if d.goes then { d.stepped with row := d.row ++ [(i.toNat, s)], wrote := d.wrote + 1 } else d.stepped := by unfold RD.writeD; rw [if_pos hc]
  have hE : d.writeE i s = if d.goes then 0 else 6 := by unfold RD.writeE; rw [if_pos hc]
  rw [Bool.and_eq_true, decide_eq_true_eq] at hc
  obtain ⟨hi, h8⟩ := hc
  rw [hi] at hh
  unfold RD.has at hi
  simp only [Bool.and_eq_true, decide_eq_true_eq] at hi
  obtain ⟨i0, i1⟩ := hi
  obtain ⟨q, rfl⟩ := Int.eq_ofNat_of_zero_le i0
  have hq : q < d.sector.length := by omega
  have d8 : ((s.size : Int) != 128) = false := by rw [h8]; rfl
  have HH := Lib.hid hh
  cases hg : d.goes
  · have HD : Hid (d.writeD (q : Int) s = d.stepped ∧ d.writeE (q : Int) s = 6) := Lib.hid ⟨by rw [hD, hg]; rfl, by rw [hE, hg]; rfl⟩
    have hsE : d.syncE = 6 := by unfold RD.syncE; rw [hg]; rfl
    rw [hsE] at hst
    have HST := Lib.hid hst
    clear hst hD hE hh hg hsE hl hw i0 i1 hq
    go_enter Try.func27, Try.ntmps27
    go_wp2_with (first | (go_at_call 33; refine HH.out.mono ?_; rintro _ _ ⟨rfl, rfl⟩) | (go_at_call 41; refine HST.out.mono ?_; rintro _ w1 ⟨rfl, HA⟩))
    go_ret
    refine ⟨by rw [HD.out.2]; rfl, ?_⟩
    rw [HD.out.1]
    exact HA
  · have HD : Hid (d.writeD (q : Int) s = { d.stepped with row := d.row ++ [(q, s)], wrote := d.wrote + 1 } ∧ d.writeE (q : Int) s = 0) := Lib.hid ⟨by rw [hD, hg]; rfl, by rw [hE, hg]; rfl⟩
    have hsE : d.syncE = 0 := by unfold RD.syncE; rw [hg]; rfl
    rw [hsE] at hst
    have HST := Lib.hid hst
    have e1 := RD.stepped_sector d
    have e2 := RD.stepped_row d
    have e3 := RD.stepped_wrote d
    obtain ⟨d1, hd1⟩ : ∃ d1, d.stepped = d1 := ⟨_, rfl⟩
    rw [hd1] at HST HD e1 e2 e3
    have HE1 := Lib.hid (And.intro e1 (And.intro e2 e3))
    have HSO : Hid (∀ w, Calls Try.prog 42 #[.string s] w fun e w' => e = .returned (sagg s) ∧ Below w.heap.size w w') := Lib.hid (fun w => sectorOf42 s h8 w)
    obtain ⟨C, hC⟩ : ∃ C : Array Value, (sbytes s).toArray = C := ⟨_, rfl⟩
    have hCl : C.toList = sbytes s := by rw [← hC]
    have hCs : C.size = 128 := by rw [← hC, List.size_toArray, sbytes_length, h8]
    unfold sagg at HSO
    rw [hC] at HSO
    have HCL := Lib.hid hCl
    have HCS := Lib.hid hCs
    have H8 := Lib.hid h8
    clear hst hD hE hh hg hsE i0 i1 hd1 e1 e2 e3 hC hCl hCs h8
    go_enter Try.func27, Try.ntmps27
    go_upto_region 8 with (first | (go_at_call 33; refine HH.out.mono ?_; rintro _ _ ⟨rfl, rfl⟩) | (go_at_call 41; refine HST.out.mono ?_; rintro _ w1 ⟨rfl, F1, hA1, hT1, hG1⟩))
    obtain ⟨vs, mb, n, f, hb, hs, hm, hn, hr, hr2, k1, k2, k3, ⟨m1, m2, m3, m4⟩, hlt, hz, hz2⟩ := hA1
    obtain ⟨e1, e2, e3⟩ := HE1.out
    rw [e2] at hn hr2 hz2
    rw [e1] at hs hz
    simp only [e1, e2] at hr
    obtain ⟨v0, hv0⟩ : ∃ v0, (f q).getD (.slice none 0 0) = v0 := ⟨_, rfl⟩
    have hown : w1.ownsRow 0 62 128 v0 (RD.writes d.row q).length (secs (RD.writes d.row q)) := by
      cases hf : f q with
      | none =>
        have : RD.writes d.row q = [] := by
          cases hw : RD.writes d.row q with
          | nil => rfl
          | cons a l =>
            obtain ⟨v, hv⟩ := hr2 q (by rw [hw]; simp)
            rw [hf] at hv
            cases hv
        rw [this, ← hv0, hf]
        exact World.ownsRow_nil _ _ _ _
      | some v =>
        obtain ⟨i, hi, _, _, ho⟩ := hr q v hf
        have : q = i := by omega
        subst this
        rw [← hv0, hf]
        exact ho
    have HLK : Hid (∀ wx : World, Touch [] w1 wx → (Instr.lookup 56 (.map (some mb)) (.int .i64 q) false).run Try.prog wx = .ok v0 wx) := Lib.hid (fun wx hx => by
      rw [← hv0]
      exact (hm.touch hx (by simp)).lookup Try.underlying56 Try.underlying3 (zero55 wx) q)
    have HC2 : Hid (∀ wx : World, Touch [] w1 wx → wx.cell? ⟨p, 2, none⟩ = some (.map (some mb))) := Lib.hid (fun wx hx => (hb.touch hx (by simp)).cell 2)
    have hwl := RD.writes_length_le d.row q
    have HM := Lib.hid hm
    have HNE : Hid (∀ g, v0.ownBlock = some g → g ≠ p ∧ g ≠ mb) := Lib.hid (by
      intro g hg
      cases hf : f q with
      | none => rw [hf] at hv0; rw [← hv0] at hg; cases hg
      | some v =>
        rw [hf] at hv0
        have : v = v0 := hv0
        subst this
        exact ⟨fun e => (k2 q v hf).1 (by rw [hg, e]), fun e => (k2 q v hf).2.1 (by rw [hg, e])⟩)
    have HB : Hid (Blk w1 p #[.bool (!d1.off), vs, .map (some mb), .int .i64 d1.left, .int .i64 d.wrote, .int .i64 d1.count] 58) := Lib.hid (by rw [← e3]; exact hb)
    have KNE := Lib.hid k1.1
    have HOWN := Lib.hid hown
    have HEND := Lib.hid (fun (w2 w3 : World) (g cap : Nat) => write_end (w1 := w1) (w2 := w2) (w3 := w3) (p := p) (d := d) (d1 := d1) (F := F1) (vs := vs) (mb := mb) (n := n) (f := f) (q := q) (s := s) (v0 := v0) (g := g) (cap := cap) e1 HB.out hs hn hr hr2 k1 k2 k3 ⟨m1, m2, m3, m4⟩ hlt hz hz2 H8.out hq hv0)
    obtain ⟨Z, ii, hii⟩ : ∃ (Z : Array Value) (ii : TypeInfo), Try.prog.info? 62 = some ii ∧ ii.zero = some (.agg Z) ∧ ii.size = 128 ∧ ii.bytes = 128 ∧ Z.size = 128 := by
      cases hq : Try.prog.info? 62 with
      | none => have := info62; rw [hq] at this; cases this
      | some i =>
        have h1 := info62
        have h2 : (Try.prog.info? 62).map (·.bytes) = some 128 := by kernel_rfl
        rw [hq] at h1 h2
        simp at h1 h2
        exact ⟨_, i, rfl, h1.1, h1.2, h2, by simp⟩
    have HII : Hid (Try.prog.info? 62 = some ii ∧ ii.zero = some (.agg Z) ∧ ii.size = 128 ∧ ii.bytes = 128 ∧ (Value.agg Z).cells.size = 128) := Lib.hid hii
    have HT1 := Lib.hid (And.intro hT1 hG1)
    clear hm hv0 hb e1 e2 e3 hs hn hr hr2 k1 k2 k3 m1 m2 m3 m4 hlt hz hz2 hown hii hT1 hG1
    refine wp_region_held_drew (S := fun w' => w'.cell? ⟨p, 2, none⟩ = some (.map (some mb))) (by kernel_rfl) (HC2.out _ (Touch.refl [] w1).drew) (fun hHeld => ?_)
    refine take_0 (v := ?v0) (by kernel_rfl) (by kernel_rfl) (by kernel_rfl) (fun _ _ _ h => h) (by rfl) ?y0 hHeld ?r0
    case y0 => (intro wS hSw; (try dsimp only at hSw); go_simp; try with_reducible rfl)
    try simp only [Act.put, List.setIfInBounds_toArray, List.set_cons_zero, List.set_cons_succ]
    refine take_1 (v := ?v1) (by kernel_rfl) (by kernel_rfl) (by kernel_rfl) (fun _ _ _ h => h) (by rfl) ?y1 hHeld ?r1
    case y1 => (intro wS hSw; (try dsimp only at hSw); go_simp; try with_reducible rfl)
    try simp only [Act.put, List.setIfInBounds_toArray, List.set_cons_zero, List.set_cons_succ]
    refine take_2 (v := ?v2) (by kernel_rfl) (by kernel_rfl) (by kernel_rfl) (fun _ _ _ h => h) (by rfl) ?y2 hHeld ?r2
    case y2 => (intro wS hSw; (try dsimp only at hSw); go_simp; try with_reducible rfl)
    try simp only [Act.put, List.setIfInBounds_toArray, List.set_cons_zero, List.set_cons_succ]
    refine take_3 (v := ?v3) (by kernel_rfl) (by kernel_rfl) (by kernel_rfl) (fun _ _ _ h => h) (by rfl) ?y3 hHeld ?r3
    case y3 => (intro wS hSw; (try dsimp only at hSw); go_simp; try with_reducible rfl)
    try simp only [Act.put, List.setIfInBounds_toArray, List.set_cons_zero, List.set_cons_succ]
    refine take_4 (v := ?v4) (by kernel_rfl) (by kernel_rfl) (by kernel_rfl) (fun _ _ _ h => h) (by rfl) ?y4 hHeld ?r4
    case y4 => (intro wS hSw; (try dsimp only at hSw); go_simp; try with_reducible rfl)
    try simp only [Act.put, List.setIfInBounds_toArray, List.set_cons_zero, List.set_cons_succ]
    refine takes_5 (v := ?v5) (by kernel_rfl) (by kernel_rfl) (by kernel_rfl) (fun _ _ _ h => h) (by rfl) ?y5 hHeld ?r5
    case y5 => (intro wS hSw; (try dsimp only at hSw); go_simp; try with_reducible rfl)
    try simp only [Act.put, List.setIfInBounds_toArray, List.set_cons_zero, List.set_cons_succ]
    refine take_6 (v := ?v6) (by kernel_rfl) (by kernel_rfl) (by kernel_rfl) (fun _ _ _ h => h) (by rfl) ?y6 hHeld ?r6
    case y6 => (intro wS hSw; (try dsimp only at hSw); go_simp; try with_reducible rfl)
    try simp only [Act.put, List.setIfInBounds_toArray, List.set_cons_zero, List.set_cons_succ]
    refine take_7 (v := ?v7) (by kernel_rfl) (by kernel_rfl) (by kernel_rfl) (fun _ _ _ h => h) (by rfl) ?y7 hHeld ?r7
    case y7 => (intro wS hSw; (try dsimp only at hSw); go_simp; try with_reducible rfl)
    try simp only [Act.put, List.setIfInBounds_toArray, List.set_cons_zero, List.set_cons_succ]
    refine take_8 (v := ?v8) (by kernel_rfl) (by kernel_rfl) (by kernel_rfl) (fun _ _ _ h => h) (by rfl) ?y8 hHeld ?r8
    case y8 => (intro wS hSw; (try dsimp only at hSw); go_simp; try with_reducible rfl)
    try simp only [Act.put, List.setIfInBounds_toArray, List.set_cons_zero, List.set_cons_succ]
    refine take_9 (v := ?v9) (by kernel_rfl) (by kernel_rfl) (by kernel_rfl) (fun _ _ _ h => h) (by rfl) ?y9 hHeld ?r9
    case y9 => (intro wS hSw; (try dsimp only at hSw); go_simp; try with_reducible rfl)
    try simp only [Act.put, List.setIfInBounds_toArray, List.set_cons_zero, List.set_cons_succ]
    refine takes_11 (v := ?v11) (by kernel_rfl) (by kernel_rfl) (by kernel_rfl) (fun _ _ _ h => h) (by rfl) ?y11 hHeld ?r11
    case y11 => (intro wS hSw; (try dsimp only at hSw); go_simp; try with_reducible rfl)
    try simp only [Act.put, List.setIfInBounds_toArray, List.set_cons_zero, List.set_cons_succ]
    refine pair_10_12 (by kernel_rfl) (fun K hK => ?_) (fun K hK => ?_)
    · -- the lookup first
      have lk := HLK.out _ ((Touch.refl [] w1).drew)
      go_simp
      refine hK.out _ _ (HC2.out _ ((Touch.refl [] w1).drew)) (fun hHeld => ?_)
      clear hK K lk
      try simp only [Act.put, List.setIfInBounds_toArray, List.set_cons_zero, List.set_cons_succ]
      refine steps_12 (by kernel_rfl) (fun K hK => ?_)
      go_simp
      refine (HSO.out _).mono ?_
      rintro e w5 ⟨rfl, hb5⟩
      have T5 : Touch [] w1 w5 := (Touch.refl _ w1).drew.trans (Touch.ofBelow hb5) (Grows.refl _ _)
      go_wp2_with fail
      refine hK.out _ _ (HC2.out _ T5) (fun hHeld => ?_)
      clear hK K
      try simp only [Act.put, List.setIfInBounds_toArray, List.set_cons_zero, List.set_cons_succ]
      refine steps_13 (by kernel_rfl) (fun K hK => ?_)
      refine step_buildSlice rfl 55 1 _ rfl (u := .agg C) (by rfl) (run_build1 w5 C HCS.out) ?_
      refine hK.out _ _ (HC2.out _ (T5.alloc (.cells C 62))) (fun hHeld => ?_)
      clear hK K
      try simp only [Act.put, List.setIfInBounds_toArray, List.set_cons_zero, List.set_cons_succ]
      refine steps_14 (by kernel_rfl) (fun K hK => ?_)
      refine step_append_lies _ rfl _ _ 55 (by rfl) 0 62 ii (.agg Z) 128 128 Try.underlying55 HII.out.1 HII.out.2.1 HII.out.2.2.1 HII.out.2.2.2.1 HII.out.2.2.2.2 (by omega) v0 _ _ (by rfl) ((ownsRow_touch HOWN.out T5 (by simp)).alloc _)
        ⟨w5.heap.size, 0, none⟩ 1 1 C.toList (by rfl) (by simp [HCS.out]) (World.news_of_block (fr := (0, 0)) (heap_alloc_new w5 (.cells C 62))) (by rw [HCL.out]; exact sbytes_one s) (by omega) (by simp only [maxLen]; omega) (by omega) (Nat.zero_le _) _ rfl ?_
      intro g cap w6 hown6 hgr6 hat6 hlt6
      have T6 : Touch v0.ownBlock.toList w1 w6 := ((T5.alloc (.cells C 62)).more (by simp)).trans (touch_own hgr6) (Grows.refl _ _)
      obtain ⟨w7, hrun7, hm7, hgr7⟩ := (HM.out.touch T6 (fun hh => (HNE.out mb (by simpa using hh)).2 rfl)).update Try.underlying56 Try.underlying3 q (.slice (some ⟨g, 0, none⟩) ((RD.writes d.row q).length + 1) cap)
      have hb6 := HB.out.touch T6 (fun hh => (HNE.out p (by simpa using hh)).1 rfl)
      have hb7 := hb6.touch (touch_map hgr7) (by simp; exact KNE.out)
      refine hK.out _ _ (hb6.cell 2) (fun hHeld => ?_)
      clear hK K
      try simp only [Act.put, List.setIfInBounds_toArray, List.set_cons_zero, List.set_cons_succ]
      refine steps_15 (by kernel_rfl) (fun K hK => ?_)
      go_simp
      refine hK.out _ _ (hb7.cell 2) (fun hHeld => ?_)
      clear hK K
      refine ⟨by kernel_rfl, ?_⟩
      try simp only [Act.put, List.setIfInBounds_toArray, List.set_cons_zero, List.set_cons_succ]
      have y4 : w7.cell? ⟨p, 4, none⟩ = some (.int .i64 d.wrote) := hb7.cell 4
      have y5 := hb7.free 4
      have y6 := hb7.lt
      rw [HCL.out] at hown6
      have HF := Lib.hid (HEND.out _ _ _ _ T6 hown6 (hat6.elim .inl (fun e => .inr (by have := T5.size; rw [e]; simp; omega))) hlt6 hm7 hgr7)
      clear hown6 hgr6 hat6 hm7 hgr7 hb6 hb7 hrun7 T6 T5 hb5 hHeld
      go_wp2
      go_ret
      obtain ⟨F', hA', hT', hG'⟩ := HF.out
      refine ⟨by rw [HD.out.2]; rfl, ?_⟩
      rw [HD.out.1]
      exact ⟨F', hA', HT1.out.1.trans hT' HT1.out.2, HT1.out.2.trans hG' HT1.out.1.size⟩
    · -- the sector first
      go_simp
      refine (HSO.out _).mono ?_
      rintro e w5 ⟨rfl, hb5⟩
      have T5 : Touch [] w1 w5 := (Touch.refl _ w1).drew.trans (Touch.ofBelow hb5) (Grows.refl _ _)
      go_wp2_with fail
      refine hK.out _ _ (HC2.out _ T5) (fun hHeld => ?_)
      clear hK K
      try simp only [Act.put, List.setIfInBounds_toArray, List.set_cons_zero, List.set_cons_succ]
      refine pair_10_13 (by kernel_rfl) (fun K hK => ?_) (fun K hK => ?_)
      · -- then the lookup
        have lk := HLK.out _ (T5)
        go_simp
        refine hK.out _ _ (HC2.out _ (T5)) (fun hHeld => ?_)
        clear hK K lk
        try simp only [Act.put, List.setIfInBounds_toArray, List.set_cons_zero, List.set_cons_succ]
        refine steps_13 (by kernel_rfl) (fun K hK => ?_)
        refine step_buildSlice rfl 55 1 _ rfl (u := .agg C) (by rfl) (run_build1 w5 C HCS.out) ?_
        refine hK.out _ _ (HC2.out _ (T5.alloc (.cells C 62))) (fun hHeld => ?_)
        clear hK K
        try simp only [Act.put, List.setIfInBounds_toArray, List.set_cons_zero, List.set_cons_succ]
        refine steps_14 (by kernel_rfl) (fun K hK => ?_)
        refine step_append_lies _ rfl _ _ 55 (by rfl) 0 62 ii (.agg Z) 128 128 Try.underlying55 HII.out.1 HII.out.2.1 HII.out.2.2.1 HII.out.2.2.2.1 HII.out.2.2.2.2 (by omega) v0 _ _ (by rfl) ((ownsRow_touch HOWN.out T5 (by simp)).alloc _)
          ⟨w5.heap.size, 0, none⟩ 1 1 C.toList (by rfl) (by simp [HCS.out]) (World.news_of_block (fr := (0, 0)) (heap_alloc_new w5 (.cells C 62))) (by rw [HCL.out]; exact sbytes_one s) (by omega) (by simp only [maxLen]; omega) (by omega) (Nat.zero_le _) _ rfl ?_
        intro g cap w6 hown6 hgr6 hat6 hlt6
        have T6 : Touch v0.ownBlock.toList w1 w6 := ((T5.alloc (.cells C 62)).more (by simp)).trans (touch_own hgr6) (Grows.refl _ _)
        obtain ⟨w7, hrun7, hm7, hgr7⟩ := (HM.out.touch T6 (fun hh => (HNE.out mb (by simpa using hh)).2 rfl)).update Try.underlying56 Try.underlying3 q (.slice (some ⟨g, 0, none⟩) ((RD.writes d.row q).length + 1) cap)
        have hb6 := HB.out.touch T6 (fun hh => (HNE.out p (by simpa using hh)).1 rfl)
        have hb7 := hb6.touch (touch_map hgr7) (by simp; exact KNE.out)
        refine hK.out _ _ (hb6.cell 2) (fun hHeld => ?_)
        clear hK K
        try simp only [Act.put, List.setIfInBounds_toArray, List.set_cons_zero, List.set_cons_succ]
        refine steps_15 (by kernel_rfl) (fun K hK => ?_)
        go_simp
        refine hK.out _ _ (hb7.cell 2) (fun hHeld => ?_)
        clear hK K
        refine ⟨by kernel_rfl, ?_⟩
        try simp only [Act.put, List.setIfInBounds_toArray, List.set_cons_zero, List.set_cons_succ]
        have y4 : w7.cell? ⟨p, 4, none⟩ = some (.int .i64 d.wrote) := hb7.cell 4
        have y5 := hb7.free 4
        have y6 := hb7.lt
        rw [HCL.out] at hown6
        have HF := Lib.hid (HEND.out _ _ _ _ T6 hown6 (hat6.elim .inl (fun e => .inr (by have := T5.size; rw [e]; simp; omega))) hlt6 hm7 hgr7)
        clear hown6 hgr6 hat6 hm7 hgr7 hb6 hb7 hrun7 T6 T5 hb5 hHeld
        go_wp2
        go_ret
        obtain ⟨F', hA', hT', hG'⟩ := HF.out
        refine ⟨by rw [HD.out.2]; rfl, ?_⟩
        rw [HD.out.1]
        exact ⟨F', hA', HT1.out.1.trans hT' HT1.out.2, HT1.out.2.trans hG' HT1.out.1.size⟩
      · -- then the row
        refine step_buildSlice rfl 55 1 _ rfl (u := .agg C) (by rfl) (run_build1 w5 C HCS.out) ?_
        refine hK.out _ _ (HC2.out _ (T5.alloc (.cells C 62))) (fun hHeld => ?_)
        clear hK K
        try simp only [Act.put, List.setIfInBounds_toArray, List.set_cons_zero, List.set_cons_succ]
        refine steps_10 (by kernel_rfl) (fun K hK => ?_)
        have lk := HLK.out _ (T5.alloc (.cells C 62))
        go_simp
        refine hK.out _ _ (HC2.out _ (T5.alloc (.cells C 62))) (fun hHeld => ?_)
        clear hK K lk
        try simp only [Act.put, List.setIfInBounds_toArray, List.set_cons_zero, List.set_cons_succ]
        refine steps_14 (by kernel_rfl) (fun K hK => ?_)
        refine step_append_lies _ rfl _ _ 55 (by rfl) 0 62 ii (.agg Z) 128 128 Try.underlying55 HII.out.1 HII.out.2.1 HII.out.2.2.1 HII.out.2.2.2.1 HII.out.2.2.2.2 (by omega) v0 _ _ (by rfl) ((ownsRow_touch HOWN.out T5 (by simp)).alloc _)
          ⟨w5.heap.size, 0, none⟩ 1 1 C.toList (by rfl) (by simp [HCS.out]) (World.news_of_block (fr := (0, 0)) (heap_alloc_new w5 (.cells C 62))) (by rw [HCL.out]; exact sbytes_one s) (by omega) (by simp only [maxLen]; omega) (by omega) (Nat.zero_le _) _ rfl ?_
        intro g cap w6 hown6 hgr6 hat6 hlt6
        have T6 : Touch v0.ownBlock.toList w1 w6 := ((T5.alloc (.cells C 62)).more (by simp)).trans (touch_own hgr6) (Grows.refl _ _)
        obtain ⟨w7, hrun7, hm7, hgr7⟩ := (HM.out.touch T6 (fun hh => (HNE.out mb (by simpa using hh)).2 rfl)).update Try.underlying56 Try.underlying3 q (.slice (some ⟨g, 0, none⟩) ((RD.writes d.row q).length + 1) cap)
        have hb6 := HB.out.touch T6 (fun hh => (HNE.out p (by simpa using hh)).1 rfl)
        have hb7 := hb6.touch (touch_map hgr7) (by simp; exact KNE.out)
        refine hK.out _ _ (hb6.cell 2) (fun hHeld => ?_)
        clear hK K
        try simp only [Act.put, List.setIfInBounds_toArray, List.set_cons_zero, List.set_cons_succ]
        refine steps_15 (by kernel_rfl) (fun K hK => ?_)
        go_simp
        refine hK.out _ _ (hb7.cell 2) (fun hHeld => ?_)
        clear hK K
        refine ⟨by kernel_rfl, ?_⟩
        try simp only [Act.put, List.setIfInBounds_toArray, List.set_cons_zero, List.set_cons_succ]
        have y4 : w7.cell? ⟨p, 4, none⟩ = some (.int .i64 d.wrote) := hb7.cell 4
        have y5 := hb7.free 4
        have y6 := hb7.lt
        rw [HCL.out] at hown6
        have HF := Lib.hid (HEND.out _ _ _ _ T6 hown6 (hat6.elim .inl (fun e => .inr (by have := T5.size; rw [e]; simp; omega))) hlt6 hm7 hgr7)
        clear hown6 hgr6 hat6 hm7 hgr7 hb6 hb7 hrun7 T6 T5 hb5 hHeld
        go_wp2
        go_ret
        obtain ⟨F', hA', hT', hG'⟩ := HF.out
        refine ⟨by rw [HD.out.2]; rfl, ?_⟩
        rw [HD.out.1]
        exact ⟨F', hA', HT1.out.1.trans hT' HT1.out.2, HT1.out.2.trans hG' HT1.out.1.size⟩
end Go.Proofs.Ytbjiliodelndcaa
