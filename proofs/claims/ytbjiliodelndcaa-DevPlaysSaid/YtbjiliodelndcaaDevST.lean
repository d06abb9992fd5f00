/-
  Contract of the program's dev.Start. No conditions but those typed.
-/
import Derived.Test.YtbjiliodelndcaaDevZ
import Derived.Test.YtbjiliodelndcaaTakes2
namespace Go.Proofs.Ytbjiliodelndcaa
open Go.RowKit
attribute [local go_sem ↓] Go.wp_at_zero Go.wp_at_succ
theorem steps_4 {P : Program} {md : Region.Mode} {Q : Exit → Act → World → Prop} {S : World → Prop} {x0 x1 x2 x3 o : Oper} {l : List Oper} {fuel : Nat} {listed : Array Bool} {a : Act} {w : World}
    (hr : Region.ready md (x0 :: x1 :: x2 :: x3 :: o :: l).toArray listed = [4])
    (h : ∀ K' : Act → World → Prop, Shut (∀ a w, S w → (S w → wpAnyH P md (x0 :: x1 :: x2 :: x3 :: o :: l).toArray Q S fuel (listed.setIfInBounds 4 true) a w) → K' a w) → if Region.wanted o (yielded (x0 :: x1 :: x2 :: x3 :: o :: l).toArray a.tmps) = true then Oper.wp P o a w K' Q else K' (a.put o.dst undef) w) :
    wpAnyH P md (x0 :: x1 :: x2 :: x3 :: o :: l).toArray Q S (fuel + 1) listed a w :=
  wpAnyH_ready hr (by simp) (AllReadyH.cons (o := o) rfl h AllReadyH.nil)
/-- what holds at a round of Start's loop -/
def StartedAt (w3 : World) (p : Nat) (vs : Value) (cs : Array Value) (d : RD) (picks : List Int) (fin : List ByteArray) (j : Nat) (wr : World) : Prop :=
  ∃ s : List ByteArray, Blk wr p cs 58 ∧ wr.ownsRow 0 62 128 vs d.sector.length (secs s) ∧ s.length = d.sector.length ∧ All128 s ∧ Touch vs.ownBlock.toList w3 wr ∧ startL picks d.row ((dueOf d).drop j) j s = fin
set_option maxRecDepth 4000 in
set_option maxHeartbeats 3200000 in
theorem dev_start (w : World) (p : Nat) (d : RD) (F : List Nat) (K : Nat) (hK : K ≤ 1000000) (ok : RD.Ok K d) (h : DevAt w p d F) (v : Value) (picks : List Int) (hp : NumsAt w F v picks) :
    Calls Try.prog 24 #[.pointer (some ⟨p, 0, none⟩), v] w (Did DevAt w p F (d.startD picks) (.returned (.int .i64 d.startE))) := by
  have hl := ok.row
  have hl2 := ok.len
  cases ho : d.off
  · have HD : Hid (d.startD picks = d ∧ d.startE = 10) := Lib.hid (by unfold RD.startD RD.startE; rw [ho]; exact ⟨rfl, rfl⟩)
    have HA := Lib.hid h
    obtain ⟨vs, mb, n, f, hb, _⟩ := h
    have c0 : w.cell? ⟨p, 0, none⟩ = some (.bool (!d.off)) := hb.cell 0
    rw [ho] at c0
    clear hb hl hl2 ho
    go_enter Try.func24, Try.ntmps24
    go_wp2
    go_ret
    refine ⟨by rw [HD.out.2]; rfl, ?_⟩
    rw [HD.out.1]
    exact ⟨F, HA.out, Touch.refl _ _, Grows.refl _ _⟩
  · obtain ⟨fin, hfin⟩ : ∃ fin, startL picks d.row (dueOf d) 0 d.sector = fin := ⟨_, rfl⟩
    have HD : Hid (d.startD picks = { d with sector := fin, row := [], off := false } ∧ d.startE = 0) := Lib.hid (by
      unfold RD.startD RD.startE; rw [ho, started_eq]; exact ⟨by rw [← hfin]; rfl, rfl⟩)
    obtain ⟨vs, mb, n, f, hb, hs, hm, hn, hr, hr2, k1, k2, k3, ⟨m1, m2, m3, m4⟩, hlt, hz, hz2⟩ := h
    have hwf : ∀ k v, f k = some v → (Lit.int .i64 k).wf = true := by
      intro k v hf
      obtain ⟨i, rfl, hi, _⟩ := hr k v hf
      simp [Lit.wf, IntKind.min, IntKind.max, IntKind.bits, IntKind.signed]
      omega
    obtain ⟨A, cap, rfl⟩ := ownsRow_slice hs
    obtain ⟨D, hD, hD1, hD2, hD3⟩ := hm.owns Try.underlying3 (by simp only [maxLen]; omega) hwf
    have hsz := hD.size_le
    have c0 : w.cell? ⟨p, 0, none⟩ = some (.bool (!d.off)) := hb.cell 0
    have c2 : w.cell? ⟨p, 2, none⟩ = some (.map (some mb)) := hb.cell 2
    rw [ho] at c0
    have KC := Lib.hid (keys_call (some mb) w)
    have SC := Lib.hid (sorted_call mb n D heldR w hD (by simp only [maxLen]; omega) (by omega))
    have HSD := Lib.hid (fun (n : Nat) (ss : List Int) hp hn => sorted_due (w := w) (b := mb) (n := n) (nn := _) (d := d) (f := f) (D := D) (kt := 3) (P := Try.prog) Try.underlying3 hD hD2 hD3 (fun k v hf => by obtain ⟨i, e, h1, h2, _⟩ := hr k v hf; exact ⟨i, e, h1, h2⟩) hr2 ss hp hn)
    obtain ⟨cs, hcs⟩ : ∃ cs : Array Value, #[.bool (!d.off), .slice A d.sector.length cap, .map (some mb), .int .i64 d.left, .int .i64 d.wrote, .int .i64 d.count] = cs := ⟨_, rfl⟩
    have HCS := Lib.hid hcs
    have HOFF := Lib.hid ho
    have HB := Lib.hid hb
    have HS := Lib.hid hs
    have HM := Lib.hid hm
    have HR := Lib.hid hr
    have HR2 := Lib.hid hr2
    have HK1 := Lib.hid k1
    have HK2 := Lib.hid k2
    have HM4 := Lib.hid (And.intro m1 (And.intro m2 (And.intro m3 m4)))
    have HLT := Lib.hid hlt
    have HZ := Lib.hid hz
    have HZ2 := Lib.hid hz2
    have HP := Lib.hid hp
    obtain ⟨PA, pcap, rfl, _⟩ := hp
    have HFIN := Lib.hid hfin
    clear hr hD hD1 hD2 hD3 hwf k1 k2 k3 m1 m2 m3 m4 hlt hr2 hs hb hm hz hz2 hfin ho hcs
    go_enter Try.func24, Try.ntmps24
    go_upto_region 6 with (first | (go_at_call 37; refine KC.out.mono ?_; rintro e w2 ⟨rfl, rfl⟩) | (go_at_call 36; refine SC.out.mono ?_; rintro e w3 ⟨kv, ss, rfl, hperm, hrow, hb3⟩; obtain ⟨kA, kcap, rfl⟩ := ownsRow_slice hrow))
    have B3 : Below w.heap.size w w3 := ((Below.refl _ w).alloc (Nat.le_refl _) _).trans (hb3.mono (by simp))
    obtain ⟨q1, q2⟩ := HSD.out ss.length ss hperm rfl
    obtain ⟨T, hT⟩ : ∃ T, dueOf d = T := ⟨_, rfl⟩
    rw [q1] at hrow
    rw [hT] at hrow q2 HFIN
    obtain ⟨N, hN⟩ : ∃ N : Nat, ss.length = N := ⟨_, rfl⟩
    rw [hN] at hrow q2 ⊢
    have HKC : Hid (∀ j (h : j < T.length), ∃ gk, kA = some ⟨gk, 0, none⟩ ∧ w.heap.size ≤ gk ∧ gk < w3.heap.size ∧ w3.cell? ⟨gk, j, none⟩ = some (.int .i64 T[j])) := Lib.hid (fun j hj => by
      rcases hrow.2 with ⟨_, h0⟩ | ⟨gk, _, _, hkv, hge, _⟩
      · omega
      injection hkv with ea _ _
      subst ea
      have := hrow.cells (g := gk) rfl j (.int .i64 T[j]) (by simp [hj])
      rw [Addr.add_mid, Nat.zero_add] at this
      exact ⟨gk, rfl, hge, World.block_lt_of_cell? _ _ this, this⟩)
    have HTM : Hid (∀ i ∈ T, i < d.sector.length ∧ RD.writes d.row i ≠ []) := Lib.hid (fun i hi => by rw [← hT] at hi; exact (mem_due d i).1 hi)
    have hTl : T.length ≤ 2048 := by
      rw [← hT]
      unfold dueOf
      exact Nat.le_trans (List.length_filter_le _ _) (by rw [List.length_range']; exact hl2)
    have HQ2 := Lib.hid q2
    have HST : Hid (StartedAt w3 p (.slice A d.sector.length cap) cs d picks fin 0 w3) := Lib.hid
      ⟨d.sector, by rw [← HCS.out]; exact HB.out.touch (Touch.ofBelow B3) (by simp), ownsRow_touch HS.out (Touch.ofBelow B3) (by simp), rfl, HZ.out, Touch.refl _ _, by rw [hT]; exact HFIN.out⟩
    have HB3 := Lib.hid B3
    have HT := Lib.hid hT
    have hN2 : N ≤ 2048 := by omega
    clear hperm hrow hb3 B3 q1 q2 hN hT c0 c2 hsz hTl
    clear ss
    go_loopw [5, 6, 20] (fun _ _ x wr => ∃ j : Nat, j ≤ N ∧ x = .int .i64 j ∧ StartedAt w3 p (.slice A d.sector.length cap) cs d picks fin j wr) (fun _ _ x _ => N - (intOf x).toNat)
    case atStart => exact ⟨0, by omega, rfl, HST.out⟩
    case round =>
      obtain ⟨j, hj, rfl, s, rb, rs, rl, rz, rT, rf⟩ := hrel
      by_cases hlt : j < N
      · have d0 : decide ((j : Int) < (N : Int)) = true := decide_eq_true (by omega)
        have hjT : j < T.length := by rw [← HQ2.out]; exact hlt
        obtain ⟨gk, rfl, hge, hgl, hkc⟩ := HKC.out j hjT
        obtain ⟨i, hi⟩ : ∃ i, T[j] = i := ⟨_, rfl⟩
        obtain ⟨hil, hwi⟩ := HTM.out i (by rw [← hi]; exact List.getElem_mem hjT)
        rw [hi] at hkc
        have T03 : Touch [] w w3 := Touch.ofBelow HB3.out
        have Twr : Touch (Value.slice A d.sector.length cap).ownBlock.toList w wr := (T03.more (by simp)).trans rT (Grows.refl _ _)
        obtain ⟨vi, hvi⟩ := HR2.out i hwi
        obtain ⟨i', hii, _, _, ho⟩ := HR.out i vi hvi
        obtain rfl : i = i' := by omega
        have hvk := HK2.out i vi hvi
        obtain ⟨Av, capv, rfl⟩ := ownsRow_slice ho
        have hml := RD.writes_length_le d.row i
        have how := ownsRow_touch ho Twr (fun g hg hh => hvk.2.2 g hg (by simpa using hh))
        rcases rs.2 with ⟨_, h0⟩ | ⟨g, _, _, hsv, _⟩
        · omega
        injection hsv with ea _ _
        subst ea
        have hpg : p ≠ g := fun e => HK1.out.2.1 (by rw [e]; rfl)
        have hmg : mb ≠ g := fun e => HK1.out.2.2 (by rw [e]; rfl)
        have hgF : g ∈ F := HM4.out.2.2.1 g rfl
        have hkg : gk ≠ g := fun e => by have := HLT.out g hgF; omega
        have kcell : wr.cell? ⟨gk, j, none⟩ = some (.int .i64 i) := (rT.cell (p := ⟨gk, j, none⟩) hgl (by simpa [Value.ownBlock] using hkg)).trans hkc
        have hLz : All128 (RD.writes d.row i) := by
          intro s hs
          unfold RD.writes at hs
          obtain ⟨x, hx, rfl⟩ := List.mem_map.1 hs
          exact HZ2.out x (List.mem_filter.1 hx).1
        have hlk : ∀ wx : World, Touch [g] wr wx → (Instr.lookup 56 (.map (some mb)) (.int .i64 i) false).run Try.prog wx = .ok (.slice Av (RD.writes d.row i).length capv) wx := fun wx hx => by
          have hmx : IMap wx mb n f := (HM.out.touch Twr (fun hh => HK1.out.2.2 (by simpa using hh))).touch hx (by simpa using hmg)
          have := hmx.lookup Try.underlying56 Try.underlying3 (zero55 wx) i
          rwa [hvi] at this
        have hrb := rb
        rw [← HCS.out, ← rl] at hrb
        have rs' := rs
        rw [← rl] at rs' hil
        have Tdr : Touch [] wr wr.drew := (Touch.refl _ _).drew
        have KP := Lib.hid (dev_keep wr.drew p mb g cap _ _ _ _ _ s (RD.writes d.row i) i (RD.keeps picks j (RD.writes d.row i).length) hrb rs' rz hil hpg (hvk.2.2 g · rfl) (fun wx hx => hlk wx ((Tdr.more (by simp)).trans hx (Grows.refl _ _))) how hLz (RD.keeps_le _ _ _) (by omega))
        have hpw : NumsAt wr.drew F (.slice PA picks.length pcap) picks := (HP.out.touch Twr (by
          intro k hk
          have : k = g := by simpa [Value.ownBlock, eq_comm] using hk
          rw [this]; exact hgF)).touch Tdr (by simp)
        have PK := Lib.hid (pickOf40 wr.drew F _ picks hpw j)
        have PD := Lib.hid (picked39 wr.drew picks j (RD.writes d.row i).length (by omega) (pickAt_in hpw j))
        have hc2 : wr.drew.cell? ⟨p, 2, none⟩ = some (.map (some mb)) := hrb.cell 2
        have HC2 : Hid (∀ wx : World, Touch [g] wr wx → wx.cell? ⟨p, 2, none⟩ = some (.map (some mb))) := Lib.hid (fun wx hx => (hrb.touch hx (by simpa using hpg)).cell 2)
        have hl1 := hlk wr.drew (Tdr.more (by simp))
        have HLK := Lib.hid hlk
        obtain ⟨L, hL⟩ : ∃ L, RD.writes d.row i = L := ⟨_, rfl⟩
        obtain ⟨x, hx⟩ : ∃ x, pickAt picks j = x := ⟨_, rfl⟩
        rw [hL] at KP PD HLK hl1 hLz
        rw [hx] at PK PD
        obtain ⟨kn, hkn⟩ : ∃ kn : Nat, RD.keeps picks j L.length = kn := ⟨_, rfl⟩
        have hkl : kn ≤ L.length := by rw [← hkn]; exact RD.keeps_le _ _ _
        rw [hkn] at KP PD
        have hk8 : All128 (kept s i L kn) := by
          unfold kept
          split
          · exact rz
          · rename_i h0
            refine rz.set i ?_
            rw [List.getD_eq_getElem?_getD, List.getElem?_eq_getElem (by omega)]
            exact hLz.get (by omega)
        have HFN : Hid (startL picks d.row (T.drop (j + 1)) (j + 1) (kept s i L kn) = fin) := Lib.hid (by
          rw [HT.out, List.drop_eq_getElem_cons hjT, hi] at rf
          rw [← rf, startL, hL, hkn])
        have HRB := Lib.hid rb
        have HRT := Lib.hid rT
        have HK8 := Lib.hid hk8
        obtain ⟨lw, hlw⟩ : ∃ lw : Nat, L.length = lw := ⟨_, rfl⟩
        rw [hlw] at HLK hl1 PD
        have i1 : (0 : Int) ≤ (j : Int) := by omega
        have i2 : (j : Int) < (N : Int) := by omega
        clear hlk how ho hrb rs rs' hvi hwi hml hpw hLz rf rb rT Twr T03 hL hx hkn hk8 hkc hi hlw hvk
        go_wp2
        refine wp_region_held_drew (S := fun w' => w'.cell? ⟨p, 2, none⟩ = some (.map (some mb)) ∧ (Instr.lookup 56 (.map (some mb)) (.int .i64 i) false).run Try.prog w' = .ok (.slice Av lw capv) w') (by kernel_rfl) ⟨hc2, hl1⟩ (fun hHeld => ?_)
        refine take_0 (v := ?v0) (by kernel_rfl) (by kernel_rfl) (by kernel_rfl) (fun _ _ _ h => h) (by rfl) ?y0 hHeld ?r0
        case y0 => (intro wS hSw; (try dsimp only at hSw); go_simp; try with_reducible rfl)
        try simp only [Act.put, List.setIfInBounds_toArray, List.set_cons_zero, List.set_cons_succ]
        refine take_1 (v := ?v1) (by kernel_rfl) (by kernel_rfl) (by kernel_rfl) (fun _ _ _ h => h) (by rfl) ?y1 hHeld ?r1
        case y1 => (intro wS hSw; (try dsimp only at hSw); go_simp; try with_reducible rfl)
        try simp only [Act.put, List.setIfInBounds_toArray, List.set_cons_zero, List.set_cons_succ]
        refine take_2 (v := ?v2) (by kernel_rfl) (by kernel_rfl) (by kernel_rfl) (fun _ _ _ h => h) (by rfl) ?y2 hHeld ?r2
        case y2 => (intro wS hSw; (try dsimp only at hSw); go_simp; try with_reducible rfl)
        try simp only [Act.put, List.setIfInBounds_toArray, List.set_cons_zero, List.set_cons_succ]
        refine take_3 (v := ?v3) (by kernel_rfl) (by kernel_rfl) (by kernel_rfl) (fun _ _ _ h => h) (by rfl) ?y3 hHeld ?r3
        case y3 => (intro wS hSw; (try dsimp only at hSw); go_simp; try with_reducible rfl)
        try simp only [Act.put, List.setIfInBounds_toArray, List.set_cons_zero, List.set_cons_succ]
        refine takes_5 (v := ?v5) (by kernel_rfl) (by kernel_rfl) (by kernel_rfl) (fun _ _ _ h => h) (by rfl) ?y5 hHeld ?r5
        case y5 => (intro wS hSw; (try dsimp only at hSw); go_simp; try with_reducible rfl)
        try simp only [Act.put, List.setIfInBounds_toArray, List.set_cons_zero, List.set_cons_succ]
        refine take_6 (v := ?v6) (by kernel_rfl) (by kernel_rfl) (by kernel_rfl) (fun _ _ _ h => h) (by rfl) ?y6 hHeld ?r6
        case y6 => (intro wS hSw; (try dsimp only at hSw); go_simp; try with_reducible rfl)
        try simp only [Act.put, List.setIfInBounds_toArray, List.set_cons_zero, List.set_cons_succ]
        refine take_7 (v := ?v7) (by kernel_rfl) (by kernel_rfl) (by kernel_rfl) (fun _ _ _ h => h) (by rfl) ?y7 hHeld ?r7
        case y7 => (intro wS hSw; (try dsimp only at hSw); go_simp; try with_reducible rfl)
        try simp only [Act.put, List.setIfInBounds_toArray, List.set_cons_zero, List.set_cons_succ]
        refine take_8 (v := ?v8) (by kernel_rfl) (by kernel_rfl) (by kernel_rfl) (fun _ _ _ h => h) (by rfl) ?y8 hHeld ?r8
        case y8 => (intro wS hSw; (try dsimp only at hSw); go_simp; try with_reducible rfl)
        try simp only [Act.put, List.setIfInBounds_toArray, List.set_cons_zero, List.set_cons_succ]
        refine take_9 (v := ?v9) (by kernel_rfl) (by kernel_rfl) (by kernel_rfl) (fun _ _ _ h => h) (by rfl) ?y9 hHeld ?r9
        case y9 => (intro wS hSw; (try dsimp only at hSw); go_simp; try with_reducible rfl)
        try simp only [Act.put, List.setIfInBounds_toArray, List.set_cons_zero, List.set_cons_succ]
        refine take_10 (v := ?v10) (by kernel_rfl) (by kernel_rfl) (by kernel_rfl) (fun _ _ _ h => h) (by rfl) ?y10 hHeld ?r10
        case y10 => (intro wS hSw; (try dsimp only at hSw); go_simp; try with_reducible rfl)
        try simp only [Act.put, List.setIfInBounds_toArray, List.set_cons_zero, List.set_cons_succ]
        refine takes_11 (v := ?v11) (by kernel_rfl) (by kernel_rfl) (by kernel_rfl) (fun _ _ _ h => h) (by rfl) ?y11 hHeld ?r11
        case y11 => (intro wS hSw; (try dsimp only at hSw); go_simp; try with_reducible rfl)
        try simp only [Act.put, List.setIfInBounds_toArray, List.set_cons_zero, List.set_cons_succ]
        refine steps_4 (by kernel_rfl) (fun K hK => ?_)
        go_simp
        refine PK.out.mono ?_
        rintro e _ ⟨rfl, rfl⟩
        go_wp2_with fail
        refine hK.out _ _ ⟨hc2, hl1⟩ (fun hHeld => ?_)
        clear hK K
        try simp only [Act.put, List.setIfInBounds_toArray, List.set_cons_zero, List.set_cons_succ]
        refine steps_12 (by kernel_rfl) (fun K hK => ?_)
        go_simp
        refine PD.out.mono ?_
        rintro e _ ⟨rfl, rfl⟩
        go_wp2_with fail
        refine hK.out _ _ ⟨hc2, hl1⟩ (fun hHeld => ?_)
        clear hK K
        try simp only [Act.put, List.setIfInBounds_toArray, List.set_cons_zero, List.set_cons_succ]
        refine steps_13 (by kernel_rfl) (fun K hK => ?_)
        go_simp
        refine KP.out.mono ?_
        rintro e w5 ⟨rfl, hown5, hgr5⟩
        have T5 : Touch [g] wr w5 := (Tdr.more (by simp)).trans (touch_mb hgr5) (Grows.refl _ _)
        go_wp2_with fail
        refine hK.out _ _ ⟨HC2.out _ T5, HLK.out _ T5⟩ (fun hHeld => ?_)
        clear hK K
        try simp only [Act.put, List.setIfInBounds_toArray, List.set_cons_zero, List.set_cons_succ]
        refine ⟨by kernel_rfl, ?_⟩
        try simp only [Act.put, List.setIfInBounds_toArray, List.set_cons_zero, List.set_cons_succ]
        rw [rl] at hown5
        have HO := Lib.hid hown5
        have HT5 := Lib.hid T5
        clear hown5 hgr5 T5 hHeld
        go_wp2
        go_roundw
        case rel =>
          refine ⟨j + 1, by omega, by go_num, kept s i L kn, HRB.out.touch HT5.out (by simpa using hpg), HO.out, ?_, HK8.out, HRT.out.trans (HT5.out.more (by simp [Value.ownBlock])) (Grows.refl _ _), by rw [HT.out]; exact HFN.out⟩
          unfold kept
          split
          · exact rl
          · rw [List.length_set]; exact rl
        case measure => simp [intOf]; omega
      · obtain rfl : j = N := by omega
        have d0 : decide ((j : Int) < (j : Int)) = false := by simp
        have hfin : s = fin := by
          rw [HT.out, List.drop_eq_nil_of_le (by rw [← HQ2.out]; exact Nat.le_refl _)] at rf
          exact rf
        have T03 : Touch [] w w3 := Touch.ofBelow HB3.out
        have Twr : Touch (Value.slice A d.sector.length cap).ownBlock.toList w wr := (T03.more (by simp)).trans rT (Grows.refl _ _)
        rw [← HCS.out] at rb
        have y2 : wr.cell? ⟨p, 2, none⟩ = some (.map (some mb)) := rb.cell 2
        obtain ⟨w9, hclr, hm9, hgr9⟩ := (HM.out.touch Twr (fun hh => HK1.out.2.2 (by simpa using hh))).clear Try.underlying56
        have TC := touch_mb hgr9
        have rb9 := rb.touch TC (by simp; exact HK1.out.1)
        have y0 : w9.cell? ⟨p, 0, none⟩ = some (.bool (!d.off)) := rb9.cell 0
        have y1 := rb9.free 0
        have y3 := rb9.lt
        have H9 := Lib.hid (And.intro rb9 (And.intro hm9 TC))
        have HRS := Lib.hid rs
        have HTW := Lib.hid Twr
        clear hm9 hgr9 TC rb9 rs Twr T03 rb rT rf
        go_wp2
        go_ret
        obtain ⟨rb9, hm9, TC⟩ := H9.out
        obtain ⟨M1, M2, M3, M4⟩ := HM4.out
        have TP : Touch [p] w9 (w9.setCell ⟨p, 0, none⟩ (.bool true)) := (Touch.refl _ _).setCell (.inl (by simp)) _
        have TF : Touch F w wr := HTW.out.more (fun k hk => M3 k (by simpa using hk))
        have TE : Touch F w (w9.setCell ⟨p, 0, none⟩ (.bool true)) := (TF.trans (TC.more (by intro k hk; rw [List.mem_singleton.1 hk]; exact M2)) (Grows.refl _ _)).trans (TP.more (by intro k hk; rw [List.mem_singleton.1 hk]; exact M1)) (Grows.refl _ _)
        refine ⟨by rw [HD.out.2]; rfl, ?_⟩
        rw [HD.out.1]
        refine ⟨F, ⟨.slice A d.sector.length cap, mb, 0, fun _ => none, rb9.set 0 _, ?_, hm9.touch TP (by simp; exact Ne.symm HK1.out.1), by simp, by simp, fun i h => absurd rfl h, HK1.out, by simp, by simp, ⟨M1, M2, M3, by simp⟩, fun k hk => Nat.lt_of_lt_of_le (HLT.out k hk) TE.size, ?_, by simp⟩, TE, Grows.refl _ _⟩
        · show World.ownsRow _ 0 62 128 _ fin.length (secs fin)
          rw [← hfin, rl]
          refine ownsRow_touch (ownsRow_touch HRS.out TC (fun g hg hh => HK1.out.2.2 (by rw [hg, List.mem_singleton.1 hh]))) TP (fun g hg hh => HK1.out.2.1 (by rw [hg, List.mem_singleton.1 hh]))
        · show All128 fin
          rw [← hfin]
          exact rz
end Go.Proofs.Ytbjiliodelndcaa
