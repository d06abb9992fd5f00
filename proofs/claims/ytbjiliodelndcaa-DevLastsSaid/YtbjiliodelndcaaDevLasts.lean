/-
  P3.4, of any program's device that meets the kit: the statement's function returns true, whatever it is handed. No conditions but those typed.
-/
import Derived.Test.YtbjiliodelndcaaDevAwake
import Derived.Test.YtbjiliodelndcaaActs
import Derived.Test.YtbjiliodelndcaaDevMay
import Derived.Test.YtbjiliodelndcaaSl
import Derived.Deep.QuietTactic
import Derived.BigQuiet
import Derived.Lib.QuietBelow
import Derived.Outline
namespace Go.Proofs.Ytbjiliodelndcaa
open Go.RowKit
theorem touch_drewN (w : World) (n : Nat) : Touch [] w (w.drewN n) := ⟨rfl, rfl, rfl, Nat.le_refl _, fun _ _ _ => rfl⟩
theorem grows_not {F F' : List Nat} {n g : Nat} (h : Grows F F' n) (hg : g ∉ F) (hlt : g < n) : g ∉ F' := fun hm => (h g hm).elim hg (fun h => by omega)
theorem touch_grown {w w' : World} {g : Nat} (h : w.grownBy w' (some g)) : Touch [g] w w' := ⟨h.os, h.tape, h.output, h.size, fun k hk hn => h.block k hk (fun e => hn (by injection e with e; simp [e]))⟩
/-- what holds at a round of the statement's loop: the device is d; the texts M lie in block g -/
def LastsAt (At : World → Nat → RD → List Nat → Prop) (B : Nat) (p : Nat) (i : Int) (j : Nat) (mv : Value) (wr : World) : Prop :=
  ∃ (d : RD) (F : List Nat) (g : Nat) (M : List ByteArray), At wr p d F ∧ (∀ k ∈ F, B ≤ k) ∧ SlAt wr 9 g mv (M.map Value.string) ∧ g ∉ F ∧ B ≤ g ∧ MayOk i d M ∧ RD.Ok j d ∧ d.sector.length = 4 ∧ M.length ≤ j + 1
theorem info9' : (Try.prog.info? 9).map (fun i => (i.zero, i.size, i.bytes)) = some (some (.string ⟨#[]⟩), 1, 16) := by kernel_rfl
set_option maxRecDepth 100000 in
set_option maxHeartbeats 6400000 in
theorem lasts_any (At : World → Nat → RD → List Nat → Prop) (D : DevKit At) (w : World) (v : Value) (xs : List ActM) (hx : ActsAt w w.heap.size v xs) (i : Int) (pv : Value) (picks : List Int) (hp : NumsLow w w.heap.size pv picks) :
    Calls Try.prog 4 #[v, .int .i64 i, pv] w fun e w' => e = .returned (.bool true) ∧ Below w.heap.size w w' := by
  have HX := Lib.hid hx
  have HP := Lib.hid hp
  obtain ⟨A, cap, rfl, hcap, hxl, _⟩ := hx
  obtain ⟨PA, pcap, rfl, _⟩ := hp
  obtain ⟨ti, hi, hz0, hz1, hz2⟩ := info_parts info9'
  have S0 := fun w => Lib.hid (sector_ok 0 w)
  obtain ⟨z, hz⟩ : ∃ z, sectorOf 0 = z := ⟨_, rfl⟩
  have hm0 := may_fresh i (sectorOf 0)
  have hk0 := RD.fresh_ok (sectorOf 0) 4 (by omega)
  have hl0 : (RD.fresh (sectorOf 0) 4).sector.length = 4 := by simp [RD.fresh]
  obtain ⟨d0, hd0⟩ : ∃ d0, RD.fresh (sectorOf 0) 4 = d0 := ⟨_, rfl⟩
  rw [hd0] at hm0 hk0 hl0
  simp only [hz] at S0 hm0
  have HM0 := Lib.hid hm0
  have HK0 := Lib.hid hk0
  have HL0 := Lib.hid hl0
  have NW : ∀ w, Hid (Calls Try.prog 8 #[.int .i64 4] w fun e w' => ∃ p F, e = .returned (.tuple #[.pointer (some ⟨p, 0, none⟩), .int .i64 0]) ∧ At w' p d0 F ∧ (∀ k ∈ F, w.heap.size ≤ k) ∧ Below w.heap.size w w') := fun w => Lib.hid (by rw [← hd0]; exact D.new 4 w (by omega) (by omega))
  clear hm0 hk0 hl0 hd0 hz
  go_enter Try.func4, Try.ntmps4
  go_wp2_with fail
  refine (awake_any At D _).mono ?_
  rintro _ w1 ⟨rfl, hb1⟩
  go_wp2_with fail
  refine (NW _).out.mono ?_
  rintro _ w2 ⟨p, F, rfl, hA, hF, hb2⟩
  go_wp2_with fail
  refine (S0 _).out.mono ?_
  rintro _ w3 ⟨rfl, hb3⟩
  have hA3 := D.touch hA (Touch.ofBelow hb3) (by simp)
  have hA4 := D.touch hA3 (Touch.alloc (Touch.refl [] w3) (.cells #[.string z] 9)) (by simp)
  have B2 := hb1.trans (hb2.mono hb1.size)
  have B3 := B2.trans (hb3.mono B2.size)
  have B4 := B3.alloc B3.size (.cells #[.string z] 9)
  have HST : Hid (LastsAt At w.heap.size p i 0 (.slice (some ⟨w3.heap.size, 0, none⟩) 1 1) (w3.alloc (.cells #[.string z] 9))) := Lib.hid
    ⟨d0, F, w3.heap.size, [z], hA4, fun k hk => Nat.le_trans hb1.size (hF k hk), SlAt.one _ _ _, fun hm => by have := D.lt hA3 _ hm; omega, B3.size, HM0.out, HK0.out, HL0.out, by simp⟩
  clear hA hF hb2 hb3 hA3 hA4 hb1 B2 B3 NW S0
  go_wp2
  go_loopw [9, 10] (fun mv k wr => ∃ j : Nat, j ≤ xs.length ∧ j ≤ 60 ∧ k = .int .i64 j ∧ LastsAt At w.heap.size p i j mv wr ∧ Below w.heap.size w wr) (fun _ k _ => 60 - (intOf k).toNat)
  case atStart => exact ⟨0, by omega, by omega, rfl, HST.out, B4⟩
  case round =>
    obtain ⟨j, hj, hj6, rfl, ⟨d, F, g, M, hA, hF, hS, hgF, hgB, hM, hK, hL, hML⟩, hB⟩ := hrel
    clear HST B4 HM0 HK0 HL0
    have hglt := hS.lt
    obtain ⟨off, mcap, rfl, hmc, hmm⟩ := hS.form
    rw [List.length_map] at hS hmc
    simp only [List.length_map]
    have HM := Lib.hid hM
    have HK := Lib.hid hK
    have HL := Lib.hid hL
    have hMpos : 0 < M.length := List.length_pos_iff.2 hM.1
    clear hM hK hL
    by_cases hlt : j < xs.length ∧ j < 60
    · obtain ⟨hlt, hl6⟩ := hlt
      have t1 : decide (j < xs.length) = true := decide_eq_true hlt
      have t2 : decide ((j : Int) < 60) = true := decide_eq_true (by omega)
      obtain ⟨b, o, qv, rfl, hbl, hcells, hnums, hnx⟩ := (HX.out.below hB).get j hlt
      obtain ⟨x, hxe⟩ : ∃ x, xs[j] = x := ⟨_, rfl⟩
      rw [hxe] at hcells hnums hnx
      have HK' : Hid (RD.Ok (j + 1) (actD textOf x d)) := Lib.hid (act_ok textOf x HK.out hnx)
      have HL' : Hid ((actD textOf x d).sector.length = 4) := Lib.hid (by rw [act_length]; exact HL.out)
      have DD := does_ok At _ D.toCoreKit wr p d F j (by omega) HK.out hA x qv (hnums.at_ hB.size hF)
      have ON := Lib.hid (D.on _ _ _ _ hA)
      have HC : Hid (∀ w2 : World, Below w.heap.size wr w2 → ActCells w2 b (o + j * 6) x qv) := Lib.hid (fun w2 h2 => hcells.below h2 hbl)
      obtain ⟨kind, xi, nn, c, text, xpicks⟩ := x
      unfold actV at DD
      unfold ActCells at hcells HC
      simp only at DD hcells HC
      obtain ⟨E, hE⟩ : ∃ E, actE textOf ⟨kind, xi, nn, c, text, xpicks⟩ d = E := ⟨_, rfl⟩
      obtain ⟨d', hd'⟩ : ∃ d', actD textOf ⟨kind, xi, nn, c, text, xpicks⟩ d = d' := ⟨_, rfl⟩
      rw [hE, hd'] at DD
      rw [hd'] at HK' HL'
      have HDD := Lib.hid DD
      have HE := Lib.hid hE
      have HD' := Lib.hid hd'
      obtain ⟨c0, c1, c2, c3, c4, c5⟩ := hcells
      have i1 : (0 : Int) ≤ (j : Int) := by omega
      have i2 : (j : Int) < (xs.length : Int) := by omega
      clear hnums hnx DD hxe hE hd'
      go_wp2_with fail
      refine ON.out.mono ?_
      rintro _ _ ⟨rfl, rfl⟩
      go_wp2_with fail
      refine HDD.out.mono ?_
      rintro _ w1 ⟨rfl, F1, hA1, hT1, hG1⟩
      have hB1 := hB.trans (hT1.below hB.size hF)
      have hF1 : ∀ k ∈ F1, w.heap.size ≤ k := fun k hk => (hG1 k hk).elim (hF k) (fun h => by have := hB.size; omega)
      have hS1 := hS.touch hT1 hgF
      have hgF1 := grows_not hG1 hgF hglt
      obtain ⟨e0, e1, e2, e3, e4, e5⟩ := HC.out w1 (hT1.below hB.size hF)
      clear c0 c1 c2 c3 c4 c5 hA hT1 hG1 hF hgF hS
      by_cases k1 : kind = 1
      · subst k1
        have HDW : Hid (d' = d.writeD xi (textOf c text) ∧ E = d.writeE xi (textOf c text)) := Lib.hid ⟨by rw [← HD'.out]; rfl, by rw [← HE.out]; rfl⟩
        by_cases ki : xi = i
        · have q1 : (xi == i) = true := by rw [beq_iff_eq]; exact ki
          by_cases kE : E = 0
          · have HMW : Hid (MayOk i d' (M ++ [textOf c text])) := Lib.hid (by
              obtain ⟨h1, h2⟩ := HDW.out
              rw [h1]
              subst ki
              exact may_write HM.out _ (by rw [← h2]; exact kE))
            subst kE
            clear ki
            obtain ⟨T, hT⟩ : ∃ T, textOf c text = T := ⟨_, rfl⟩
            have TX := fun w => text_ok 1 xi nn c text qv w
            rw [hT] at TX HMW
            have HTX := fun w => Lib.hid (TX w)
            clear TX hT
            go_wp2_with fail
            refine (HTX _).out.mono ?_
            rintro _ w2 ⟨rfl, hb2⟩
            have hS2 := hS1.touch (Touch.ofBelow hb2) (by simp)
            have hA2 := D.touch hA1 (Touch.ofBelow hb2) (by simp)
            have hB2 := hB1.trans (hb2.mono hB1.size)
            have hg2 := hS2.lt
            have f0 : w2.cell? ⟨b, o + j * 6, none⟩ = some (.int .i64 1) := (hb2.cell (p := ⟨b, o + j * 6, none⟩) (Nat.lt_of_lt_of_le hbl hB1.size)).trans e0
            have hb8 := Nat.lt_of_lt_of_le hbl hB2.size
            go_wp2_with (at_builtin; refine wpList_append_sl w2 rfl (.tmp 61) (.tmp 67) 37 rfl 9 ti _ 16 Try.underlying37 hi hz0 hz1 hz2 rfl g _ (M.map Value.string) (by rfl) hS2 (.string T) rfl (by rfl) (by rw [List.length_map]; unfold maxLen; omega) (by rw [List.length_map]; omega) ?_; intro v' w3 g' hS3 hgr3 hg3; have f1 : w3.cell? ⟨b, o + j * 6, none⟩ = some (.int .i64 1) := (hgr3.cell_far ⟨b, o + j * 6, none⟩ (by simp; omega) (by simp; omega)).trans ((World.cell?_alloc_past _ _ _ hb8).trans f0))
            have hT3 : Touch [g] w2 w3 := ((Touch.refl _ w2).alloc _).trans (touch_grown hgr3) (by intro k hk; left; exact hk)
            have hA3 := D.touch hA2 hT3 (by intro k hk; simp only [List.mem_singleton] at hk; subst hk; exact hgF1)
            go_wp2
            go_roundw
            case rel =>
              refine ⟨j + 1, by omega, by omega, by go_num, ⟨d', F1, g', M ++ [T], hA3, hF1, by rw [List.map_append]; exact hS3, ?_, ?_, HMW.out, HK'.out, HL'.out, by simp; omega⟩, ?_⟩
              · rcases hg3 with rfl | hg3
                · exact hgF1
                · intro hm
                  have := D.lt hA2 _ hm
                  omega
              · rcases hg3 with rfl | hg3
                · exact hgB
                · have := hB2.size; omega
              · exact hB2.trans (hT3.below hB2.size (by intro k hk; simp only [List.mem_singleton] at hk; omega))
            case measure => simp [intOf]; omega
          · have q2 : (E == 0) = false := by rw [beq_eq_false_iff_ne]; exact kE
            have HMW : Hid (MayOk i d' M) := Lib.hid (by
              obtain ⟨h1, h2⟩ := HDW.out
              rw [h1]
              exact may_write_other HM.out _ (fun h => kE (by rw [h2]; exact h.2)))
            clear kE ki
            go_wp2
            go_roundw
            case rel => exact ⟨j + 1, by omega, by omega, by go_num, ⟨d', F1, g, M, hA1, hF1, by rw [← List.length_map (f := Value.string)] at hS1; simpa using hS1, hgF1, hgB, HMW.out, HK'.out, HL'.out, by omega⟩, hB1⟩
            case measure => simp [intOf]; omega
        · have q1 : (xi == i) = false := by rw [beq_eq_false_iff_ne]; exact ki
          have HMW : Hid (MayOk i d' M) := Lib.hid (by
            obtain ⟨h1, h2⟩ := HDW.out
            rw [h1]
            exact may_write_other HM.out _ (fun h => ki h.1))
          clear ki
          go_wp2
          go_roundw
          case rel => exact ⟨j + 1, by omega, by omega, by go_num, ⟨d', F1, g, M, hA1, hF1, by rw [← List.length_map (f := Value.string)] at hS1; simpa using hS1, hgF1, hgB, HMW.out, HK'.out, HL'.out, by omega⟩, hB1⟩
          case measure => simp [intOf]; omega
      · have p1 : (kind == 1) = false := by rw [beq_eq_false_iff_ne]; exact k1
        by_cases k2 : kind = 2
        · subst k2
          have HDW : Hid (d' = d.syncD ∧ E = d.syncE) := Lib.hid ⟨by rw [← HD'.out]; rfl, by rw [← HE.out]; rfl⟩
          by_cases kE : E = 0
          · have HMW : Hid (MayOk i d' [M.getLast HM.out.1]) := Lib.hid (by
              obtain ⟨h1, h2⟩ := HDW.out
              rw [h1]
              exact may_sync HL.out HM.out (by rw [← h2]; exact kE))
            have HTL := Lib.hid (hS1.tail (M.length - 1) (by rw [List.length_map]; omega))
            have HDR : Hid ((M.map Value.string).drop (M.length - 1) = [M.getLast HM.out.1].map Value.string) := Lib.hid (by
              rw [← List.map_drop, List.drop_eq_getElem_cons (by omega), List.drop_eq_nil_of_le (by omega), List.getLast_eq_getElem])
            subst kE
            clear k1
            have i3 : (1 : Int) ≤ (M.length : Int) := by omega
            have i5 : (0 : Int) ≤ (M.length : Int) - 1 := by omega
            have i6 : ((M.length : Int) - 1).toNat = M.length - 1 := by omega
            have i7 : ¬ mcap = M.length - 1 := by omega
            go_wp2
            go_roundw
            case rel => exact ⟨j + 1, by omega, by omega, by go_num, ⟨d', F1, g, [M.getLast HM.out.1], hA1, hF1, by rw [← HDR.out]; exact HTL.out, hgF1, hgB, HMW.out, HK'.out, HL'.out, by simp⟩, hB1⟩
            case measure => simp [intOf]; omega
          · have q2 : (E == 0) = false := by rw [beq_eq_false_iff_ne]; exact kE
            have HMW : Hid (MayOk i d' M) := Lib.hid (by
              obtain ⟨h1, h2⟩ := HDW.out
              rw [h1]
              exact may_sync_not HM.out (fun h => kE (by rw [h2]; exact h)))
            clear kE k1
            go_wp2
            go_roundw
            case rel => exact ⟨j + 1, by omega, by omega, by go_num, ⟨d', F1, g, M, hA1, hF1, by rw [← List.length_map (f := Value.string)] at hS1; simpa using hS1, hgF1, hgB, HMW.out, HK'.out, HL'.out, by omega⟩, hB1⟩
            case measure => simp [intOf]; omega
        · have p2 : (kind == 2) = false := by rw [beq_eq_false_iff_ne]; exact k2
          by_cases k5 : kind = 5
          · subst k5
            have HDW : Hid (d' = d.startD xpicks ∧ E = d.startE) := Lib.hid ⟨by rw [← HD'.out]; rfl, by rw [← HE.out]; rfl⟩
            by_cases kE : E = 0
            · have hoff : d.off = true := by
                have h2 := HDW.out.2
                rw [kE] at h2
                unfold RD.startE at h2
                cases ho : d.off
                · rw [ho] at h2; simp at h2
                · rfl
              have HMW : Hid (MayOk i d' [d'.lastsS i]) := Lib.hid (by
                obtain ⟨h1, h2⟩ := HDW.out
                rw [h1]
                refine may_start HL.out xpicks (by rw [← h2]; exact kE) RD.lastsS ?_
                intro d hd h0 h4
                unfold RD.lastsS RD.has
                rw [if_pos (by simp; omega)])
              have LL := D.lasts _ _ _ _ i hA1
              obtain ⟨T, hT⟩ : ∃ T, d'.lastsS i = T := ⟨_, rfl⟩
              rw [hT] at LL HMW
              have HLL := Lib.hid LL
              subst kE
              clear k1 k2 LL hT
              rw [hoff]
              clear hoff
              go_wp2_with fail
              refine HLL.out.mono ?_
              rintro _ w5 ⟨rfl, hb5⟩
              have hb5s := hb5.size
              have hB5 := hB1.trans (hb5.mono hB1.size)
              have hA5 := D.touch (D.touch hA1 (Touch.ofBelow hb5) (by simp)) (Touch.alloc (Touch.refl [] w5) (.cells #[.string T] 9)) (by simp)
              have HB5 := Lib.hid (hB5.alloc hB5.size (.cells #[.string T] 9))
              have HS5 := Lib.hid (SlAt.one w5 9 (.string T))
              have HW5 := Lib.hid (And.intro hb5s hB5.size)
              clear hb5 hb5s hB5
              go_wp2
              go_roundw
              case rel => exact ⟨j + 1, by omega, by omega, by go_num, ⟨d', F1, w5.heap.size, [T], hA5, hF1, HS5.out, fun hm => by have := D.lt hA1 _ hm; have := HW5.out.1; omega, HW5.out.2, HMW.out, HK'.out, HL'.out, by simp⟩, HB5.out⟩
              case measure => simp [intOf]; omega
            · have q2 : (E == 0) = false := by rw [beq_eq_false_iff_ne]; exact kE
              have HMW : Hid (MayOk i d' M) := Lib.hid (by
                obtain ⟨h1, h2⟩ := HDW.out
                rw [h1]
                exact may_start_not HM.out _ (fun h => kE (by rw [h2]; exact h)))
              clear kE k1 k2
              go_wp2
              go_roundw
              case rel => exact ⟨j + 1, by omega, by omega, by go_num, ⟨d', F1, g, M, hA1, hF1, by rw [← List.length_map (f := Value.string)] at hS1; simpa using hS1, hgF1, hgB, HMW.out, HK'.out, HL'.out, by omega⟩, hB1⟩
              case measure => simp [intOf]; omega
          · have p5 : (kind == 5) = false := by rw [beq_eq_false_iff_ne]; exact k5
            have HMW : Hid (MayOk i d' M) := Lib.hid (by
              rw [← HD'.out]
              unfold actD
              rw [if_neg k1, if_neg k2]
              simp only
              split
              · exact may_fuse HM.out _
              · split
                · exact may_cut HM.out
                · exact HM.out)
            clear k1 k2 k5
            go_wp2
            go_roundw
            case rel => exact ⟨j + 1, by omega, by omega, by go_num, ⟨d', F1, g, M, hA1, hF1, by rw [← List.length_map (f := Value.string)] at hS1; simpa using hS1, hgF1, hgB, HMW.out, HK'.out, HL'.out, by omega⟩, hB1⟩
            case measure => simp [intOf]; omega
    · have ht : decide (j < xs.length) = false ∨ (decide (j < xs.length) = true ∧ decide ((j : Int) < 60) = false) := by
        by_cases h1 : j < xs.length
        · exact .inr ⟨decide_eq_true h1, decide_eq_false (by omega)⟩
        · exact .inl (decide_eq_false h1)
      clear hlt
      by_cases hi3 : i < 0 ∨ 3 < i
      · have hls : d.lastsS i = ⟨#[]⟩ := by
          unfold RD.lastsS RD.has
          rw [if_neg (by rw [HL.out]; simp; omega)]
        have LL := D.lasts _ _ _ _ i hA
        rw [hls] at LL
        have HLL := Lib.hid LL
        have hti : decide (i < 0) = true ∨ (decide (i < 0) = false ∧ decide (3 < i) = true) := by
          by_cases h1 : i < 0
          · exact .inl (decide_eq_true h1)
          · exact .inr ⟨decide_eq_false h1, decide_eq_true (by omega)⟩
        clear LL hls hi3
        rcases ht with t1 | ⟨t1, t2⟩ <;> rcases hti with u1 | ⟨u1, u2⟩
        all_goals
          go_wp2_with fail
          refine HLL.out.mono ?_
          rintro _ w5 ⟨rfl, hb5⟩
          go_wp2
          go_ret
          exact ⟨rfl, hB.trans (hb5.mono hB.size)⟩
      · have u1 : decide (i < 0) = false := decide_eq_false (by omega)
        have u2 : decide (3 < i) = false := decide_eq_false (by omega)
        have C1 := Lib.hid (D.cut _ _ _ _ hA)
        have hse : d.cutD.startE = 0 := by unfold RD.startE; rw [if_pos (cut_off d)]
        have hwt : (d.cutD.startD picks).waits i = 0 := by
          unfold RD.waits RD.waitsIn RD.startD
          rw [if_pos (cut_off d)]
          split <;> rfl
        have hmem := may_last HM.out (by omega) (by omega) picks
        have hls : (d.cutD.startD picks).lastsS i = (d.cutD.startD picks).sector.getD i.toNat ⟨#[]⟩ := by
          unfold RD.lastsS RD.has
          rw [if_pos (by rw [RD.start_length, RD.cut_length, HL.out]; simp; omega)]
        rw [← hls] at hmem
        obtain ⟨L, hLL⟩ : ∃ L, (d.cutD.startD picks).lastsS i = L := ⟨_, rfl⟩
        rw [hLL] at hmem
        have HMEM := Lib.hid hmem
        have HLL := Lib.hid hLL
        have HWT := Lib.hid hwt
        have HSE := Lib.hid hse
        have KC := Lib.hid (RD.cut_ok HK.out)
        have KS := Lib.hid (RD.start_ok (RD.cut_ok HK.out) picks)
        clear hmem hLL hls hwt hse hi3
        rcases ht with t1 | ⟨t1, t2⟩
        all_goals
          go_wp2_with fail
          refine C1.out.mono ?_
          rintro _ w1 ⟨rfl, F1, hA1, hT1, hG1⟩
          have hB1 := hB.trans (hT1.below hB.size hF)
          have hF1 : ∀ k ∈ F1, w.heap.size ≤ k := fun k hk => (hG1 k hk).elim (hF k) (fun h => by have := hB.size; omega)
          have hS1 := hS.touch hT1 hgF
          have hgF1 := grows_not hG1 hgF hglt
          have hgl1 := hS1.lt
          have ST := D.start _ _ _ _ (j + 1) (by omega) KC.out hA1 _ picks ((HP.out.below hB1).at_ hB1.size hF1)
          rw [HSE.out] at ST
          have HSTT := Lib.hid ST
          clear ST
          go_wp2_with fail
          refine HSTT.out.mono ?_
          rintro _ w2 ⟨rfl, F2, hA2, hT2, hG2⟩
          have hB2 := hB1.trans (hT2.below hB1.size hF1)
          have hS2 := hS1.touch hT2 hgF1
          have WT := D.waits _ _ _ _ (j + 1 + 1) (by omega) KS.out i hA2
          rw [HWT.out] at WT
          have HWTT := Lib.hid WT
          clear WT
          go_wp2_with fail
          refine HWTT.out.mono ?_
          rintro _ _ ⟨rfl, rfl⟩
          have LS : Hid (∀ wx : World, Touch [] w2 wx → ∀ d os, Calls Try.prog 20 #[.pointer (some ⟨p, 0, none⟩), .int .i64 i] (Sort.grow (redrawn wx d) os) fun e w'' => e = .returned (.string L) ∧ ∃ r : Regrown, w'' = Sort.grow (redrawn wx r.d) r.os) := Lib.hid (fun wx hx d os => by
            rw [← HLL.out]
            exact Calls.regrown_of (D.lasts _ _ _ _ i (D.touch (D.touch hA2 hx (by simp)) (Touch.ofBelow (below_regrown wx d os)) (by simp))))
          have HS2 := Lib.hid hS2
          have HBB := Lib.hid hB2
          clear hA1 hT1 hG1 hB1 hF1 hS1 hgF1 hgl1 hA2 hT2 hG2 hB2 hS2
          obtain ⟨wo, rfl⟩ : ∃ wo : World, wo = w2 := ⟨_, rfl⟩
          go_wp2
          go_loopw [13] (fun k wr => ∃ q : Nat, q ≤ M.length ∧ k = .int .i64 q ∧ Touch [] wo wr ∧ Hid (∀ t, t < q → M[t]? ≠ some L)) (fun k _ => M.length - (intOf k).toNat)
          case atStart => exact ⟨0, by omega, rfl, Touch.refl _ _, Lib.hid (fun t ht => by omega)⟩
          case round =>
            obtain ⟨q, hq, rfl, hT, HQ⟩ := hrel
            by_cases hqm : q < M.length
            · have t5 : decide (q < M.length) = true := decide_eq_true hqm
              have hSw := HS2.out.touch hT (by simp)
              have hcell := cell_regrown (hSw.cell q (.string M[q]) (by simp [hqm]))
              obtain ⟨X, hX⟩ : ∃ X, M[q] = X := ⟨_, rfl⟩
              rw [hX] at hcell
              have LSw := Lib.hid (LS.out _ hT)
              have i3 : (0 : Int) ≤ (q : Int) := by omega
              have i4 : (q : Int) < (M.length : Int) := by omega
              have hMq : M[q]? = some X := by rw [← hX]; simp [hqm]
              have HMQ := Lib.hid hMq
              clear hSw hX hMq
              by_cases hXL : L = X
              · subst hXL
                have b1 : (L.toList == L.toList) = true := by simp
                go_wp2
                refine wp_region_quiet_below (by kernel_rfl) (by kernel_rfl) ?_
                repeat (quiet_step (exact LSw.out _ _))
                refine wpQuiet_nil ?_
                intro _ hw'
                obtain ⟨⟨dq, osq⟩, hw''⟩ := hw'
                subst hw''
                go_wp2
                go_ret
                exact ⟨rfl, HBB.out.trans ((hT.trans (Touch.ofBelow (below_regrown _ dq osq)) (Grows.refl _ _)).below HBB.out.size (by simp))⟩
              · have b1 : (L.toList == X.toList) = false := by
                  rw [beq_eq_false_iff_ne]
                  intro e
                  rw [ByteArray.toList_eq, ByteArray.toList_eq] at e
                  exact hXL (ByteArray.ext (Array.ext' e))
                have HNE := Lib.hid hXL
                clear hXL
                go_wp2
                refine wp_region_quiet_below (by kernel_rfl) (by kernel_rfl) ?_
                repeat (quiet_step (exact LSw.out _ _))
                refine wpQuiet_nil ?_
                intro _ hw'
                obtain ⟨⟨dq, osq⟩, hw''⟩ := hw'
                subst hw''
                go_wp2
                go_roundw
                case rel =>
                  refine ⟨q + 1, by omega, by go_num, hT.trans (Touch.ofBelow (below_regrown _ dq osq)) (Grows.refl _ _), Lib.hid (fun t ht => ?_)⟩
                  by_cases htq : t < q
                  · exact HQ.out t htq
                  · obtain rfl : t = q := by omega
                    rw [HMQ.out]
                    intro e
                    injection e with e
                    exact HNE.out e.symm
                case measure => simp [intOf]; omega
            · exfalso
              obtain ⟨t, ht, hte⟩ := List.mem_iff_getElem.1 HMEM.out
              exact HQ.out t (by omega) (by rw [List.getElem?_eq_getElem ht, hte])
end Go.Proofs.Ytbjiliodelndcaa
