/-
  P7.1, P7.2 (plays), of any table that meets the kit: the statement's function returns true, whatever it is handed. No conditions but those typed.
-/
import Derived.Test.YtmfbjdfekgbamaaRdKit
import Derived.Test.YtmfbjdfekgbamaaQStep
import Derived.Deep.QuietTactic
import Derived.BigQuiet
import Derived.Deep.RegionHeld3
import Derived.Deep.CutRange
import Derived.Deep.DeepCutAuto
namespace Go.Proofs.Ytmfbjdfekgbamaa
open Go.RowKit
/-- the program's table l at p and the reference's m at q, apart, above block B -/
def RdTwo (At : World → Nat → List Int → List Nat → Prop) (B p q : Nat) (l m : List Int) (w : World) : Prop :=
  ∃ F G, At w p l F ∧ RRefAt w q m G ∧ (∀ k ∈ F, k ∉ G) ∧ (∀ k ∈ F, B ≤ k) ∧ (∀ k ∈ G, B ≤ k) ∧ Rd.Ok l ∧ Rd.Ok m
section
variable {At : World → Nat → List Int → List Nat → Prop} (D : RdKit At) {B p q : Nat} {l m : List Int} {w : World}
include D
theorem RdTwo.below {w' : World} (h : RdTwo At B p q l m w) (hb : Below w.heap.size w w') : RdTwo At B p q l m w' := by
  obtain ⟨F, G, h1, h2, h3, h4, h5, h6, h7⟩ := h
  exact ⟨F, G, D.touch h1 (Touch.ofBelow hb) (by simp), h2.touch (Touch.ofBelow hb) (by simp), h3, h4, h5, h6, h7⟩
omit D in
theorem RdTwo.call1 (h : RdTwo At B p q l m w) (hB : B ≤ w.heap.size) {f : FuncId} {args : Array Value} {l' : List Int} {e0 : Ending} (hl : Rd.Ok l') (hc : ∀ F, At w p l F → Calls Try.prog f args w (RdDid At w p F l' e0)) : Calls Try.prog f args w fun e w' => e = e0 ∧ RdTwo At B p q l' m w' ∧ Below B w w' := by
  obtain ⟨F, G, h1, h2, h3, h4, h5, h6, h7⟩ := h
  refine (hc F h1).mono ?_
  rintro e w' ⟨rfl, F', hA, hT, hG⟩
  refine ⟨rfl, ⟨F', G, hA, h2.touch hT h3, fun k hk hg => ?_, fun k hk => (hG k hk).elim (h4 k) (fun hx => Nat.le_trans hB hx), h5, hl, h7⟩, hT.below hB h4⟩
  rcases hG k hk with hx | hx
  · exact h3 k hx hg
  · have := h2.lt k hg
    omega
omit D in
theorem RdTwo.call2 (D : RdKit At) (h : RdTwo At B p q l m w) (hB : B ≤ w.heap.size) {f : FuncId} {args : Array Value} {m' : List Int} {e0 : Ending} (hm : Rd.Ok m') (hc : ∀ G, RRefAt w q m G → Calls Try.prog f args w (RdDid RRefAt w q G m' e0)) : Calls Try.prog f args w fun e w' => e = e0 ∧ RdTwo At B p q l m' w' ∧ Below B w w' := by
  obtain ⟨F, G, h1, h2, h3, h4, h5, h6, h7⟩ := h
  refine (hc G h2).mono ?_
  rintro e w' ⟨rfl, G', hA, hT, hG⟩
  refine ⟨rfl, ⟨F, G', D.touch h1 hT (fun k hk hf => h3 k hf hk), hA, fun k hk hg => ?_, h4, fun k hk => (hG k hk).elim (h5 k) (fun hx => Nat.le_trans hB hx), h6, hm⟩, hT.below hB h5⟩
  rcases hG k hg with hx | hx
  · exact h3 k hk hx
  · have := D.lt h1 k hk
    omega
theorem RdTwo.look1 (h : RdTwo At B p q l m w) (hB : B ≤ w.heap.size) {f : FuncId} {args : Array Value} {Q : Ending → World → Prop} (hc : ∀ F, At w p l F → Calls Try.prog f args w fun e w' => Q e w' ∧ Below w.heap.size w w') : Calls Try.prog f args w fun e w' => Q e w' ∧ RdTwo At B p q l m w' ∧ Below B w w' := by
  have h0 := h
  obtain ⟨F, G, h1, _⟩ := h0
  refine (hc F h1).mono ?_
  rintro e w' ⟨hq, hb⟩
  exact ⟨hq, RdTwo.below D h hb, hb.mono hB⟩
omit D in
theorem RdTwo.look2 (h : RdTwo At B p q l m w) {f : FuncId} {args : Array Value} {e0 : Ending} (hc : ∀ G, RRefAt w q m G → Calls Try.prog f args w fun e w' => e = e0 ∧ w = w') : Calls Try.prog f args w fun e w' => e = e0 ∧ w = w' := by
  obtain ⟨F, G, _, h2, _⟩ := h
  exact hc G h2
/-- a new table of the reference's in the other's place -/
theorem RdTwo.anew (h : RdTwo At B p q l m w) (hB : B ≤ w.heap.size) : Calls Try.prog 8 #[] w fun e w' => ∃ q', e = .returned (.pointer (some ⟨q', 0, none⟩)) ∧ RdTwo At B p q' l Rd.none4 w' ∧ Below B w w' := by
  obtain ⟨F, G, h1, h2, h3, h4, h5, h6, h7⟩ := h
  refine (rrnew_ok w).mono ?_
  rintro e w' ⟨q', G', rfl, hA, hG, hb⟩
  refine ⟨q', rfl, ⟨F, G', D.touch h1 (Touch.ofBelow hb) (by simp), hA, fun k hk hg => ?_, h4, fun k hk => Nat.le_trans hB (hG k hk), h6, Rd.none4_ok⟩, hb.mono hB⟩
  have e1 := D.lt h1 k hk
  have e2 := hG k hg
  omega
omit D in
theorem RdTwo.oks (h : RdTwo At B p q l m w) : Rd.Ok l ∧ Rd.Ok m := by
  obtain ⟨_, _, _, _, _, _, _, h6, h7⟩ := h
  exact ⟨h6, h7⟩
end
theorem rd_drewN {B : Nat} {a w : World} (h : Below B a w) (n : Nat) : Below B a (w.drewN n) := ⟨h.os, h.tape, h.output, h.size, h.block⟩
set_option maxRecDepth 100000 in
set_option maxHeartbeats 12800000 in
theorem rdplays_any (At : World → Nat → List Int → List Nat → Prop) (D : RdKit At) (w : World) (v : Value) (xs : List (Int × Int)) (hx : PairsAt w w.heap.size v xs) : Calls Try.prog 3 #[v] w fun e w' => e = .returned (.bool true) ∧ Below w.heap.size w w' := by
  have HX := Lib.hid hx
  obtain ⟨A, capA, rfl, _, _⟩ := hx
  go_enter Try.func3, Try.ntmps3
  go_wp2_with fail
  refine (rawake_ok At D _).mono ?_
  rintro _ w1 ⟨rfl, hb1⟩
  go_wp2_with fail
  refine (D.new w1).mono ?_
  rintro _ w2 ⟨p, F, rfl, hA, hF, hb2⟩
  have hc2 := hb1.trans (hb2.mono hb1.size)
  go_wp2_with fail
  refine (rrnew_ok w2).mono ?_
  rintro _ w3 ⟨q0, G, rfl, hR, hG, hb3⟩
  have HB3 := Lib.hid (hc2.trans (hb3.mono hc2.size))
  have HT3 : Hid (RdTwo At w.heap.size p q0 Rd.none4 Rd.none4 w3) := Lib.hid ⟨F, G, D.touch hA (Touch.ofBelow hb3) (by simp), hR, fun k hk hg => by
    have e1 := D.lt hA k hk
    have e2 := hG k hg
    omega, fun k hk => Nat.le_trans hb1.size (hF k hk), fun k hk => Nat.le_trans hc2.size (hG k hk), Rd.none4_ok, Rd.none4_ok⟩
  clear hA hF hb2 hR hG hb3 hc2 hb1
  go_wp2
  go_loopw [4, 5] (fun rr ii wr => ∃ (i : Nat) (l : List Int) (q : Nat), i ≤ xs.length ∧ rr = .pointer (some ⟨q, 0, none⟩) ∧ ii = .int .i64 i ∧ Hid (RdTwo At w.heap.size p q l l wr) ∧ Below w.heap.size w wr) (fun _ ii _ => xs.length - (intOf ii).toNat)
  case atStart => exact ⟨0, _, q0, by omega, rfl, rfl, HT3, HB3.out⟩
  case round =>
    obtain ⟨i, l, q, hi, rfl, rfl, HH, hBr⟩ := hrel
    have hger := hBr.size
    by_cases hlt : i < xs.length ∧ i < 60
    · obtain ⟨hlt, hl6⟩ := hlt
      have t1 : decide (i < xs.length) = true := decide_eq_true hlt
      have t2 : decide ((i : Int) < 60) = true := decide_eq_true (by omega)
      obtain ⟨bA, offA, hA, hbl, c0, c1⟩ := (HX.out.below hBr).get i hlt
      obtain ⟨kind, hk⟩ : ∃ k, xs[i].1 = k := ⟨_, rfl⟩
      obtain ⟨n, hn⟩ : ∃ k, xs[i].2 = k := ⟨_, rfl⟩
      rw [hk] at c0
      rw [hn] at c1
      have i0 : (0 : Int) ≤ (i : Int) := by omega
      have i1 : (i : Int) < (xs.length : Int) := by omega
      have hbw : bA < wr.heap.size := Nat.lt_of_lt_of_le hbl hger
      have HBr := Lib.hid hBr
      have HOK := Lib.hid (RdTwo.oks HH.out).1
      subst hA
      clear hk hn hBr
      by_cases k1 : kind = 1
      · have d1 : (kind == 1) = true := by rw [beq_iff_eq]; exact k1
        clear k1
        obtain ⟨l', hl'⟩ : ∃ x, Rd.enterL l n = x := ⟨_, rfl⟩
        obtain ⟨I, hI⟩ : ∃ x, Rd.enterI l n = x := ⟨_, rfl⟩
        obtain ⟨E, hE⟩ : ∃ x, Rd.enterE l n = x := ⟨_, rfl⟩
        have hol : Rd.Ok l' := hl' ▸ Rd.enterL_ok HOK.out n
        have C1 : Hid (Calls Try.prog 9 #[.pointer (some ⟨p, 0, none⟩), .int .i64 n] wr fun e w' => e = .returned (.tuple #[.int .i64 I, .int .i64 E]) ∧ RdTwo At w.heap.size p q l' l w' ∧ Below w.heap.size wr w') := Lib.hid (by
          rw [← hI, ← hE, ← hl']
          exact RdTwo.call1 HH.out hger (Rd.enterL_ok HOK.out n) (fun F hF => D.enter _ _ _ F n HOK.out hF))
        have C2 : Hid (∀ w4, w.heap.size ≤ w4.heap.size → RdTwo At w.heap.size p q l' l w4 → Calls Try.prog 10 #[.pointer (some ⟨q, 0, none⟩), .int .i64 n] w4 fun e w' => e = .returned (.tuple #[.int .i64 I, .int .i64 E]) ∧ RdTwo At w.heap.size p q l' l' w' ∧ Below w.heap.size w4 w') := Lib.hid (fun w4 hg h4 => by
          have := RdTwo.call2 D h4 hg (m' := Rd.enterL l n) (Rd.enterL_ok HOK.out n) (fun G hG => rrenter_ok _ _ _ G n HOK.out hG)
          rwa [hI, hE, hl'] at this)
        clear hl' hI hE
        go_wp2_with fail
        refine C1.out.mono ?_
        rintro _ w4 ⟨rfl, hT4, hb4⟩
        have hc4 := HBr.out.trans hb4
        go_wp2_with fail
        refine (C2.out _ hc4.size hT4).mono ?_
        rintro _ w5 ⟨rfl, hT5, hb5⟩
        have HT := Lib.hid hT5
        have HB5 := Lib.hid (hc4.trans hb5)
        have hge := HB5.out.size
        clear hT4 hb4 hc4 hT5 hb5 hol
        go_wp2_with fail
        refine (RdTwo.look1 D HT.out hge (fun F hF => D.oldest _ _ _ F n (RdTwo.oks HT.out).1 hF)).mono ?_
        rintro _ w6 ⟨rfl, hT6, hb6⟩
        have hc6 := HB5.out.trans hb6
        obtain ⟨R, hR⟩ : ∃ R, Rd.oldest l' n = R := ⟨_, rfl⟩
        have OR : Hid (Calls Try.prog 16 #[.pointer (some ⟨q, 0, none⟩), .int .i64 n] w6 fun e w' => e = .returned (.int .i64 R) ∧ w6 = w') := Lib.hid (by rw [← hR]; exact RdTwo.look2 hT6 (fun G hG => rroldest_ok _ _ _ G n (RdTwo.oks hT6).2 hG))
        simp only [hR]
        clear hR
        go_wp2_with fail
        refine OR.out.mono ?_
        rintro _ _ ⟨rfl, rfl⟩
        obtain ⟨rn, hrn⟩ : ∃ x, Rd.readN l' n = x := ⟨_, rfl⟩
        obtain ⟨rb, hrb⟩ : ∃ x, Rd.there l' n = x := ⟨_, rfl⟩
        have R1 : Hid (Calls Try.prog 17 #[.pointer (some ⟨p, 0, none⟩), .int .i64 n] w6 fun e w' => e = .returned (.tuple #[.int .i64 rn, .bool rb]) ∧ RdTwo At w.heap.size p q l' l' w' ∧ Below w.heap.size w6 w') := Lib.hid (by
          rw [← hrn, ← hrb]
          exact RdTwo.look1 D hT6 hc6.size (fun F hF => D.reads _ _ _ F n (RdTwo.oks hT6).1 hF))
        clear hT6
        go_wp2_with fail
        refine R1.out.mono ?_
        rintro _ w7 ⟨rfl, hT7, hb7⟩
        have hc7 := hc6.trans hb7
        have R2 : Hid (Calls Try.prog 18 #[.pointer (some ⟨q, 0, none⟩), .int .i64 n] w7 fun e w' => e = .returned (.tuple #[.int .i64 rn, .bool rb]) ∧ w7 = w') := Lib.hid (by
          rw [← hrn, ← hrb]
          exact RdTwo.look2 hT7 (fun G hG => rrreads_ok _ _ _ G n (RdTwo.oks hT7).2 hG))
        clear hrn hrb
        go_wp2_with fail
        refine R2.out.mono ?_
        rintro _ _ ⟨rfl, rfl⟩
        have HT7 := Lib.hid hT7
        have HL7 := Lib.hid (fun F hF => D.live w7 p l' F (RdTwo.oks hT7).1 hF)
        clear hT7
        go_wp2_with fail
        refine (RdTwo.look1 D HT7.out hc7.size (Q := fun e w' => ∃ V L, e = .returned V ∧ IntsAt w' V L ∧ Rd.Live l' L) (fun F hF => (HL7.out F hF).mono fun _ _ ⟨V, L, h1, h2, h3, h4⟩ => ⟨⟨V, L, h1, h2, h3⟩, h4⟩)).mono ?_
        rintro _ w8 ⟨⟨V, L, rfl, hints, hlive⟩, hT8, hb8⟩
        have HC8 := Lib.hid (hc7.trans hb8)
        have hcount := hlive.length (RdTwo.oks hT8).1
        have CC : Hid (Calls Try.prog 14 #[.pointer (some ⟨q, 0, none⟩)] w8 fun e w' => e = .returned (.int .i64 (L.length : Nat)) ∧ w8 = w') := Lib.hid (by
          rw [hcount]
          exact RdTwo.look2 hT8 (fun G hG => rrcount_ok _ _ _ G (RdTwo.oks hT8).2 hG))
        have TM : Hid (∀ wz, Below w8.heap.size w8 wz → ∀ x : Int, Calls Try.prog 20 #[.pointer (some ⟨q, 0, none⟩), .int .i64 x] wz fun e w' => e = .returned (.int .i64 (l'.count x : Nat)) ∧ wz = w') := Lib.hid (fun wz hz x =>
          RdTwo.look2 (RdTwo.below D hT8 hz) (fun G hG => rrtimes_ok _ _ _ G x (RdTwo.oks hT8).2 hG))
        have HT8 := Lib.hid hT8
        have HI := Lib.hid hints
        have HLV := Lib.hid hlive
        have hL4 : L.length ≤ 4 := by rw [hcount]; unfold Rd.count; omega
        obtain ⟨A2, cap, rfl, _⟩ := hints
        clear hT8 hlive hcount hb6 hb7 hb8 hc6 hc7
        go_wp2_with fail
        refine CC.out.mono ?_
        rintro _ _ ⟨rfl, rfl⟩
        go_wp2
        go_loopw [16] (fun ii wr => ∃ k : Nat, k ≤ L.length ∧ ii = .int .i64 k ∧ Below w8.heap.size w8 wr) (fun ii _ => L.length - (intOf ii).toNat)
        case atStart => exact ⟨0, by omega, rfl, Below.refl _ _⟩
        case round =>
          obtain ⟨k, hk, rfl, hBq⟩ := hrel
          by_cases hkl : k < L.length
          · have t1 : decide (k < L.length) = true := decide_eq_true hkl
            obtain ⟨b, off, hA2, hbl, ck⟩ := (HI.out.below hBq).get k hkl
            obtain ⟨x, hx⟩ : ∃ x, L[k] = x := ⟨_, rfl⟩
            rw [hx] at ck
            have HX := Lib.hid hx
            have HBq := Lib.hid hBq
            have i0 : (0 : Int) ≤ (k : Int) := by omega
            have i1 : (k : Int) < (L.length : Int) := by omega
            subst hA2
            clear hx hBq
            obtain ⟨wo, rfl⟩ : ∃ wo : World, wo = wr := ⟨_, rfl⟩
            go_wp2
            go_loopw [17, 18] (fun mm jj wr => ∃ j c : Nat, j ≤ L.length ∧ c ≤ j ∧ mm = .int .i64 c ∧ jj = .int .i64 j ∧ Hid (c = (L.take j).count x) ∧ Below wo.heap.size wo wr) (fun _ jj _ => L.length - (intOf jj).toNat)
            case atStart => exact ⟨0, 0, by omega, by omega, rfl, rfl, Lib.hid rfl, Below.refl _ _⟩
            case round =>
              obtain ⟨j, c, hj, hcj, rfl, rfl, HCnt, hBj⟩ := hrel
              by_cases hjl : j < L.length
              · have t2 : decide (j < L.length) = true := decide_eq_true hjl
                obtain ⟨b', off', hA3, hbl', cj⟩ := ((HI.out.below HBq.out).below hBj).get j hjl
                obtain ⟨rfl, rfl⟩ : b = b' ∧ off = off' := by
                  injection hA3 with h
                  injection h with h1 h2
                  exact ⟨h1, h2⟩
                have ckr := (hBj.cell (p := ⟨b, off + k, none⟩) hbl).trans ck
                have hs := Rd.count_take_succ L x j hjl
                rw [← HCnt.out] at hs
                obtain ⟨y, hy⟩ : ∃ y, L[j] = y := ⟨_, rfl⟩
                rw [hy] at cj hs
                have j0 : (0 : Int) ≤ (j : Int) := by omega
                have j1 : (j : Int) < (L.length : Int) := by omega
                have HBj := Lib.hid hBj
                by_cases hyx : y = x
                · have d1 : (y == x) = true := by rw [beq_iff_eq]; exact hyx
                  have HS : Hid (c + 1 = (L.take (j + 1)).count x) := Lib.hid (by rw [hs, if_pos hyx])
                  clear hs hy hyx hA3 hBj
                  go_wp2
                  go_quiet (fail)
                  go_wp2
                  go_roundw
                  case rel => exact ⟨j + 1, c + 1, by omega, by omega, by go_num, by go_num, HS, rd_drewN HBj.out _⟩
                  case measure => simp [intOf]; omega
                · have d1 : (y == x) = false := by rw [beq_eq_false_iff_ne]; exact hyx
                  have HS : Hid (c = (L.take (j + 1)).count x) := Lib.hid (by rw [hs, if_neg hyx]; rfl)
                  clear hs hy hyx hA3 hBj
                  go_wp2
                  go_quiet (fail)
                  go_wp2
                  go_roundw
                  case rel => exact ⟨j + 1, c, by omega, by omega, rfl, by go_num, HS, rd_drewN HBj.out _⟩
                  case measure => simp [intOf]; omega
              · obtain rfl : j = L.length := by omega
                have t2 : decide (L.length < L.length) = false := decide_eq_false (by omega)
                obtain ⟨mc, hmc⟩ : ∃ mc, (l'.count x : Nat) = mc := ⟨_, rfl⟩
                have hcm : c = mc := by
                  rw [HCnt.out, List.take_length, ← hmc, ← HX.out]
                  exact HLV.out.count k hkl
                subst hcm
                obtain ⟨wo2, rfl⟩ : ∃ wo2 : World, wo2 = wr := ⟨_, rfl⟩
                have HBo := Lib.hid (HBq.out.trans (hBj.mono HBq.out.size))
                have TC : Hid (∀ wS, Below wo2.heap.size wo2 wS → Calls Try.prog 20 #[.pointer (some ⟨q, 0, none⟩), .int .i64 x] wS fun e w' => e = .returned (.int .i64 (c : Nat)) ∧ Below wo2.heap.size wo2 w') := Lib.hid (fun wS hS => by
                  have := TM.out wS (HBo.out.trans (hS.mono HBo.out.size)) x
                  rw [hmc] at this
                  exact this.mono fun _ _ ⟨h1, h2⟩ => ⟨h1, h2 ▸ hS⟩)
                have E20 : ∀ args w, (callFunc 20 args).run Try.prog w = .ok (.enter 20 args) w := fun args w => by kernel_rfl
                have ckr := (hBj.cell (p := ⟨b, off + k, none⟩) hbl).trans ck
                have hbl2 : b < wo2.heap.size := Nat.lt_of_lt_of_le hbl hBj.size
                by_cases hk0 : 0 < k
                · obtain ⟨j, rfl⟩ : ∃ j, k = j + 1 := ⟨k - 1, by omega⟩
                  have d1 : decide ((0 : Int) < ((j + 1 : Nat) : Int)) = true := decide_eq_true (by omega)
                  have d2 : decide ((0 : Int) < (j : Int) + 1) = true := decide_eq_true (by omega)
                  obtain ⟨b', off', hA3, _, cj⟩ := ((HI.out.below HBq.out).below hBj).get j (by omega)
                  obtain ⟨rfl, rfl⟩ : b = b' ∧ off = off' := by
                    injection hA3 with h
                    injection h with h1 h2
                    exact ⟨h1, h2⟩
                  have hrs := HLV.out.rising j hkl
                  rw [HX.out] at hrs
                  obtain ⟨y, hy⟩ : ∃ y, L[j] = y := ⟨_, rfl⟩
                  rw [hy] at cj hrs
                  have d3 : decide (x < y) = false := decide_eq_false (by omega)
                  have KCX : Hid (∀ wS, Below wo2.heap.size wo2 wS → wS.cell? ⟨b, off + (j + 1), none⟩ = some (.int .i64 x)) := Lib.hid (fun wS hS => (hS.cell (p := ⟨b, off + (j + 1), none⟩) hbl2).trans ckr)
                  have KCY : Hid (∀ wS, Below wo2.heap.size wo2 wS → wS.cell? ⟨b, off + j, none⟩ = some (.int .i64 y)) := Lib.hid (fun wS hS => (hS.cell (p := ⟨b, off + j, none⟩) hbl2).trans cj)
                  have m1 : IntKind.i64.wrap (((j + 1 : Nat) : Int) - 1) = j := by rw [IntWalk.i64_in _ (by omega)]; omega
                  have m2 : IntKind.i64.wrap ((j : Int) + 1 - 1) = j := by rw [IntWalk.i64_in _ (by omega)]; omega
                  have m3 : IntKind.i64.wrap (j : Int) = j := IntWalk.i64_in _ (by omega)
                  have j0 : (0 : Int) ≤ (j : Int) := by omega
                  have j1 : (j : Int) < (L.length : Int) := by omega
                  have j2 : (0 : Int) ≤ (j : Int) + 1 := by omega
                  have j3 : (j : Int) + 1 < (L.length : Int) := by omega
                  clear hmc hy hrs hA3 hBj cj ckr ck hbl hbl2
                  go_upto_region 40 with fail
                  refine region_qh (C := fun w' => Below wo2.heap.size wo2 w') (by kernel_rfl) (by kernel_rfl) ((Below.refl _ wo2).drew) ?_
                  refine qh_op (.int .i64 c) rfl (fun wS hSw => by go_simp; try with_reducible rfl) ?_
                  simp only [Act.put, List.setIfInBounds_toArray, List.set_cons_zero, List.set_cons_succ]
                  refine qh_op (.pointer (some ⟨q, 0, none⟩)) rfl (fun wS hSw => by go_simp; try with_reducible rfl) ?_
                  simp only [Act.put, List.setIfInBounds_toArray, List.set_cons_zero, List.set_cons_succ]
                  refine qh_op (.slice (some ⟨b, off, none⟩) L.length cap) rfl (fun wS hSw => by go_simp; try with_reducible rfl) ?_
                  simp only [Act.put, List.setIfInBounds_toArray, List.set_cons_zero, List.set_cons_succ]
                  refine qh_op (.int .i64 ((j + 1 : Nat) : Int)) rfl (fun wS hSw => by go_simp; try with_reducible rfl) ?_
                  simp only [Act.put, List.setIfInBounds_toArray, List.set_cons_zero, List.set_cons_succ]
                  refine qh_op (.pointer (some ⟨b, off + (j + 1), none⟩)) rfl (fun wS hSw => by go_simp; try with_reducible rfl) ?_
                  simp only [Act.put, List.setIfInBounds_toArray, List.set_cons_zero, List.set_cons_succ]
                  refine qh_op (.int .i64 x) rfl (fun wS hSw => by have kc := KCX.out wS hSw; go_simp; try with_reducible rfl) ?_
                  simp only [Act.put, List.setIfInBounds_toArray, List.set_cons_zero, List.set_cons_succ]
                  refine qh_call2 (.int .i64 c) rfl 20 _ _ _ rfl (.pointer (some ⟨q, 0, none⟩)) (.int .i64 x) (by rfl) (by rfl) E20 (fun wS hSw => TC.out wS hSw) ?_
                  simp only [Act.put, List.setIfInBounds_toArray, List.set_cons_zero, List.set_cons_succ]
                  refine qh_op (.bool false) rfl (fun wS hSw => by go_simp; try with_reducible rfl) ?_
                  simp only [Act.put, List.setIfInBounds_toArray, List.set_cons_zero, List.set_cons_succ]
                  refine qh_op (.bool false) rfl (fun wS hSw => by go_simp; try with_reducible rfl) ?_
                  simp only [Act.put, List.setIfInBounds_toArray, List.set_cons_zero, List.set_cons_succ]
                  refine qh_opw (.int .i64 ((j + 1 : Nat) : Int)) (by rfl) (fun wS hSw => by go_simp; try with_reducible rfl) ?_
                  simp only [Act.put, List.setIfInBounds_toArray, List.set_cons_zero, List.set_cons_succ]
                  refine qh_opw (.bool true) (by rfl) (fun wS hSw => by go_simp; try with_reducible rfl) ?_
                  simp only [Act.put, List.setIfInBounds_toArray, List.set_cons_zero, List.set_cons_succ]
                  refine qh_opw (.bool true) (by rfl) (fun wS hSw => by go_simp; try with_reducible rfl) ?_
                  simp only [Act.put, List.setIfInBounds_toArray, List.set_cons_zero, List.set_cons_succ]
                  refine qh_opw (.slice (some ⟨b, off, none⟩) L.length cap) (by rfl) (fun wS hSw => by go_simp; try with_reducible rfl) ?_
                  simp only [Act.put, List.setIfInBounds_toArray, List.set_cons_zero, List.set_cons_succ]
                  refine qh_opw (.int .i64 ((j + 1 : Nat) : Int)) (by rfl) (fun wS hSw => by go_simp; try with_reducible rfl) ?_
                  simp only [Act.put, List.setIfInBounds_toArray, List.set_cons_zero, List.set_cons_succ]
                  refine qh_opw (.int .i64 (j : Int)) (by rfl) (fun wS hSw => by go_simp; try with_reducible rfl) ?_
                  simp only [Act.put, List.setIfInBounds_toArray, List.set_cons_zero, List.set_cons_succ]
                  refine qh_opw (.pointer (some ⟨b, off + j, none⟩)) (by rfl) (fun wS hSw => by go_simp; try with_reducible rfl) ?_
                  simp only [Act.put, List.setIfInBounds_toArray, List.set_cons_zero, List.set_cons_succ]
                  refine qh_opw (.int .i64 y) (by rfl) (fun wS hSw => by have kj := KCY.out wS hSw; go_simp; try with_reducible rfl) ?_
                  simp only [Act.put, List.setIfInBounds_toArray, List.set_cons_zero, List.set_cons_succ]
                  refine qh_opw (.slice (some ⟨b, off, none⟩) L.length cap) (by rfl) (fun wS hSw => by go_simp; try with_reducible rfl) ?_
                  simp only [Act.put, List.setIfInBounds_toArray, List.set_cons_zero, List.set_cons_succ]
                  refine qh_opw (.int .i64 ((j + 1 : Nat) : Int)) (by rfl) (fun wS hSw => by go_simp; try with_reducible rfl) ?_
                  simp only [Act.put, List.setIfInBounds_toArray, List.set_cons_zero, List.set_cons_succ]
                  refine qh_opw (.pointer (some ⟨b, off + (j + 1), none⟩)) (by rfl) (fun wS hSw => by go_simp; try with_reducible rfl) ?_
                  simp only [Act.put, List.setIfInBounds_toArray, List.set_cons_zero, List.set_cons_succ]
                  refine qh_opw (.int .i64 x) (by rfl) (fun wS hSw => by have kc := KCX.out wS hSw; go_simp; try with_reducible rfl) ?_
                  simp only [Act.put, List.setIfInBounds_toArray, List.set_cons_zero, List.set_cons_succ]
                  refine qh_opw (.bool false) (by rfl) (fun wS hSw => by go_simp; try with_reducible rfl) ?_
                  simp only [Act.put, List.setIfInBounds_toArray, List.set_cons_zero, List.set_cons_succ]
                  refine qh_opw (.bool false) (by rfl) (fun wS hSw => by go_simp; try with_reducible rfl) ?_
                  simp only [Act.put, List.setIfInBounds_toArray, List.set_cons_zero, List.set_cons_succ]
                  refine qh_op (.bool false) rfl (fun wS hSw => by go_simp; try with_reducible rfl) ?_
                  simp only [Act.put, List.setIfInBounds_toArray, List.set_cons_zero, List.set_cons_succ]
                  refine qh_nil ⟨?_⟩
                  intro wE hE
                  go_wp2
                  go_roundw
                  case rel => exact ⟨j + 1 + 1, by omega, by go_num, HBo.out.trans (hE.mono HBo.out.size)⟩
                  case measure => simp [intOf]; omega
                · obtain rfl : k = 0 := by omega
                  rw [Nat.add_zero] at ckr
                  have KCX : Hid (∀ wS, Below wo2.heap.size wo2 wS → wS.cell? ⟨b, off, none⟩ = some (.int .i64 x)) := Lib.hid (fun wS hS => (hS.cell (p := ⟨b, off, none⟩) hbl2).trans ckr)
                  have d1 : decide ((0 : Int) < ((0 : Nat) : Int)) = false := decide_eq_false (by omega)
                  clear hmc hBj ckr ck hbl hbl2
                  go_upto_region 40 with fail
                  refine region_qh (C := fun w' => Below wo2.heap.size wo2 w') (by kernel_rfl) (by kernel_rfl) ((Below.refl _ wo2).drew) ?_
                  refine qh_op (.int .i64 c) rfl (fun wS hSw => by go_simp; try with_reducible rfl) ?_
                  simp only [Act.put, List.setIfInBounds_toArray, List.set_cons_zero, List.set_cons_succ]
                  refine qh_op (.pointer (some ⟨q, 0, none⟩)) rfl (fun wS hSw => by go_simp; try with_reducible rfl) ?_
                  simp only [Act.put, List.setIfInBounds_toArray, List.set_cons_zero, List.set_cons_succ]
                  refine qh_op (.slice (some ⟨b, off, none⟩) L.length cap) rfl (fun wS hSw => by go_simp; try with_reducible rfl) ?_
                  simp only [Act.put, List.setIfInBounds_toArray, List.set_cons_zero, List.set_cons_succ]
                  refine qh_op (.int .i64 (0 : Nat)) rfl (fun wS hSw => by go_simp; try with_reducible rfl) ?_
                  simp only [Act.put, List.setIfInBounds_toArray, List.set_cons_zero, List.set_cons_succ]
                  refine qh_op (.pointer (some ⟨b, off, none⟩)) rfl (fun wS hSw => by go_simp; try with_reducible rfl) ?_
                  simp only [Act.put, List.setIfInBounds_toArray, List.set_cons_zero, List.set_cons_succ]
                  refine qh_op (.int .i64 x) rfl (fun wS hSw => by have kc := KCX.out wS hSw; go_simp; try with_reducible rfl) ?_
                  simp only [Act.put, List.setIfInBounds_toArray, List.set_cons_zero, List.set_cons_succ]
                  refine qh_call2 (.int .i64 c) rfl 20 _ _ _ rfl (.pointer (some ⟨q, 0, none⟩)) (.int .i64 x) (by rfl) (by rfl) E20 (fun wS hSw => TC.out wS hSw) ?_
                  simp only [Act.put, List.setIfInBounds_toArray, List.set_cons_zero, List.set_cons_succ]
                  refine qh_op (.bool false) rfl (fun wS hSw => by go_simp; try with_reducible rfl) ?_
                  simp only [Act.put, List.setIfInBounds_toArray, List.set_cons_zero, List.set_cons_succ]
                  refine qh_op (.bool false) rfl (fun wS hSw => by go_simp; try with_reducible rfl) ?_
                  simp only [Act.put, List.setIfInBounds_toArray, List.set_cons_zero, List.set_cons_succ]
                  refine qh_opw (.int .i64 (0 : Nat)) (by rfl) (fun wS hSw => by go_simp; try with_reducible rfl) ?_
                  simp only [Act.put, List.setIfInBounds_toArray, List.set_cons_zero, List.set_cons_succ]
                  refine qh_opw (.bool false) (by rfl) (fun wS hSw => by go_simp; try with_reducible rfl) ?_
                  simp only [Act.put, List.setIfInBounds_toArray, List.set_cons_zero, List.set_cons_succ]
                  refine qh_opw (.bool false) (by rfl) (fun wS hSw => by go_simp; try with_reducible rfl) ?_
                  simp only [Act.put, List.setIfInBounds_toArray, List.set_cons_zero, List.set_cons_succ]
                  refine qh_skip (by rfl) ?_
                  simp only [Act.put, List.setIfInBounds_toArray, List.set_cons_zero, List.set_cons_succ]
                  refine qh_skip (by rfl) ?_
                  simp only [Act.put, List.setIfInBounds_toArray, List.set_cons_zero, List.set_cons_succ]
                  refine qh_skip (by rfl) ?_
                  simp only [Act.put, List.setIfInBounds_toArray, List.set_cons_zero, List.set_cons_succ]
                  refine qh_skip (by rfl) ?_
                  simp only [Act.put, List.setIfInBounds_toArray, List.set_cons_zero, List.set_cons_succ]
                  refine qh_skip (by rfl) ?_
                  simp only [Act.put, List.setIfInBounds_toArray, List.set_cons_zero, List.set_cons_succ]
                  refine qh_skip (by rfl) ?_
                  simp only [Act.put, List.setIfInBounds_toArray, List.set_cons_zero, List.set_cons_succ]
                  refine qh_skip (by rfl) ?_
                  simp only [Act.put, List.setIfInBounds_toArray, List.set_cons_zero, List.set_cons_succ]
                  refine qh_skip (by rfl) ?_
                  simp only [Act.put, List.setIfInBounds_toArray, List.set_cons_zero, List.set_cons_succ]
                  refine qh_skip (by rfl) ?_
                  simp only [Act.put, List.setIfInBounds_toArray, List.set_cons_zero, List.set_cons_succ]
                  refine qh_skip (by rfl) ?_
                  simp only [Act.put, List.setIfInBounds_toArray, List.set_cons_zero, List.set_cons_succ]
                  refine qh_opw (.bool false) (by rfl) (fun wS hSw => by go_simp; try with_reducible rfl) ?_
                  simp only [Act.put, List.setIfInBounds_toArray, List.set_cons_zero, List.set_cons_succ]
                  refine qh_op (.bool false) rfl (fun wS hSw => by go_simp; try with_reducible rfl) ?_
                  simp only [Act.put, List.setIfInBounds_toArray, List.set_cons_zero, List.set_cons_succ]
                  refine qh_nil ⟨?_⟩
                  intro wE hE
                  go_wp2
                  go_roundw
                  case rel => exact ⟨0 + 1, by omega, by go_num, HBo.out.trans (hE.mono HBo.out.size)⟩
                  case measure => simp [intOf]; omega
          · obtain rfl : k = L.length := by omega
            have t1 : decide (L.length < L.length) = false := decide_eq_false (by omega)
            have HRB := Lib.hid (HC8.out.trans (hBq.mono HC8.out.size))
            have HRT := Lib.hid (RdTwo.below D HT8.out hBq)
            clear hBq
            go_wp2
            go_roundw
            case rel => exact ⟨i + 1, l', q, by omega, rfl, by go_num, HRT, HRB.out⟩
            case measure => simp [intOf]; omega
      · have d1 : (kind == 1) = false := by rw [beq_eq_false_iff_ne]; exact k1
        clear k1
        by_cases k2 : kind = 2
        · have d2 : (kind == 2) = true := by rw [beq_iff_eq]; exact k2
          clear k2
          obtain ⟨l', hl'⟩ : ∃ x, Rd.leaveL l n = x := ⟨_, rfl⟩
          obtain ⟨E, hE⟩ : ∃ x, Rd.leaveE l n = x := ⟨_, rfl⟩
          have C1 : Hid (Calls Try.prog 11 #[.pointer (some ⟨p, 0, none⟩), .int .i64 n] wr fun e w' => e = .returned (.int .i64 E) ∧ RdTwo At w.heap.size p q l' l w' ∧ Below w.heap.size wr w') := Lib.hid (by
            rw [← hE, ← hl']
            exact RdTwo.call1 HH.out hger (Rd.leaveL_ok HOK.out n) (fun F hF => D.leave _ _ _ F n HOK.out hF))
          have C2 : Hid (∀ w4, w.heap.size ≤ w4.heap.size → RdTwo At w.heap.size p q l' l w4 → Calls Try.prog 12 #[.pointer (some ⟨q, 0, none⟩), .int .i64 n] w4 fun e w' => e = .returned (.int .i64 E) ∧ RdTwo At w.heap.size p q l' l' w' ∧ Below w.heap.size w4 w') := Lib.hid (fun w4 hg h4 => by
            have := RdTwo.call2 D h4 hg (m' := Rd.leaveL l n) (Rd.leaveL_ok HOK.out n) (fun G hG => rrleave_ok _ _ _ G n HOK.out hG)
            rwa [hE, hl'] at this)
          clear hl' hE
          go_wp2_with fail
          refine C1.out.mono ?_
          rintro _ w4 ⟨rfl, hT4, hb4⟩
          have hc4 := HBr.out.trans hb4
          go_wp2_with fail
          refine (C2.out _ hc4.size hT4).mono ?_
          rintro _ w5 ⟨rfl, hT5, hb5⟩
          have HT := Lib.hid hT5
          have HB5 := Lib.hid (hc4.trans hb5)
          have hge := HB5.out.size
          clear hT4 hb4 hc4 hT5 hb5
          go_wp2_with fail
          refine (RdTwo.look1 D HT.out hge (fun F hF => D.oldest _ _ _ F n (RdTwo.oks HT.out).1 hF)).mono ?_
          rintro _ w6 ⟨rfl, hT6, hb6⟩
          have hc6 := HB5.out.trans hb6
          obtain ⟨R, hR⟩ : ∃ R, Rd.oldest l' n = R := ⟨_, rfl⟩
          have OR : Hid (Calls Try.prog 16 #[.pointer (some ⟨q, 0, none⟩), .int .i64 n] w6 fun e w' => e = .returned (.int .i64 R) ∧ w6 = w') := Lib.hid (by rw [← hR]; exact RdTwo.look2 hT6 (fun G hG => rroldest_ok _ _ _ G n (RdTwo.oks hT6).2 hG))
          simp only [hR]
          clear hR
          go_wp2_with fail
          refine OR.out.mono ?_
          rintro _ _ ⟨rfl, rfl⟩
          obtain ⟨rn, hrn⟩ : ∃ x, Rd.readN l' n = x := ⟨_, rfl⟩
          obtain ⟨rb, hrb⟩ : ∃ x, Rd.there l' n = x := ⟨_, rfl⟩
          have R1 : Hid (Calls Try.prog 17 #[.pointer (some ⟨p, 0, none⟩), .int .i64 n] w6 fun e w' => e = .returned (.tuple #[.int .i64 rn, .bool rb]) ∧ RdTwo At w.heap.size p q l' l' w' ∧ Below w.heap.size w6 w') := Lib.hid (by
            rw [← hrn, ← hrb]
            exact RdTwo.look1 D hT6 hc6.size (fun F hF => D.reads _ _ _ F n (RdTwo.oks hT6).1 hF))
          clear hT6
          go_wp2_with fail
          refine R1.out.mono ?_
          rintro _ w7 ⟨rfl, hT7, hb7⟩
          have hc7 := hc6.trans hb7
          have R2 : Hid (Calls Try.prog 18 #[.pointer (some ⟨q, 0, none⟩), .int .i64 n] w7 fun e w' => e = .returned (.tuple #[.int .i64 rn, .bool rb]) ∧ w7 = w') := Lib.hid (by
            rw [← hrn, ← hrb]
            exact RdTwo.look2 hT7 (fun G hG => rrreads_ok _ _ _ G n (RdTwo.oks hT7).2 hG))
          clear hrn hrb
          go_wp2_with fail
          refine R2.out.mono ?_
          rintro _ _ ⟨rfl, rfl⟩
          have HT7 := Lib.hid hT7
          have HL7 := Lib.hid (fun F hF => D.live w7 p l' F (RdTwo.oks hT7).1 hF)
          clear hT7
          go_wp2_with fail
          refine (RdTwo.look1 D HT7.out hc7.size (Q := fun e w' => ∃ V L, e = .returned V ∧ IntsAt w' V L ∧ Rd.Live l' L) (fun F hF => (HL7.out F hF).mono fun _ _ ⟨V, L, h1, h2, h3, h4⟩ => ⟨⟨V, L, h1, h2, h3⟩, h4⟩)).mono ?_
          rintro _ w8 ⟨⟨V, L, rfl, hints, hlive⟩, hT8, hb8⟩
          have HC8 := Lib.hid (hc7.trans hb8)
          have hcount := hlive.length (RdTwo.oks hT8).1
          have CC : Hid (Calls Try.prog 14 #[.pointer (some ⟨q, 0, none⟩)] w8 fun e w' => e = .returned (.int .i64 (L.length : Nat)) ∧ w8 = w') := Lib.hid (by
            rw [hcount]
            exact RdTwo.look2 hT8 (fun G hG => rrcount_ok _ _ _ G (RdTwo.oks hT8).2 hG))
          have TM : Hid (∀ wz, Below w8.heap.size w8 wz → ∀ x : Int, Calls Try.prog 20 #[.pointer (some ⟨q, 0, none⟩), .int .i64 x] wz fun e w' => e = .returned (.int .i64 (l'.count x : Nat)) ∧ wz = w') := Lib.hid (fun wz hz x =>
            RdTwo.look2 (RdTwo.below D hT8 hz) (fun G hG => rrtimes_ok _ _ _ G x (RdTwo.oks hT8).2 hG))
          have HT8 := Lib.hid hT8
          have HI := Lib.hid hints
          have HLV := Lib.hid hlive
          have hL4 : L.length ≤ 4 := by rw [hcount]; unfold Rd.count; omega
          obtain ⟨A2, cap, rfl, _⟩ := hints
          clear hT8 hlive hcount hb6 hb7 hb8 hc6 hc7
          go_wp2_with fail
          refine CC.out.mono ?_
          rintro _ _ ⟨rfl, rfl⟩
          go_wp2
          go_loopw [16] (fun ii wr => ∃ k : Nat, k ≤ L.length ∧ ii = .int .i64 k ∧ Below w8.heap.size w8 wr) (fun ii _ => L.length - (intOf ii).toNat)
          case atStart => exact ⟨0, by omega, rfl, Below.refl _ _⟩
          case round =>
            obtain ⟨k, hk, rfl, hBq⟩ := hrel
            by_cases hkl : k < L.length
            · have t1 : decide (k < L.length) = true := decide_eq_true hkl
              obtain ⟨b, off, hA2, hbl, ck⟩ := (HI.out.below hBq).get k hkl
              obtain ⟨x, hx⟩ : ∃ x, L[k] = x := ⟨_, rfl⟩
              rw [hx] at ck
              have HX := Lib.hid hx
              have HBq := Lib.hid hBq
              have i0 : (0 : Int) ≤ (k : Int) := by omega
              have i1 : (k : Int) < (L.length : Int) := by omega
              subst hA2
              clear hx hBq
              obtain ⟨wo, rfl⟩ : ∃ wo : World, wo = wr := ⟨_, rfl⟩
              go_wp2
              go_loopw [17, 18] (fun mm jj wr => ∃ j c : Nat, j ≤ L.length ∧ c ≤ j ∧ mm = .int .i64 c ∧ jj = .int .i64 j ∧ Hid (c = (L.take j).count x) ∧ Below wo.heap.size wo wr) (fun _ jj _ => L.length - (intOf jj).toNat)
              case atStart => exact ⟨0, 0, by omega, by omega, rfl, rfl, Lib.hid rfl, Below.refl _ _⟩
              case round =>
                obtain ⟨j, c, hj, hcj, rfl, rfl, HCnt, hBj⟩ := hrel
                by_cases hjl : j < L.length
                · have t2 : decide (j < L.length) = true := decide_eq_true hjl
                  obtain ⟨b', off', hA3, hbl', cj⟩ := ((HI.out.below HBq.out).below hBj).get j hjl
                  obtain ⟨rfl, rfl⟩ : b = b' ∧ off = off' := by
                    injection hA3 with h
                    injection h with h1 h2
                    exact ⟨h1, h2⟩
                  have ckr := (hBj.cell (p := ⟨b, off + k, none⟩) hbl).trans ck
                  have hs := Rd.count_take_succ L x j hjl
                  rw [← HCnt.out] at hs
                  obtain ⟨y, hy⟩ : ∃ y, L[j] = y := ⟨_, rfl⟩
                  rw [hy] at cj hs
                  have j0 : (0 : Int) ≤ (j : Int) := by omega
                  have j1 : (j : Int) < (L.length : Int) := by omega
                  have HBj := Lib.hid hBj
                  by_cases hyx : y = x
                  · have d1 : (y == x) = true := by rw [beq_iff_eq]; exact hyx
                    have HS : Hid (c + 1 = (L.take (j + 1)).count x) := Lib.hid (by rw [hs, if_pos hyx])
                    clear hs hy hyx hA3 hBj
                    go_wp2
                    go_quiet (fail)
                    go_wp2
                    go_roundw
                    case rel => exact ⟨j + 1, c + 1, by omega, by omega, by go_num, by go_num, HS, rd_drewN HBj.out _⟩
                    case measure => simp [intOf]; omega
                  · have d1 : (y == x) = false := by rw [beq_eq_false_iff_ne]; exact hyx
                    have HS : Hid (c = (L.take (j + 1)).count x) := Lib.hid (by rw [hs, if_neg hyx]; rfl)
                    clear hs hy hyx hA3 hBj
                    go_wp2
                    go_quiet (fail)
                    go_wp2
                    go_roundw
                    case rel => exact ⟨j + 1, c, by omega, by omega, rfl, by go_num, HS, rd_drewN HBj.out _⟩
                    case measure => simp [intOf]; omega
                · obtain rfl : j = L.length := by omega
                  have t2 : decide (L.length < L.length) = false := decide_eq_false (by omega)
                  obtain ⟨mc, hmc⟩ : ∃ mc, (l'.count x : Nat) = mc := ⟨_, rfl⟩
                  have hcm : c = mc := by
                    rw [HCnt.out, List.take_length, ← hmc, ← HX.out]
                    exact HLV.out.count k hkl
                  subst hcm
                  obtain ⟨wo2, rfl⟩ : ∃ wo2 : World, wo2 = wr := ⟨_, rfl⟩
                  have HBo := Lib.hid (HBq.out.trans (hBj.mono HBq.out.size))
                  have TC : Hid (∀ wS, Below wo2.heap.size wo2 wS → Calls Try.prog 20 #[.pointer (some ⟨q, 0, none⟩), .int .i64 x] wS fun e w' => e = .returned (.int .i64 (c : Nat)) ∧ Below wo2.heap.size wo2 w') := Lib.hid (fun wS hS => by
                    have := TM.out wS (HBo.out.trans (hS.mono HBo.out.size)) x
                    rw [hmc] at this
                    exact this.mono fun _ _ ⟨h1, h2⟩ => ⟨h1, h2 ▸ hS⟩)
                  have E20 : ∀ args w, (callFunc 20 args).run Try.prog w = .ok (.enter 20 args) w := fun args w => by kernel_rfl
                  have ckr := (hBj.cell (p := ⟨b, off + k, none⟩) hbl).trans ck
                  have hbl2 : b < wo2.heap.size := Nat.lt_of_lt_of_le hbl hBj.size
                  by_cases hk0 : 0 < k
                  · obtain ⟨j, rfl⟩ : ∃ j, k = j + 1 := ⟨k - 1, by omega⟩
                    have d1 : decide ((0 : Int) < ((j + 1 : Nat) : Int)) = true := decide_eq_true (by omega)
                    have d2 : decide ((0 : Int) < (j : Int) + 1) = true := decide_eq_true (by omega)
                    obtain ⟨b', off', hA3, _, cj⟩ := ((HI.out.below HBq.out).below hBj).get j (by omega)
                    obtain ⟨rfl, rfl⟩ : b = b' ∧ off = off' := by
                      injection hA3 with h
                      injection h with h1 h2
                      exact ⟨h1, h2⟩
                    have hrs := HLV.out.rising j hkl
                    rw [HX.out] at hrs
                    obtain ⟨y, hy⟩ : ∃ y, L[j] = y := ⟨_, rfl⟩
                    rw [hy] at cj hrs
                    have d3 : decide (x < y) = false := decide_eq_false (by omega)
                    have KCX : Hid (∀ wS, Below wo2.heap.size wo2 wS → wS.cell? ⟨b, off + (j + 1), none⟩ = some (.int .i64 x)) := Lib.hid (fun wS hS => (hS.cell (p := ⟨b, off + (j + 1), none⟩) hbl2).trans ckr)
                    have KCY : Hid (∀ wS, Below wo2.heap.size wo2 wS → wS.cell? ⟨b, off + j, none⟩ = some (.int .i64 y)) := Lib.hid (fun wS hS => (hS.cell (p := ⟨b, off + j, none⟩) hbl2).trans cj)
                    have m1 : IntKind.i64.wrap (((j + 1 : Nat) : Int) - 1) = j := by rw [IntWalk.i64_in _ (by omega)]; omega
                    have m2 : IntKind.i64.wrap ((j : Int) + 1 - 1) = j := by rw [IntWalk.i64_in _ (by omega)]; omega
                    have m3 : IntKind.i64.wrap (j : Int) = j := IntWalk.i64_in _ (by omega)
                    have j0 : (0 : Int) ≤ (j : Int) := by omega
                    have j1 : (j : Int) < (L.length : Int) := by omega
                    have j2 : (0 : Int) ≤ (j : Int) + 1 := by omega
                    have j3 : (j : Int) + 1 < (L.length : Int) := by omega
                    clear hmc hy hrs hA3 hBj cj ckr ck hbl hbl2
                    go_upto_region 40 with fail
                    refine region_qh (C := fun w' => Below wo2.heap.size wo2 w') (by kernel_rfl) (by kernel_rfl) ((Below.refl _ wo2).drew) ?_
                    refine qh_op (.int .i64 c) rfl (fun wS hSw => by go_simp; try with_reducible rfl) ?_
                    simp only [Act.put, List.setIfInBounds_toArray, List.set_cons_zero, List.set_cons_succ]
                    refine qh_op (.pointer (some ⟨q, 0, none⟩)) rfl (fun wS hSw => by go_simp; try with_reducible rfl) ?_
                    simp only [Act.put, List.setIfInBounds_toArray, List.set_cons_zero, List.set_cons_succ]
                    refine qh_op (.slice (some ⟨b, off, none⟩) L.length cap) rfl (fun wS hSw => by go_simp; try with_reducible rfl) ?_
                    simp only [Act.put, List.setIfInBounds_toArray, List.set_cons_zero, List.set_cons_succ]
                    refine qh_op (.int .i64 ((j + 1 : Nat) : Int)) rfl (fun wS hSw => by go_simp; try with_reducible rfl) ?_
                    simp only [Act.put, List.setIfInBounds_toArray, List.set_cons_zero, List.set_cons_succ]
                    refine qh_op (.pointer (some ⟨b, off + (j + 1), none⟩)) rfl (fun wS hSw => by go_simp; try with_reducible rfl) ?_
                    simp only [Act.put, List.setIfInBounds_toArray, List.set_cons_zero, List.set_cons_succ]
                    refine qh_op (.int .i64 x) rfl (fun wS hSw => by have kc := KCX.out wS hSw; go_simp; try with_reducible rfl) ?_
                    simp only [Act.put, List.setIfInBounds_toArray, List.set_cons_zero, List.set_cons_succ]
                    refine qh_call2 (.int .i64 c) rfl 20 _ _ _ rfl (.pointer (some ⟨q, 0, none⟩)) (.int .i64 x) (by rfl) (by rfl) E20 (fun wS hSw => TC.out wS hSw) ?_
                    simp only [Act.put, List.setIfInBounds_toArray, List.set_cons_zero, List.set_cons_succ]
                    refine qh_op (.bool false) rfl (fun wS hSw => by go_simp; try with_reducible rfl) ?_
                    simp only [Act.put, List.setIfInBounds_toArray, List.set_cons_zero, List.set_cons_succ]
                    refine qh_op (.bool false) rfl (fun wS hSw => by go_simp; try with_reducible rfl) ?_
                    simp only [Act.put, List.setIfInBounds_toArray, List.set_cons_zero, List.set_cons_succ]
                    refine qh_opw (.int .i64 ((j + 1 : Nat) : Int)) (by rfl) (fun wS hSw => by go_simp; try with_reducible rfl) ?_
                    simp only [Act.put, List.setIfInBounds_toArray, List.set_cons_zero, List.set_cons_succ]
                    refine qh_opw (.bool true) (by rfl) (fun wS hSw => by go_simp; try with_reducible rfl) ?_
                    simp only [Act.put, List.setIfInBounds_toArray, List.set_cons_zero, List.set_cons_succ]
                    refine qh_opw (.bool true) (by rfl) (fun wS hSw => by go_simp; try with_reducible rfl) ?_
                    simp only [Act.put, List.setIfInBounds_toArray, List.set_cons_zero, List.set_cons_succ]
                    refine qh_opw (.slice (some ⟨b, off, none⟩) L.length cap) (by rfl) (fun wS hSw => by go_simp; try with_reducible rfl) ?_
                    simp only [Act.put, List.setIfInBounds_toArray, List.set_cons_zero, List.set_cons_succ]
                    refine qh_opw (.int .i64 ((j + 1 : Nat) : Int)) (by rfl) (fun wS hSw => by go_simp; try with_reducible rfl) ?_
                    simp only [Act.put, List.setIfInBounds_toArray, List.set_cons_zero, List.set_cons_succ]
                    refine qh_opw (.int .i64 (j : Int)) (by rfl) (fun wS hSw => by go_simp; try with_reducible rfl) ?_
                    simp only [Act.put, List.setIfInBounds_toArray, List.set_cons_zero, List.set_cons_succ]
                    refine qh_opw (.pointer (some ⟨b, off + j, none⟩)) (by rfl) (fun wS hSw => by go_simp; try with_reducible rfl) ?_
                    simp only [Act.put, List.setIfInBounds_toArray, List.set_cons_zero, List.set_cons_succ]
                    refine qh_opw (.int .i64 y) (by rfl) (fun wS hSw => by have kj := KCY.out wS hSw; go_simp; try with_reducible rfl) ?_
                    simp only [Act.put, List.setIfInBounds_toArray, List.set_cons_zero, List.set_cons_succ]
                    refine qh_opw (.slice (some ⟨b, off, none⟩) L.length cap) (by rfl) (fun wS hSw => by go_simp; try with_reducible rfl) ?_
                    simp only [Act.put, List.setIfInBounds_toArray, List.set_cons_zero, List.set_cons_succ]
                    refine qh_opw (.int .i64 ((j + 1 : Nat) : Int)) (by rfl) (fun wS hSw => by go_simp; try with_reducible rfl) ?_
                    simp only [Act.put, List.setIfInBounds_toArray, List.set_cons_zero, List.set_cons_succ]
                    refine qh_opw (.pointer (some ⟨b, off + (j + 1), none⟩)) (by rfl) (fun wS hSw => by go_simp; try with_reducible rfl) ?_
                    simp only [Act.put, List.setIfInBounds_toArray, List.set_cons_zero, List.set_cons_succ]
                    refine qh_opw (.int .i64 x) (by rfl) (fun wS hSw => by have kc := KCX.out wS hSw; go_simp; try with_reducible rfl) ?_
                    simp only [Act.put, List.setIfInBounds_toArray, List.set_cons_zero, List.set_cons_succ]
                    refine qh_opw (.bool false) (by rfl) (fun wS hSw => by go_simp; try with_reducible rfl) ?_
                    simp only [Act.put, List.setIfInBounds_toArray, List.set_cons_zero, List.set_cons_succ]
                    refine qh_opw (.bool false) (by rfl) (fun wS hSw => by go_simp; try with_reducible rfl) ?_
                    simp only [Act.put, List.setIfInBounds_toArray, List.set_cons_zero, List.set_cons_succ]
                    refine qh_op (.bool false) rfl (fun wS hSw => by go_simp; try with_reducible rfl) ?_
                    simp only [Act.put, List.setIfInBounds_toArray, List.set_cons_zero, List.set_cons_succ]
                    refine qh_nil ⟨?_⟩
                    intro wE hE
                    go_wp2
                    go_roundw
                    case rel => exact ⟨j + 1 + 1, by omega, by go_num, HBo.out.trans (hE.mono HBo.out.size)⟩
                    case measure => simp [intOf]; omega
                  · obtain rfl : k = 0 := by omega
                    rw [Nat.add_zero] at ckr
                    have KCX : Hid (∀ wS, Below wo2.heap.size wo2 wS → wS.cell? ⟨b, off, none⟩ = some (.int .i64 x)) := Lib.hid (fun wS hS => (hS.cell (p := ⟨b, off, none⟩) hbl2).trans ckr)
                    have d1 : decide ((0 : Int) < ((0 : Nat) : Int)) = false := decide_eq_false (by omega)
                    clear hmc hBj ckr ck hbl hbl2
                    go_upto_region 40 with fail
                    refine region_qh (C := fun w' => Below wo2.heap.size wo2 w') (by kernel_rfl) (by kernel_rfl) ((Below.refl _ wo2).drew) ?_
                    refine qh_op (.int .i64 c) rfl (fun wS hSw => by go_simp; try with_reducible rfl) ?_
                    simp only [Act.put, List.setIfInBounds_toArray, List.set_cons_zero, List.set_cons_succ]
                    refine qh_op (.pointer (some ⟨q, 0, none⟩)) rfl (fun wS hSw => by go_simp; try with_reducible rfl) ?_
                    simp only [Act.put, List.setIfInBounds_toArray, List.set_cons_zero, List.set_cons_succ]
                    refine qh_op (.slice (some ⟨b, off, none⟩) L.length cap) rfl (fun wS hSw => by go_simp; try with_reducible rfl) ?_
                    simp only [Act.put, List.setIfInBounds_toArray, List.set_cons_zero, List.set_cons_succ]
                    refine qh_op (.int .i64 (0 : Nat)) rfl (fun wS hSw => by go_simp; try with_reducible rfl) ?_
                    simp only [Act.put, List.setIfInBounds_toArray, List.set_cons_zero, List.set_cons_succ]
                    refine qh_op (.pointer (some ⟨b, off, none⟩)) rfl (fun wS hSw => by go_simp; try with_reducible rfl) ?_
                    simp only [Act.put, List.setIfInBounds_toArray, List.set_cons_zero, List.set_cons_succ]
                    refine qh_op (.int .i64 x) rfl (fun wS hSw => by have kc := KCX.out wS hSw; go_simp; try with_reducible rfl) ?_
                    simp only [Act.put, List.setIfInBounds_toArray, List.set_cons_zero, List.set_cons_succ]
                    refine qh_call2 (.int .i64 c) rfl 20 _ _ _ rfl (.pointer (some ⟨q, 0, none⟩)) (.int .i64 x) (by rfl) (by rfl) E20 (fun wS hSw => TC.out wS hSw) ?_
                    simp only [Act.put, List.setIfInBounds_toArray, List.set_cons_zero, List.set_cons_succ]
                    refine qh_op (.bool false) rfl (fun wS hSw => by go_simp; try with_reducible rfl) ?_
                    simp only [Act.put, List.setIfInBounds_toArray, List.set_cons_zero, List.set_cons_succ]
                    refine qh_op (.bool false) rfl (fun wS hSw => by go_simp; try with_reducible rfl) ?_
                    simp only [Act.put, List.setIfInBounds_toArray, List.set_cons_zero, List.set_cons_succ]
                    refine qh_opw (.int .i64 (0 : Nat)) (by rfl) (fun wS hSw => by go_simp; try with_reducible rfl) ?_
                    simp only [Act.put, List.setIfInBounds_toArray, List.set_cons_zero, List.set_cons_succ]
                    refine qh_opw (.bool false) (by rfl) (fun wS hSw => by go_simp; try with_reducible rfl) ?_
                    simp only [Act.put, List.setIfInBounds_toArray, List.set_cons_zero, List.set_cons_succ]
                    refine qh_opw (.bool false) (by rfl) (fun wS hSw => by go_simp; try with_reducible rfl) ?_
                    simp only [Act.put, List.setIfInBounds_toArray, List.set_cons_zero, List.set_cons_succ]
                    refine qh_skip (by rfl) ?_
                    simp only [Act.put, List.setIfInBounds_toArray, List.set_cons_zero, List.set_cons_succ]
                    refine qh_skip (by rfl) ?_
                    simp only [Act.put, List.setIfInBounds_toArray, List.set_cons_zero, List.set_cons_succ]
                    refine qh_skip (by rfl) ?_
                    simp only [Act.put, List.setIfInBounds_toArray, List.set_cons_zero, List.set_cons_succ]
                    refine qh_skip (by rfl) ?_
                    simp only [Act.put, List.setIfInBounds_toArray, List.set_cons_zero, List.set_cons_succ]
                    refine qh_skip (by rfl) ?_
                    simp only [Act.put, List.setIfInBounds_toArray, List.set_cons_zero, List.set_cons_succ]
                    refine qh_skip (by rfl) ?_
                    simp only [Act.put, List.setIfInBounds_toArray, List.set_cons_zero, List.set_cons_succ]
                    refine qh_skip (by rfl) ?_
                    simp only [Act.put, List.setIfInBounds_toArray, List.set_cons_zero, List.set_cons_succ]
                    refine qh_skip (by rfl) ?_
                    simp only [Act.put, List.setIfInBounds_toArray, List.set_cons_zero, List.set_cons_succ]
                    refine qh_skip (by rfl) ?_
                    simp only [Act.put, List.setIfInBounds_toArray, List.set_cons_zero, List.set_cons_succ]
                    refine qh_skip (by rfl) ?_
                    simp only [Act.put, List.setIfInBounds_toArray, List.set_cons_zero, List.set_cons_succ]
                    refine qh_opw (.bool false) (by rfl) (fun wS hSw => by go_simp; try with_reducible rfl) ?_
                    simp only [Act.put, List.setIfInBounds_toArray, List.set_cons_zero, List.set_cons_succ]
                    refine qh_op (.bool false) rfl (fun wS hSw => by go_simp; try with_reducible rfl) ?_
                    simp only [Act.put, List.setIfInBounds_toArray, List.set_cons_zero, List.set_cons_succ]
                    refine qh_nil ⟨?_⟩
                    intro wE hE
                    go_wp2
                    go_roundw
                    case rel => exact ⟨0 + 1, by omega, by go_num, HBo.out.trans (hE.mono HBo.out.size)⟩
                    case measure => simp [intOf]; omega
            · obtain rfl : k = L.length := by omega
              have t1 : decide (L.length < L.length) = false := decide_eq_false (by omega)
              have HRB := Lib.hid (HC8.out.trans (hBq.mono HC8.out.size))
              have HRT := Lib.hid (RdTwo.below D HT8.out hBq)
              clear hBq
              go_wp2
              go_roundw
              case rel => exact ⟨i + 1, l', q, by omega, rfl, by go_num, HRT, HRB.out⟩
              case measure => simp [intOf]; omega
        · have d2 : (kind == 2) = false := by rw [beq_eq_false_iff_ne]; exact k2
          clear k2
          by_cases k3 : kind = 3
          · have d3 : (kind == 3) = true := by rw [beq_iff_eq]; exact k3
            clear k3
            obtain ⟨l', hl'⟩ : ∃ x, Rd.none4 = x := ⟨_, rfl⟩
            obtain ⟨E, hE⟩ : ∃ x, Rd.count l = x := ⟨_, rfl⟩
            have C1 : Hid (Calls Try.prog 13 #[.pointer (some ⟨p, 0, none⟩)] wr fun e w' => e = .returned (.int .i64 (E : Nat)) ∧ RdTwo At w.heap.size p q l' l w' ∧ Below w.heap.size wr w') := Lib.hid (by
              rw [← hE, ← hl']
              exact RdTwo.call1 HH.out hger Rd.none4_ok (fun F hF => D.clear _ _ _ F HOK.out hF))
            have C2 : Hid (∀ w4, RdTwo At w.heap.size p q l' l w4 → Calls Try.prog 14 #[.pointer (some ⟨q, 0, none⟩)] w4 fun e w' => e = .returned (.int .i64 (E : Nat)) ∧ w4 = w') := Lib.hid (fun w4 h4 => by
              rw [← hE]
              exact RdTwo.look2 h4 (fun G hG => rrcount_ok _ _ _ G HOK.out hG))
            have C3 : Hid (∀ w4, w.heap.size ≤ w4.heap.size → RdTwo At w.heap.size p q l' l w4 → Calls Try.prog 8 #[] w4 fun e w' => ∃ q', e = .returned (.pointer (some ⟨q', 0, none⟩)) ∧ RdTwo At w.heap.size p q' l' l' w' ∧ Below w.heap.size w4 w') := Lib.hid (fun w4 hg h4 => by
              have := RdTwo.anew D h4 hg
              rwa [hl'] at this)
            clear hl' hE
            go_wp2_with fail
            refine C1.out.mono ?_
            rintro _ w4 ⟨rfl, hT4, hb4⟩
            have hc4 := HBr.out.trans hb4
            go_wp2_with fail
            refine (C2.out _ hT4).mono ?_
            rintro _ _ ⟨rfl, rfl⟩
            go_wp2_with fail
            refine (C3.out _ hc4.size hT4).mono ?_
            rintro _ w5 ⟨q', rfl, hT5, hb5⟩
            have HT := Lib.hid hT5
            have HB5 := Lib.hid (hc4.trans hb5)
            have hge := HB5.out.size
            clear hT4 hb4 hc4 hT5 hb5
            go_wp2_with fail
            refine (RdTwo.look1 D HT.out hge (fun F hF => D.oldest _ _ _ F n (RdTwo.oks HT.out).1 hF)).mono ?_
            rintro _ w6 ⟨rfl, hT6, hb6⟩
            have hc6 := HB5.out.trans hb6
            obtain ⟨R, hR⟩ : ∃ R, Rd.oldest l' n = R := ⟨_, rfl⟩
            have OR : Hid (Calls Try.prog 16 #[.pointer (some ⟨q', 0, none⟩), .int .i64 n] w6 fun e w' => e = .returned (.int .i64 R) ∧ w6 = w') := Lib.hid (by rw [← hR]; exact RdTwo.look2 hT6 (fun G hG => rroldest_ok _ _ _ G n (RdTwo.oks hT6).2 hG))
            simp only [hR]
            clear hR
            go_wp2_with fail
            refine OR.out.mono ?_
            rintro _ _ ⟨rfl, rfl⟩
            obtain ⟨rn, hrn⟩ : ∃ x, Rd.readN l' n = x := ⟨_, rfl⟩
            obtain ⟨rb, hrb⟩ : ∃ x, Rd.there l' n = x := ⟨_, rfl⟩
            have R1 : Hid (Calls Try.prog 17 #[.pointer (some ⟨p, 0, none⟩), .int .i64 n] w6 fun e w' => e = .returned (.tuple #[.int .i64 rn, .bool rb]) ∧ RdTwo At w.heap.size p q' l' l' w' ∧ Below w.heap.size w6 w') := Lib.hid (by
              rw [← hrn, ← hrb]
              exact RdTwo.look1 D hT6 hc6.size (fun F hF => D.reads _ _ _ F n (RdTwo.oks hT6).1 hF))
            clear hT6
            go_wp2_with fail
            refine R1.out.mono ?_
            rintro _ w7 ⟨rfl, hT7, hb7⟩
            have hc7 := hc6.trans hb7
            have R2 : Hid (Calls Try.prog 18 #[.pointer (some ⟨q', 0, none⟩), .int .i64 n] w7 fun e w' => e = .returned (.tuple #[.int .i64 rn, .bool rb]) ∧ w7 = w') := Lib.hid (by
              rw [← hrn, ← hrb]
              exact RdTwo.look2 hT7 (fun G hG => rrreads_ok _ _ _ G n (RdTwo.oks hT7).2 hG))
            clear hrn hrb
            go_wp2_with fail
            refine R2.out.mono ?_
            rintro _ _ ⟨rfl, rfl⟩
            have HT7 := Lib.hid hT7
            have HL7 := Lib.hid (fun F hF => D.live w7 p l' F (RdTwo.oks hT7).1 hF)
            clear hT7
            go_wp2_with fail
            refine (RdTwo.look1 D HT7.out hc7.size (Q := fun e w' => ∃ V L, e = .returned V ∧ IntsAt w' V L ∧ Rd.Live l' L) (fun F hF => (HL7.out F hF).mono fun _ _ ⟨V, L, h1, h2, h3, h4⟩ => ⟨⟨V, L, h1, h2, h3⟩, h4⟩)).mono ?_
            rintro _ w8 ⟨⟨V, L, rfl, hints, hlive⟩, hT8, hb8⟩
            have HC8 := Lib.hid (hc7.trans hb8)
            have hcount := hlive.length (RdTwo.oks hT8).1
            have CC : Hid (Calls Try.prog 14 #[.pointer (some ⟨q', 0, none⟩)] w8 fun e w' => e = .returned (.int .i64 (L.length : Nat)) ∧ w8 = w') := Lib.hid (by
              rw [hcount]
              exact RdTwo.look2 hT8 (fun G hG => rrcount_ok _ _ _ G (RdTwo.oks hT8).2 hG))
            have TM : Hid (∀ wz, Below w8.heap.size w8 wz → ∀ x : Int, Calls Try.prog 20 #[.pointer (some ⟨q', 0, none⟩), .int .i64 x] wz fun e w' => e = .returned (.int .i64 (l'.count x : Nat)) ∧ wz = w') := Lib.hid (fun wz hz x =>
              RdTwo.look2 (RdTwo.below D hT8 hz) (fun G hG => rrtimes_ok _ _ _ G x (RdTwo.oks hT8).2 hG))
            have HT8 := Lib.hid hT8
            have HI := Lib.hid hints
            have HLV := Lib.hid hlive
            have hL4 : L.length ≤ 4 := by rw [hcount]; unfold Rd.count; omega
            obtain ⟨A2, cap, rfl, _⟩ := hints
            clear hT8 hlive hcount hb6 hb7 hb8 hc6 hc7
            go_wp2_with fail
            refine CC.out.mono ?_
            rintro _ _ ⟨rfl, rfl⟩
            go_wp2
            go_loopw [16] (fun ii wr => ∃ k : Nat, k ≤ L.length ∧ ii = .int .i64 k ∧ Below w8.heap.size w8 wr) (fun ii _ => L.length - (intOf ii).toNat)
            case atStart => exact ⟨0, by omega, rfl, Below.refl _ _⟩
            case round =>
              obtain ⟨k, hk, rfl, hBq⟩ := hrel
              by_cases hkl : k < L.length
              · have t1 : decide (k < L.length) = true := decide_eq_true hkl
                obtain ⟨b, off, hA2, hbl, ck⟩ := (HI.out.below hBq).get k hkl
                obtain ⟨x, hx⟩ : ∃ x, L[k] = x := ⟨_, rfl⟩
                rw [hx] at ck
                have HX := Lib.hid hx
                have HBq := Lib.hid hBq
                have i0 : (0 : Int) ≤ (k : Int) := by omega
                have i1 : (k : Int) < (L.length : Int) := by omega
                subst hA2
                clear hx hBq
                obtain ⟨wo, rfl⟩ : ∃ wo : World, wo = wr := ⟨_, rfl⟩
                go_wp2
                go_loopw [17, 18] (fun mm jj wr => ∃ j c : Nat, j ≤ L.length ∧ c ≤ j ∧ mm = .int .i64 c ∧ jj = .int .i64 j ∧ Hid (c = (L.take j).count x) ∧ Below wo.heap.size wo wr) (fun _ jj _ => L.length - (intOf jj).toNat)
                case atStart => exact ⟨0, 0, by omega, by omega, rfl, rfl, Lib.hid rfl, Below.refl _ _⟩
                case round =>
                  obtain ⟨j, c, hj, hcj, rfl, rfl, HCnt, hBj⟩ := hrel
                  by_cases hjl : j < L.length
                  · have t2 : decide (j < L.length) = true := decide_eq_true hjl
                    obtain ⟨b', off', hA3, hbl', cj⟩ := ((HI.out.below HBq.out).below hBj).get j hjl
                    obtain ⟨rfl, rfl⟩ : b = b' ∧ off = off' := by
                      injection hA3 with h
                      injection h with h1 h2
                      exact ⟨h1, h2⟩
                    have ckr := (hBj.cell (p := ⟨b, off + k, none⟩) hbl).trans ck
                    have hs := Rd.count_take_succ L x j hjl
                    rw [← HCnt.out] at hs
                    obtain ⟨y, hy⟩ : ∃ y, L[j] = y := ⟨_, rfl⟩
                    rw [hy] at cj hs
                    have j0 : (0 : Int) ≤ (j : Int) := by omega
                    have j1 : (j : Int) < (L.length : Int) := by omega
                    have HBj := Lib.hid hBj
                    by_cases hyx : y = x
                    · have d1 : (y == x) = true := by rw [beq_iff_eq]; exact hyx
                      have HS : Hid (c + 1 = (L.take (j + 1)).count x) := Lib.hid (by rw [hs, if_pos hyx])
                      clear hs hy hyx hA3 hBj
                      go_wp2
                      go_quiet (fail)
                      go_wp2
                      go_roundw
                      case rel => exact ⟨j + 1, c + 1, by omega, by omega, by go_num, by go_num, HS, rd_drewN HBj.out _⟩
                      case measure => simp [intOf]; omega
                    · have d1 : (y == x) = false := by rw [beq_eq_false_iff_ne]; exact hyx
                      have HS : Hid (c = (L.take (j + 1)).count x) := Lib.hid (by rw [hs, if_neg hyx]; rfl)
                      clear hs hy hyx hA3 hBj
                      go_wp2
                      go_quiet (fail)
                      go_wp2
                      go_roundw
                      case rel => exact ⟨j + 1, c, by omega, by omega, rfl, by go_num, HS, rd_drewN HBj.out _⟩
                      case measure => simp [intOf]; omega
                  · obtain rfl : j = L.length := by omega
                    have t2 : decide (L.length < L.length) = false := decide_eq_false (by omega)
                    obtain ⟨mc, hmc⟩ : ∃ mc, (l'.count x : Nat) = mc := ⟨_, rfl⟩
                    have hcm : c = mc := by
                      rw [HCnt.out, List.take_length, ← hmc, ← HX.out]
                      exact HLV.out.count k hkl
                    subst hcm
                    obtain ⟨wo2, rfl⟩ : ∃ wo2 : World, wo2 = wr := ⟨_, rfl⟩
                    have HBo := Lib.hid (HBq.out.trans (hBj.mono HBq.out.size))
                    have TC : Hid (∀ wS, Below wo2.heap.size wo2 wS → Calls Try.prog 20 #[.pointer (some ⟨q', 0, none⟩), .int .i64 x] wS fun e w' => e = .returned (.int .i64 (c : Nat)) ∧ Below wo2.heap.size wo2 w') := Lib.hid (fun wS hS => by
                      have := TM.out wS (HBo.out.trans (hS.mono HBo.out.size)) x
                      rw [hmc] at this
                      exact this.mono fun _ _ ⟨h1, h2⟩ => ⟨h1, h2 ▸ hS⟩)
                    have E20 : ∀ args w, (callFunc 20 args).run Try.prog w = .ok (.enter 20 args) w := fun args w => by kernel_rfl
                    have ckr := (hBj.cell (p := ⟨b, off + k, none⟩) hbl).trans ck
                    have hbl2 : b < wo2.heap.size := Nat.lt_of_lt_of_le hbl hBj.size
                    by_cases hk0 : 0 < k
                    · obtain ⟨j, rfl⟩ : ∃ j, k = j + 1 := ⟨k - 1, by omega⟩
                      have d1 : decide ((0 : Int) < ((j + 1 : Nat) : Int)) = true := decide_eq_true (by omega)
                      have d2 : decide ((0 : Int) < (j : Int) + 1) = true := decide_eq_true (by omega)
                      obtain ⟨b', off', hA3, _, cj⟩ := ((HI.out.below HBq.out).below hBj).get j (by omega)
                      obtain ⟨rfl, rfl⟩ : b = b' ∧ off = off' := by
                        injection hA3 with h
                        injection h with h1 h2
                        exact ⟨h1, h2⟩
                      have hrs := HLV.out.rising j hkl
                      rw [HX.out] at hrs
                      obtain ⟨y, hy⟩ : ∃ y, L[j] = y := ⟨_, rfl⟩
                      rw [hy] at cj hrs
                      have d3 : decide (x < y) = false := decide_eq_false (by omega)
                      have KCX : Hid (∀ wS, Below wo2.heap.size wo2 wS → wS.cell? ⟨b, off + (j + 1), none⟩ = some (.int .i64 x)) := Lib.hid (fun wS hS => (hS.cell (p := ⟨b, off + (j + 1), none⟩) hbl2).trans ckr)
                      have KCY : Hid (∀ wS, Below wo2.heap.size wo2 wS → wS.cell? ⟨b, off + j, none⟩ = some (.int .i64 y)) := Lib.hid (fun wS hS => (hS.cell (p := ⟨b, off + j, none⟩) hbl2).trans cj)
                      have m1 : IntKind.i64.wrap (((j + 1 : Nat) : Int) - 1) = j := by rw [IntWalk.i64_in _ (by omega)]; omega
                      have m2 : IntKind.i64.wrap ((j : Int) + 1 - 1) = j := by rw [IntWalk.i64_in _ (by omega)]; omega
                      have m3 : IntKind.i64.wrap (j : Int) = j := IntWalk.i64_in _ (by omega)
                      have j0 : (0 : Int) ≤ (j : Int) := by omega
                      have j1 : (j : Int) < (L.length : Int) := by omega
                      have j2 : (0 : Int) ≤ (j : Int) + 1 := by omega
                      have j3 : (j : Int) + 1 < (L.length : Int) := by omega
                      clear hmc hy hrs hA3 hBj cj ckr ck hbl hbl2
                      go_upto_region 40 with fail
                      refine region_qh (C := fun w' => Below wo2.heap.size wo2 w') (by kernel_rfl) (by kernel_rfl) ((Below.refl _ wo2).drew) ?_
                      refine qh_op (.int .i64 c) rfl (fun wS hSw => by go_simp; try with_reducible rfl) ?_
                      simp only [Act.put, List.setIfInBounds_toArray, List.set_cons_zero, List.set_cons_succ]
                      refine qh_op (.pointer (some ⟨q', 0, none⟩)) rfl (fun wS hSw => by go_simp; try with_reducible rfl) ?_
                      simp only [Act.put, List.setIfInBounds_toArray, List.set_cons_zero, List.set_cons_succ]
                      refine qh_op (.slice (some ⟨b, off, none⟩) L.length cap) rfl (fun wS hSw => by go_simp; try with_reducible rfl) ?_
                      simp only [Act.put, List.setIfInBounds_toArray, List.set_cons_zero, List.set_cons_succ]
                      refine qh_op (.int .i64 ((j + 1 : Nat) : Int)) rfl (fun wS hSw => by go_simp; try with_reducible rfl) ?_
                      simp only [Act.put, List.setIfInBounds_toArray, List.set_cons_zero, List.set_cons_succ]
                      refine qh_op (.pointer (some ⟨b, off + (j + 1), none⟩)) rfl (fun wS hSw => by go_simp; try with_reducible rfl) ?_
                      simp only [Act.put, List.setIfInBounds_toArray, List.set_cons_zero, List.set_cons_succ]
                      refine qh_op (.int .i64 x) rfl (fun wS hSw => by have kc := KCX.out wS hSw; go_simp; try with_reducible rfl) ?_
                      simp only [Act.put, List.setIfInBounds_toArray, List.set_cons_zero, List.set_cons_succ]
                      refine qh_call2 (.int .i64 c) rfl 20 _ _ _ rfl (.pointer (some ⟨q', 0, none⟩)) (.int .i64 x) (by rfl) (by rfl) E20 (fun wS hSw => TC.out wS hSw) ?_
                      simp only [Act.put, List.setIfInBounds_toArray, List.set_cons_zero, List.set_cons_succ]
                      refine qh_op (.bool false) rfl (fun wS hSw => by go_simp; try with_reducible rfl) ?_
                      simp only [Act.put, List.setIfInBounds_toArray, List.set_cons_zero, List.set_cons_succ]
                      refine qh_op (.bool false) rfl (fun wS hSw => by go_simp; try with_reducible rfl) ?_
                      simp only [Act.put, List.setIfInBounds_toArray, List.set_cons_zero, List.set_cons_succ]
                      refine qh_opw (.int .i64 ((j + 1 : Nat) : Int)) (by rfl) (fun wS hSw => by go_simp; try with_reducible rfl) ?_
                      simp only [Act.put, List.setIfInBounds_toArray, List.set_cons_zero, List.set_cons_succ]
                      refine qh_opw (.bool true) (by rfl) (fun wS hSw => by go_simp; try with_reducible rfl) ?_
                      simp only [Act.put, List.setIfInBounds_toArray, List.set_cons_zero, List.set_cons_succ]
                      refine qh_opw (.bool true) (by rfl) (fun wS hSw => by go_simp; try with_reducible rfl) ?_
                      simp only [Act.put, List.setIfInBounds_toArray, List.set_cons_zero, List.set_cons_succ]
                      refine qh_opw (.slice (some ⟨b, off, none⟩) L.length cap) (by rfl) (fun wS hSw => by go_simp; try with_reducible rfl) ?_
                      simp only [Act.put, List.setIfInBounds_toArray, List.set_cons_zero, List.set_cons_succ]
                      refine qh_opw (.int .i64 ((j + 1 : Nat) : Int)) (by rfl) (fun wS hSw => by go_simp; try with_reducible rfl) ?_
                      simp only [Act.put, List.setIfInBounds_toArray, List.set_cons_zero, List.set_cons_succ]
                      refine qh_opw (.int .i64 (j : Int)) (by rfl) (fun wS hSw => by go_simp; try with_reducible rfl) ?_
                      simp only [Act.put, List.setIfInBounds_toArray, List.set_cons_zero, List.set_cons_succ]
                      refine qh_opw (.pointer (some ⟨b, off + j, none⟩)) (by rfl) (fun wS hSw => by go_simp; try with_reducible rfl) ?_
                      simp only [Act.put, List.setIfInBounds_toArray, List.set_cons_zero, List.set_cons_succ]
                      refine qh_opw (.int .i64 y) (by rfl) (fun wS hSw => by have kj := KCY.out wS hSw; go_simp; try with_reducible rfl) ?_
                      simp only [Act.put, List.setIfInBounds_toArray, List.set_cons_zero, List.set_cons_succ]
                      refine qh_opw (.slice (some ⟨b, off, none⟩) L.length cap) (by rfl) (fun wS hSw => by go_simp; try with_reducible rfl) ?_
                      simp only [Act.put, List.setIfInBounds_toArray, List.set_cons_zero, List.set_cons_succ]
                      refine qh_opw (.int .i64 ((j + 1 : Nat) : Int)) (by rfl) (fun wS hSw => by go_simp; try with_reducible rfl) ?_
                      simp only [Act.put, List.setIfInBounds_toArray, List.set_cons_zero, List.set_cons_succ]
                      refine qh_opw (.pointer (some ⟨b, off + (j + 1), none⟩)) (by rfl) (fun wS hSw => by go_simp; try with_reducible rfl) ?_
                      simp only [Act.put, List.setIfInBounds_toArray, List.set_cons_zero, List.set_cons_succ]
                      refine qh_opw (.int .i64 x) (by rfl) (fun wS hSw => by have kc := KCX.out wS hSw; go_simp; try with_reducible rfl) ?_
                      simp only [Act.put, List.setIfInBounds_toArray, List.set_cons_zero, List.set_cons_succ]
                      refine qh_opw (.bool false) (by rfl) (fun wS hSw => by go_simp; try with_reducible rfl) ?_
                      simp only [Act.put, List.setIfInBounds_toArray, List.set_cons_zero, List.set_cons_succ]
                      refine qh_opw (.bool false) (by rfl) (fun wS hSw => by go_simp; try with_reducible rfl) ?_
                      simp only [Act.put, List.setIfInBounds_toArray, List.set_cons_zero, List.set_cons_succ]
                      refine qh_op (.bool false) rfl (fun wS hSw => by go_simp; try with_reducible rfl) ?_
                      simp only [Act.put, List.setIfInBounds_toArray, List.set_cons_zero, List.set_cons_succ]
                      refine qh_nil ⟨?_⟩
                      intro wE hE
                      go_wp2
                      go_roundw
                      case rel => exact ⟨j + 1 + 1, by omega, by go_num, HBo.out.trans (hE.mono HBo.out.size)⟩
                      case measure => simp [intOf]; omega
                    · obtain rfl : k = 0 := by omega
                      rw [Nat.add_zero] at ckr
                      have KCX : Hid (∀ wS, Below wo2.heap.size wo2 wS → wS.cell? ⟨b, off, none⟩ = some (.int .i64 x)) := Lib.hid (fun wS hS => (hS.cell (p := ⟨b, off, none⟩) hbl2).trans ckr)
                      have d1 : decide ((0 : Int) < ((0 : Nat) : Int)) = false := decide_eq_false (by omega)
                      clear hmc hBj ckr ck hbl hbl2
                      go_upto_region 40 with fail
                      refine region_qh (C := fun w' => Below wo2.heap.size wo2 w') (by kernel_rfl) (by kernel_rfl) ((Below.refl _ wo2).drew) ?_
                      refine qh_op (.int .i64 c) rfl (fun wS hSw => by go_simp; try with_reducible rfl) ?_
                      simp only [Act.put, List.setIfInBounds_toArray, List.set_cons_zero, List.set_cons_succ]
                      refine qh_op (.pointer (some ⟨q', 0, none⟩)) rfl (fun wS hSw => by go_simp; try with_reducible rfl) ?_
                      simp only [Act.put, List.setIfInBounds_toArray, List.set_cons_zero, List.set_cons_succ]
                      refine qh_op (.slice (some ⟨b, off, none⟩) L.length cap) rfl (fun wS hSw => by go_simp; try with_reducible rfl) ?_
                      simp only [Act.put, List.setIfInBounds_toArray, List.set_cons_zero, List.set_cons_succ]
                      refine qh_op (.int .i64 (0 : Nat)) rfl (fun wS hSw => by go_simp; try with_reducible rfl) ?_
                      simp only [Act.put, List.setIfInBounds_toArray, List.set_cons_zero, List.set_cons_succ]
                      refine qh_op (.pointer (some ⟨b, off, none⟩)) rfl (fun wS hSw => by go_simp; try with_reducible rfl) ?_
                      simp only [Act.put, List.setIfInBounds_toArray, List.set_cons_zero, List.set_cons_succ]
                      refine qh_op (.int .i64 x) rfl (fun wS hSw => by have kc := KCX.out wS hSw; go_simp; try with_reducible rfl) ?_
                      simp only [Act.put, List.setIfInBounds_toArray, List.set_cons_zero, List.set_cons_succ]
                      refine qh_call2 (.int .i64 c) rfl 20 _ _ _ rfl (.pointer (some ⟨q', 0, none⟩)) (.int .i64 x) (by rfl) (by rfl) E20 (fun wS hSw => TC.out wS hSw) ?_
                      simp only [Act.put, List.setIfInBounds_toArray, List.set_cons_zero, List.set_cons_succ]
                      refine qh_op (.bool false) rfl (fun wS hSw => by go_simp; try with_reducible rfl) ?_
                      simp only [Act.put, List.setIfInBounds_toArray, List.set_cons_zero, List.set_cons_succ]
                      refine qh_op (.bool false) rfl (fun wS hSw => by go_simp; try with_reducible rfl) ?_
                      simp only [Act.put, List.setIfInBounds_toArray, List.set_cons_zero, List.set_cons_succ]
                      refine qh_opw (.int .i64 (0 : Nat)) (by rfl) (fun wS hSw => by go_simp; try with_reducible rfl) ?_
                      simp only [Act.put, List.setIfInBounds_toArray, List.set_cons_zero, List.set_cons_succ]
                      refine qh_opw (.bool false) (by rfl) (fun wS hSw => by go_simp; try with_reducible rfl) ?_
                      simp only [Act.put, List.setIfInBounds_toArray, List.set_cons_zero, List.set_cons_succ]
                      refine qh_opw (.bool false) (by rfl) (fun wS hSw => by go_simp; try with_reducible rfl) ?_
                      simp only [Act.put, List.setIfInBounds_toArray, List.set_cons_zero, List.set_cons_succ]
                      refine qh_skip (by rfl) ?_
                      simp only [Act.put, List.setIfInBounds_toArray, List.set_cons_zero, List.set_cons_succ]
                      refine qh_skip (by rfl) ?_
                      simp only [Act.put, List.setIfInBounds_toArray, List.set_cons_zero, List.set_cons_succ]
                      refine qh_skip (by rfl) ?_
                      simp only [Act.put, List.setIfInBounds_toArray, List.set_cons_zero, List.set_cons_succ]
                      refine qh_skip (by rfl) ?_
                      simp only [Act.put, List.setIfInBounds_toArray, List.set_cons_zero, List.set_cons_succ]
                      refine qh_skip (by rfl) ?_
                      simp only [Act.put, List.setIfInBounds_toArray, List.set_cons_zero, List.set_cons_succ]
                      refine qh_skip (by rfl) ?_
                      simp only [Act.put, List.setIfInBounds_toArray, List.set_cons_zero, List.set_cons_succ]
                      refine qh_skip (by rfl) ?_
                      simp only [Act.put, List.setIfInBounds_toArray, List.set_cons_zero, List.set_cons_succ]
                      refine qh_skip (by rfl) ?_
                      simp only [Act.put, List.setIfInBounds_toArray, List.set_cons_zero, List.set_cons_succ]
                      refine qh_skip (by rfl) ?_
                      simp only [Act.put, List.setIfInBounds_toArray, List.set_cons_zero, List.set_cons_succ]
                      refine qh_skip (by rfl) ?_
                      simp only [Act.put, List.setIfInBounds_toArray, List.set_cons_zero, List.set_cons_succ]
                      refine qh_opw (.bool false) (by rfl) (fun wS hSw => by go_simp; try with_reducible rfl) ?_
                      simp only [Act.put, List.setIfInBounds_toArray, List.set_cons_zero, List.set_cons_succ]
                      refine qh_op (.bool false) rfl (fun wS hSw => by go_simp; try with_reducible rfl) ?_
                      simp only [Act.put, List.setIfInBounds_toArray, List.set_cons_zero, List.set_cons_succ]
                      refine qh_nil ⟨?_⟩
                      intro wE hE
                      go_wp2
                      go_roundw
                      case rel => exact ⟨0 + 1, by omega, by go_num, HBo.out.trans (hE.mono HBo.out.size)⟩
                      case measure => simp [intOf]; omega
              · obtain rfl : k = L.length := by omega
                have t1 : decide (L.length < L.length) = false := decide_eq_false (by omega)
                have HRB := Lib.hid (HC8.out.trans (hBq.mono HC8.out.size))
                have HRT := Lib.hid (RdTwo.below D HT8.out hBq)
                clear hBq
                go_wp2
                go_roundw
                case rel => exact ⟨i + 1, l', q', by omega, rfl, by go_num, HRT, HRB.out⟩
                case measure => simp [intOf]; omega
          · have d3 : (kind == 3) = false := by rw [beq_eq_false_iff_ne]; exact k3
            clear k3
            obtain ⟨l', rfl⟩ : ∃ x, x = l := ⟨_, rfl⟩
            have HT := HH
            have HB5 := HBr
            have hge := hger
            go_wp2_with fail
            refine (RdTwo.look1 D HT.out hge (fun F hF => D.oldest _ _ _ F n (RdTwo.oks HT.out).1 hF)).mono ?_
            rintro _ w6 ⟨rfl, hT6, hb6⟩
            have hc6 := HB5.out.trans hb6
            obtain ⟨R, hR⟩ : ∃ R, Rd.oldest l' n = R := ⟨_, rfl⟩
            have OR : Hid (Calls Try.prog 16 #[.pointer (some ⟨q, 0, none⟩), .int .i64 n] w6 fun e w' => e = .returned (.int .i64 R) ∧ w6 = w') := Lib.hid (by rw [← hR]; exact RdTwo.look2 hT6 (fun G hG => rroldest_ok _ _ _ G n (RdTwo.oks hT6).2 hG))
            simp only [hR]
            clear hR
            go_wp2_with fail
            refine OR.out.mono ?_
            rintro _ _ ⟨rfl, rfl⟩
            obtain ⟨rn, hrn⟩ : ∃ x, Rd.readN l' n = x := ⟨_, rfl⟩
            obtain ⟨rb, hrb⟩ : ∃ x, Rd.there l' n = x := ⟨_, rfl⟩
            have R1 : Hid (Calls Try.prog 17 #[.pointer (some ⟨p, 0, none⟩), .int .i64 n] w6 fun e w' => e = .returned (.tuple #[.int .i64 rn, .bool rb]) ∧ RdTwo At w.heap.size p q l' l' w' ∧ Below w.heap.size w6 w') := Lib.hid (by
              rw [← hrn, ← hrb]
              exact RdTwo.look1 D hT6 hc6.size (fun F hF => D.reads _ _ _ F n (RdTwo.oks hT6).1 hF))
            clear hT6
            go_wp2_with fail
            refine R1.out.mono ?_
            rintro _ w7 ⟨rfl, hT7, hb7⟩
            have hc7 := hc6.trans hb7
            have R2 : Hid (Calls Try.prog 18 #[.pointer (some ⟨q, 0, none⟩), .int .i64 n] w7 fun e w' => e = .returned (.tuple #[.int .i64 rn, .bool rb]) ∧ w7 = w') := Lib.hid (by
              rw [← hrn, ← hrb]
              exact RdTwo.look2 hT7 (fun G hG => rrreads_ok _ _ _ G n (RdTwo.oks hT7).2 hG))
            clear hrn hrb
            go_wp2_with fail
            refine R2.out.mono ?_
            rintro _ _ ⟨rfl, rfl⟩
            have HT7 := Lib.hid hT7
            have HL7 := Lib.hid (fun F hF => D.live w7 p l' F (RdTwo.oks hT7).1 hF)
            clear hT7
            go_wp2_with fail
            refine (RdTwo.look1 D HT7.out hc7.size (Q := fun e w' => ∃ V L, e = .returned V ∧ IntsAt w' V L ∧ Rd.Live l' L) (fun F hF => (HL7.out F hF).mono fun _ _ ⟨V, L, h1, h2, h3, h4⟩ => ⟨⟨V, L, h1, h2, h3⟩, h4⟩)).mono ?_
            rintro _ w8 ⟨⟨V, L, rfl, hints, hlive⟩, hT8, hb8⟩
            have HC8 := Lib.hid (hc7.trans hb8)
            have hcount := hlive.length (RdTwo.oks hT8).1
            have CC : Hid (Calls Try.prog 14 #[.pointer (some ⟨q, 0, none⟩)] w8 fun e w' => e = .returned (.int .i64 (L.length : Nat)) ∧ w8 = w') := Lib.hid (by
              rw [hcount]
              exact RdTwo.look2 hT8 (fun G hG => rrcount_ok _ _ _ G (RdTwo.oks hT8).2 hG))
            have TM : Hid (∀ wz, Below w8.heap.size w8 wz → ∀ x : Int, Calls Try.prog 20 #[.pointer (some ⟨q, 0, none⟩), .int .i64 x] wz fun e w' => e = .returned (.int .i64 (l'.count x : Nat)) ∧ wz = w') := Lib.hid (fun wz hz x =>
              RdTwo.look2 (RdTwo.below D hT8 hz) (fun G hG => rrtimes_ok _ _ _ G x (RdTwo.oks hT8).2 hG))
            have HT8 := Lib.hid hT8
            have HI := Lib.hid hints
            have HLV := Lib.hid hlive
            have hL4 : L.length ≤ 4 := by rw [hcount]; unfold Rd.count; omega
            obtain ⟨A2, cap, rfl, _⟩ := hints
            clear hT8 hlive hcount hb6 hb7 hb8 hc6 hc7
            go_wp2_with fail
            refine CC.out.mono ?_
            rintro _ _ ⟨rfl, rfl⟩
            go_wp2
            go_loopw [16] (fun ii wr => ∃ k : Nat, k ≤ L.length ∧ ii = .int .i64 k ∧ Below w8.heap.size w8 wr) (fun ii _ => L.length - (intOf ii).toNat)
            case atStart => exact ⟨0, by omega, rfl, Below.refl _ _⟩
            case round =>
              obtain ⟨k, hk, rfl, hBq⟩ := hrel
              by_cases hkl : k < L.length
              · have t1 : decide (k < L.length) = true := decide_eq_true hkl
                obtain ⟨b, off, hA2, hbl, ck⟩ := (HI.out.below hBq).get k hkl
                obtain ⟨x, hx⟩ : ∃ x, L[k] = x := ⟨_, rfl⟩
                rw [hx] at ck
                have HX := Lib.hid hx
                have HBq := Lib.hid hBq
                have i0 : (0 : Int) ≤ (k : Int) := by omega
                have i1 : (k : Int) < (L.length : Int) := by omega
                subst hA2
                clear hx hBq
                obtain ⟨wo, rfl⟩ : ∃ wo : World, wo = wr := ⟨_, rfl⟩
                go_wp2
                go_loopw [17, 18] (fun mm jj wr => ∃ j c : Nat, j ≤ L.length ∧ c ≤ j ∧ mm = .int .i64 c ∧ jj = .int .i64 j ∧ Hid (c = (L.take j).count x) ∧ Below wo.heap.size wo wr) (fun _ jj _ => L.length - (intOf jj).toNat)
                case atStart => exact ⟨0, 0, by omega, by omega, rfl, rfl, Lib.hid rfl, Below.refl _ _⟩
                case round =>
                  obtain ⟨j, c, hj, hcj, rfl, rfl, HCnt, hBj⟩ := hrel
                  by_cases hjl : j < L.length
                  · have t2 : decide (j < L.length) = true := decide_eq_true hjl
                    obtain ⟨b', off', hA3, hbl', cj⟩ := ((HI.out.below HBq.out).below hBj).get j hjl
                    obtain ⟨rfl, rfl⟩ : b = b' ∧ off = off' := by
                      injection hA3 with h
                      injection h with h1 h2
                      exact ⟨h1, h2⟩
                    have ckr := (hBj.cell (p := ⟨b, off + k, none⟩) hbl).trans ck
                    have hs := Rd.count_take_succ L x j hjl
                    rw [← HCnt.out] at hs
                    obtain ⟨y, hy⟩ : ∃ y, L[j] = y := ⟨_, rfl⟩
                    rw [hy] at cj hs
                    have j0 : (0 : Int) ≤ (j : Int) := by omega
                    have j1 : (j : Int) < (L.length : Int) := by omega
                    have HBj := Lib.hid hBj
                    by_cases hyx : y = x
                    · have d1 : (y == x) = true := by rw [beq_iff_eq]; exact hyx
                      have HS : Hid (c + 1 = (L.take (j + 1)).count x) := Lib.hid (by rw [hs, if_pos hyx])
                      clear hs hy hyx hA3 hBj
                      go_wp2
                      go_quiet (fail)
                      go_wp2
                      go_roundw
                      case rel => exact ⟨j + 1, c + 1, by omega, by omega, by go_num, by go_num, HS, rd_drewN HBj.out _⟩
                      case measure => simp [intOf]; omega
                    · have d1 : (y == x) = false := by rw [beq_eq_false_iff_ne]; exact hyx
                      have HS : Hid (c = (L.take (j + 1)).count x) := Lib.hid (by rw [hs, if_neg hyx]; rfl)
                      clear hs hy hyx hA3 hBj
                      go_wp2
                      go_quiet (fail)
                      go_wp2
                      go_roundw
                      case rel => exact ⟨j + 1, c, by omega, by omega, rfl, by go_num, HS, rd_drewN HBj.out _⟩
                      case measure => simp [intOf]; omega
                  · obtain rfl : j = L.length := by omega
                    have t2 : decide (L.length < L.length) = false := decide_eq_false (by omega)
                    obtain ⟨mc, hmc⟩ : ∃ mc, (l'.count x : Nat) = mc := ⟨_, rfl⟩
                    have hcm : c = mc := by
                      rw [HCnt.out, List.take_length, ← hmc, ← HX.out]
                      exact HLV.out.count k hkl
                    subst hcm
                    obtain ⟨wo2, rfl⟩ : ∃ wo2 : World, wo2 = wr := ⟨_, rfl⟩
                    have HBo := Lib.hid (HBq.out.trans (hBj.mono HBq.out.size))
                    have TC : Hid (∀ wS, Below wo2.heap.size wo2 wS → Calls Try.prog 20 #[.pointer (some ⟨q, 0, none⟩), .int .i64 x] wS fun e w' => e = .returned (.int .i64 (c : Nat)) ∧ Below wo2.heap.size wo2 w') := Lib.hid (fun wS hS => by
                      have := TM.out wS (HBo.out.trans (hS.mono HBo.out.size)) x
                      rw [hmc] at this
                      exact this.mono fun _ _ ⟨h1, h2⟩ => ⟨h1, h2 ▸ hS⟩)
                    have E20 : ∀ args w, (callFunc 20 args).run Try.prog w = .ok (.enter 20 args) w := fun args w => by kernel_rfl
                    have ckr := (hBj.cell (p := ⟨b, off + k, none⟩) hbl).trans ck
                    have hbl2 : b < wo2.heap.size := Nat.lt_of_lt_of_le hbl hBj.size
                    by_cases hk0 : 0 < k
                    · obtain ⟨j, rfl⟩ : ∃ j, k = j + 1 := ⟨k - 1, by omega⟩
                      have d1 : decide ((0 : Int) < ((j + 1 : Nat) : Int)) = true := decide_eq_true (by omega)
                      have d2 : decide ((0 : Int) < (j : Int) + 1) = true := decide_eq_true (by omega)
                      obtain ⟨b', off', hA3, _, cj⟩ := ((HI.out.below HBq.out).below hBj).get j (by omega)
                      obtain ⟨rfl, rfl⟩ : b = b' ∧ off = off' := by
                        injection hA3 with h
                        injection h with h1 h2
                        exact ⟨h1, h2⟩
                      have hrs := HLV.out.rising j hkl
                      rw [HX.out] at hrs
                      obtain ⟨y, hy⟩ : ∃ y, L[j] = y := ⟨_, rfl⟩
                      rw [hy] at cj hrs
                      have d3 : decide (x < y) = false := decide_eq_false (by omega)
                      have KCX : Hid (∀ wS, Below wo2.heap.size wo2 wS → wS.cell? ⟨b, off + (j + 1), none⟩ = some (.int .i64 x)) := Lib.hid (fun wS hS => (hS.cell (p := ⟨b, off + (j + 1), none⟩) hbl2).trans ckr)
                      have KCY : Hid (∀ wS, Below wo2.heap.size wo2 wS → wS.cell? ⟨b, off + j, none⟩ = some (.int .i64 y)) := Lib.hid (fun wS hS => (hS.cell (p := ⟨b, off + j, none⟩) hbl2).trans cj)
                      have m1 : IntKind.i64.wrap (((j + 1 : Nat) : Int) - 1) = j := by rw [IntWalk.i64_in _ (by omega)]; omega
                      have m2 : IntKind.i64.wrap ((j : Int) + 1 - 1) = j := by rw [IntWalk.i64_in _ (by omega)]; omega
                      have m3 : IntKind.i64.wrap (j : Int) = j := IntWalk.i64_in _ (by omega)
                      have j0 : (0 : Int) ≤ (j : Int) := by omega
                      have j1 : (j : Int) < (L.length : Int) := by omega
                      have j2 : (0 : Int) ≤ (j : Int) + 1 := by omega
                      have j3 : (j : Int) + 1 < (L.length : Int) := by omega
                      clear hmc hy hrs hA3 hBj cj ckr ck hbl hbl2
                      go_upto_region 40 with fail
                      refine region_qh (C := fun w' => Below wo2.heap.size wo2 w') (by kernel_rfl) (by kernel_rfl) ((Below.refl _ wo2).drew) ?_
                      refine qh_op (.int .i64 c) rfl (fun wS hSw => by go_simp; try with_reducible rfl) ?_
                      simp only [Act.put, List.setIfInBounds_toArray, List.set_cons_zero, List.set_cons_succ]
                      refine qh_op (.pointer (some ⟨q, 0, none⟩)) rfl (fun wS hSw => by go_simp; try with_reducible rfl) ?_
                      simp only [Act.put, List.setIfInBounds_toArray, List.set_cons_zero, List.set_cons_succ]
                      refine qh_op (.slice (some ⟨b, off, none⟩) L.length cap) rfl (fun wS hSw => by go_simp; try with_reducible rfl) ?_
                      simp only [Act.put, List.setIfInBounds_toArray, List.set_cons_zero, List.set_cons_succ]
                      refine qh_op (.int .i64 ((j + 1 : Nat) : Int)) rfl (fun wS hSw => by go_simp; try with_reducible rfl) ?_
                      simp only [Act.put, List.setIfInBounds_toArray, List.set_cons_zero, List.set_cons_succ]
                      refine qh_op (.pointer (some ⟨b, off + (j + 1), none⟩)) rfl (fun wS hSw => by go_simp; try with_reducible rfl) ?_
                      simp only [Act.put, List.setIfInBounds_toArray, List.set_cons_zero, List.set_cons_succ]
                      refine qh_op (.int .i64 x) rfl (fun wS hSw => by have kc := KCX.out wS hSw; go_simp; try with_reducible rfl) ?_
                      simp only [Act.put, List.setIfInBounds_toArray, List.set_cons_zero, List.set_cons_succ]
                      refine qh_call2 (.int .i64 c) rfl 20 _ _ _ rfl (.pointer (some ⟨q, 0, none⟩)) (.int .i64 x) (by rfl) (by rfl) E20 (fun wS hSw => TC.out wS hSw) ?_
                      simp only [Act.put, List.setIfInBounds_toArray, List.set_cons_zero, List.set_cons_succ]
                      refine qh_op (.bool false) rfl (fun wS hSw => by go_simp; try with_reducible rfl) ?_
                      simp only [Act.put, List.setIfInBounds_toArray, List.set_cons_zero, List.set_cons_succ]
                      refine qh_op (.bool false) rfl (fun wS hSw => by go_simp; try with_reducible rfl) ?_
                      simp only [Act.put, List.setIfInBounds_toArray, List.set_cons_zero, List.set_cons_succ]
                      refine qh_opw (.int .i64 ((j + 1 : Nat) : Int)) (by rfl) (fun wS hSw => by go_simp; try with_reducible rfl) ?_
                      simp only [Act.put, List.setIfInBounds_toArray, List.set_cons_zero, List.set_cons_succ]
                      refine qh_opw (.bool true) (by rfl) (fun wS hSw => by go_simp; try with_reducible rfl) ?_
                      simp only [Act.put, List.setIfInBounds_toArray, List.set_cons_zero, List.set_cons_succ]
                      refine qh_opw (.bool true) (by rfl) (fun wS hSw => by go_simp; try with_reducible rfl) ?_
                      simp only [Act.put, List.setIfInBounds_toArray, List.set_cons_zero, List.set_cons_succ]
                      refine qh_opw (.slice (some ⟨b, off, none⟩) L.length cap) (by rfl) (fun wS hSw => by go_simp; try with_reducible rfl) ?_
                      simp only [Act.put, List.setIfInBounds_toArray, List.set_cons_zero, List.set_cons_succ]
                      refine qh_opw (.int .i64 ((j + 1 : Nat) : Int)) (by rfl) (fun wS hSw => by go_simp; try with_reducible rfl) ?_
                      simp only [Act.put, List.setIfInBounds_toArray, List.set_cons_zero, List.set_cons_succ]
                      refine qh_opw (.int .i64 (j : Int)) (by rfl) (fun wS hSw => by go_simp; try with_reducible rfl) ?_
                      simp only [Act.put, List.setIfInBounds_toArray, List.set_cons_zero, List.set_cons_succ]
                      refine qh_opw (.pointer (some ⟨b, off + j, none⟩)) (by rfl) (fun wS hSw => by go_simp; try with_reducible rfl) ?_
                      simp only [Act.put, List.setIfInBounds_toArray, List.set_cons_zero, List.set_cons_succ]
                      refine qh_opw (.int .i64 y) (by rfl) (fun wS hSw => by have kj := KCY.out wS hSw; go_simp; try with_reducible rfl) ?_
                      simp only [Act.put, List.setIfInBounds_toArray, List.set_cons_zero, List.set_cons_succ]
                      refine qh_opw (.slice (some ⟨b, off, none⟩) L.length cap) (by rfl) (fun wS hSw => by go_simp; try with_reducible rfl) ?_
                      simp only [Act.put, List.setIfInBounds_toArray, List.set_cons_zero, List.set_cons_succ]
                      refine qh_opw (.int .i64 ((j + 1 : Nat) : Int)) (by rfl) (fun wS hSw => by go_simp; try with_reducible rfl) ?_
                      simp only [Act.put, List.setIfInBounds_toArray, List.set_cons_zero, List.set_cons_succ]
                      refine qh_opw (.pointer (some ⟨b, off + (j + 1), none⟩)) (by rfl) (fun wS hSw => by go_simp; try with_reducible rfl) ?_
                      simp only [Act.put, List.setIfInBounds_toArray, List.set_cons_zero, List.set_cons_succ]
                      refine qh_opw (.int .i64 x) (by rfl) (fun wS hSw => by have kc := KCX.out wS hSw; go_simp; try with_reducible rfl) ?_
                      simp only [Act.put, List.setIfInBounds_toArray, List.set_cons_zero, List.set_cons_succ]
                      refine qh_opw (.bool false) (by rfl) (fun wS hSw => by go_simp; try with_reducible rfl) ?_
                      simp only [Act.put, List.setIfInBounds_toArray, List.set_cons_zero, List.set_cons_succ]
                      refine qh_opw (.bool false) (by rfl) (fun wS hSw => by go_simp; try with_reducible rfl) ?_
                      simp only [Act.put, List.setIfInBounds_toArray, List.set_cons_zero, List.set_cons_succ]
                      refine qh_op (.bool false) rfl (fun wS hSw => by go_simp; try with_reducible rfl) ?_
                      simp only [Act.put, List.setIfInBounds_toArray, List.set_cons_zero, List.set_cons_succ]
                      refine qh_nil ⟨?_⟩
                      intro wE hE
                      go_wp2
                      go_roundw
                      case rel => exact ⟨j + 1 + 1, by omega, by go_num, HBo.out.trans (hE.mono HBo.out.size)⟩
                      case measure => simp [intOf]; omega
                    · obtain rfl : k = 0 := by omega
                      rw [Nat.add_zero] at ckr
                      have KCX : Hid (∀ wS, Below wo2.heap.size wo2 wS → wS.cell? ⟨b, off, none⟩ = some (.int .i64 x)) := Lib.hid (fun wS hS => (hS.cell (p := ⟨b, off, none⟩) hbl2).trans ckr)
                      have d1 : decide ((0 : Int) < ((0 : Nat) : Int)) = false := decide_eq_false (by omega)
                      clear hmc hBj ckr ck hbl hbl2
                      go_upto_region 40 with fail
                      refine region_qh (C := fun w' => Below wo2.heap.size wo2 w') (by kernel_rfl) (by kernel_rfl) ((Below.refl _ wo2).drew) ?_
                      refine qh_op (.int .i64 c) rfl (fun wS hSw => by go_simp; try with_reducible rfl) ?_
                      simp only [Act.put, List.setIfInBounds_toArray, List.set_cons_zero, List.set_cons_succ]
                      refine qh_op (.pointer (some ⟨q, 0, none⟩)) rfl (fun wS hSw => by go_simp; try with_reducible rfl) ?_
                      simp only [Act.put, List.setIfInBounds_toArray, List.set_cons_zero, List.set_cons_succ]
                      refine qh_op (.slice (some ⟨b, off, none⟩) L.length cap) rfl (fun wS hSw => by go_simp; try with_reducible rfl) ?_
                      simp only [Act.put, List.setIfInBounds_toArray, List.set_cons_zero, List.set_cons_succ]
                      refine qh_op (.int .i64 (0 : Nat)) rfl (fun wS hSw => by go_simp; try with_reducible rfl) ?_
                      simp only [Act.put, List.setIfInBounds_toArray, List.set_cons_zero, List.set_cons_succ]
                      refine qh_op (.pointer (some ⟨b, off, none⟩)) rfl (fun wS hSw => by go_simp; try with_reducible rfl) ?_
                      simp only [Act.put, List.setIfInBounds_toArray, List.set_cons_zero, List.set_cons_succ]
                      refine qh_op (.int .i64 x) rfl (fun wS hSw => by have kc := KCX.out wS hSw; go_simp; try with_reducible rfl) ?_
                      simp only [Act.put, List.setIfInBounds_toArray, List.set_cons_zero, List.set_cons_succ]
                      refine qh_call2 (.int .i64 c) rfl 20 _ _ _ rfl (.pointer (some ⟨q, 0, none⟩)) (.int .i64 x) (by rfl) (by rfl) E20 (fun wS hSw => TC.out wS hSw) ?_
                      simp only [Act.put, List.setIfInBounds_toArray, List.set_cons_zero, List.set_cons_succ]
                      refine qh_op (.bool false) rfl (fun wS hSw => by go_simp; try with_reducible rfl) ?_
                      simp only [Act.put, List.setIfInBounds_toArray, List.set_cons_zero, List.set_cons_succ]
                      refine qh_op (.bool false) rfl (fun wS hSw => by go_simp; try with_reducible rfl) ?_
                      simp only [Act.put, List.setIfInBounds_toArray, List.set_cons_zero, List.set_cons_succ]
                      refine qh_opw (.int .i64 (0 : Nat)) (by rfl) (fun wS hSw => by go_simp; try with_reducible rfl) ?_
                      simp only [Act.put, List.setIfInBounds_toArray, List.set_cons_zero, List.set_cons_succ]
                      refine qh_opw (.bool false) (by rfl) (fun wS hSw => by go_simp; try with_reducible rfl) ?_
                      simp only [Act.put, List.setIfInBounds_toArray, List.set_cons_zero, List.set_cons_succ]
                      refine qh_opw (.bool false) (by rfl) (fun wS hSw => by go_simp; try with_reducible rfl) ?_
                      simp only [Act.put, List.setIfInBounds_toArray, List.set_cons_zero, List.set_cons_succ]
                      refine qh_skip (by rfl) ?_
                      simp only [Act.put, List.setIfInBounds_toArray, List.set_cons_zero, List.set_cons_succ]
                      refine qh_skip (by rfl) ?_
                      simp only [Act.put, List.setIfInBounds_toArray, List.set_cons_zero, List.set_cons_succ]
                      refine qh_skip (by rfl) ?_
                      simp only [Act.put, List.setIfInBounds_toArray, List.set_cons_zero, List.set_cons_succ]
                      refine qh_skip (by rfl) ?_
                      simp only [Act.put, List.setIfInBounds_toArray, List.set_cons_zero, List.set_cons_succ]
                      refine qh_skip (by rfl) ?_
                      simp only [Act.put, List.setIfInBounds_toArray, List.set_cons_zero, List.set_cons_succ]
                      refine qh_skip (by rfl) ?_
                      simp only [Act.put, List.setIfInBounds_toArray, List.set_cons_zero, List.set_cons_succ]
                      refine qh_skip (by rfl) ?_
                      simp only [Act.put, List.setIfInBounds_toArray, List.set_cons_zero, List.set_cons_succ]
                      refine qh_skip (by rfl) ?_
                      simp only [Act.put, List.setIfInBounds_toArray, List.set_cons_zero, List.set_cons_succ]
                      refine qh_skip (by rfl) ?_
                      simp only [Act.put, List.setIfInBounds_toArray, List.set_cons_zero, List.set_cons_succ]
                      refine qh_skip (by rfl) ?_
                      simp only [Act.put, List.setIfInBounds_toArray, List.set_cons_zero, List.set_cons_succ]
                      refine qh_opw (.bool false) (by rfl) (fun wS hSw => by go_simp; try with_reducible rfl) ?_
                      simp only [Act.put, List.setIfInBounds_toArray, List.set_cons_zero, List.set_cons_succ]
                      refine qh_op (.bool false) rfl (fun wS hSw => by go_simp; try with_reducible rfl) ?_
                      simp only [Act.put, List.setIfInBounds_toArray, List.set_cons_zero, List.set_cons_succ]
                      refine qh_nil ⟨?_⟩
                      intro wE hE
                      go_wp2
                      go_roundw
                      case rel => exact ⟨0 + 1, by omega, by go_num, HBo.out.trans (hE.mono HBo.out.size)⟩
                      case measure => simp [intOf]; omega
              · obtain rfl : k = L.length := by omega
                have t1 : decide (L.length < L.length) = false := decide_eq_false (by omega)
                have HRB := Lib.hid (HC8.out.trans (hBq.mono HC8.out.size))
                have HRT := Lib.hid (RdTwo.below D HT8.out hBq)
                clear hBq
                go_wp2
                go_roundw
                case rel => exact ⟨i + 1, l', q, by omega, rfl, by go_num, HRT, HRB.out⟩
                case measure => simp [intOf]; omega
    · have hgo : decide (i < xs.length) = false ∨ (decide (i < xs.length) = true ∧ decide ((i : Int) < 60) = false) := by
        by_cases h : i < xs.length
        · exact .inr ⟨decide_eq_true h, decide_eq_false (by omega)⟩
        · exact .inl (decide_eq_false h)
      have HBr := Lib.hid hBr
      clear hBr
      rcases hgo with t1 | ⟨t1, t2⟩
      all_goals
        go_wp2
        go_ret
        exact ⟨rfl, HBr.out⟩
end Go.Proofs.Ytmfbjdfekgbamaa
