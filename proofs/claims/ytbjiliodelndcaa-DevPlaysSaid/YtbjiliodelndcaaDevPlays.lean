/-
  P3.1 to P3.3 (plays), of any program's device that meets the kit: the statement's function returns true, whatever it is handed. No conditions but those typed.
-/
import Derived.Test.YtbjiliodelndcaaDevAwake
import Derived.Test.YtbjiliodelndcaaActs
import Derived.Test.YtbjiliodelndcaaHeadQuiet
import Derived.WalkSmall
import Derived.Deep.QuietTactic
import Derived.BigQuiet
import Derived.Lib.QuietBelow
import Derived.Outline
import Derived.Deep.CutRange
import Derived.Deep.DeepCutAuto
namespace Go.Proofs.Ytbjiliodelndcaa
open Go.RowKit
attribute [local go_sem ↓] Go.wp_at_zero Go.wp_at_succ
set_option maxRecDepth 100000 in
set_option maxHeartbeats 800000 in
theorem plays_not (At : World → Nat → RD → List Nat → Prop) (D : DevKit At) (w : World) (n : Int) (hn : n < 1 ∨ 2048 < n) (A : Option Addr) (len cap : Nat) :
    Calls Try.prog 3 #[.int .i64 n, .slice A len cap] w fun e w' => e = .returned (.bool true) ∧ Below w.heap.size w w' := by
  have N1 := fun w => Lib.hid (D.newNot n w hn)
  have N2 := fun w => Lib.hid (ref_new_not n hn w)
  clear hn
  go_enter Try.func3, Try.ntmps3
  go_wp2_with fail
  refine (awake_any At D _).mono ?_
  rintro _ w1 ⟨rfl, hb1⟩
  go_wp2_with fail
  refine (N1 _).out.mono ?_
  rintro _ _ ⟨rfl, rfl⟩
  go_wp2_with fail
  refine (N2 _).out.mono ?_
  rintro _ _ ⟨rfl, rfl⟩
  go_wp2_with fail
  refine (D.nilSize _).mono ?_
  rintro _ _ ⟨rfl, rfl⟩
  go_wp2
  go_ret
  exact ⟨rfl, hb1⟩
set_option maxRecDepth 100000 in
set_option maxHeartbeats 800000 in
theorem plays_many (At : World → Nat → RD → List Nat → Prop) (D : DevKit At) (w : World) (n : Nat) (h1 : 20 < n) (h2 : n ≤ 2048) (A : Option Addr) (len cap : Nat) :
    Calls Try.prog 3 #[.int .i64 n, .slice A len cap] w fun e w' => e = .returned (.bool true) ∧ Below w.heap.size w w' := by
  have d1 : decide (20 < (n : Int)) = true := decide_eq_true (by omega)
  go_enter Try.func3, Try.ntmps3
  go_wp2_with fail
  refine (awake_any At D _).mono ?_
  rintro _ w1 ⟨rfl, hb1⟩
  go_wp2_with fail
  refine (D.new n _ (by omega) (by omega)).mono ?_
  rintro _ w2 ⟨p, F, rfl, hA, hF, hb2⟩
  go_wp2_with fail
  refine (ref_new n (by omega) (by omega) _).mono ?_
  rintro _ w3 ⟨q, G, rfl, hR, hG, hb3⟩
  have hA3 := D.touch hA (Touch.ofBelow hb3) (by simp)
  have SZ := D.size _ _ _ _ hA3
  have hl : (RD.fresh (sectorOf 0) n).sector.length = n := by simp [RD.fresh]
  rw [hl] at SZ
  have SH := Lib.hid SZ
  clear hl SZ
  go_wp2_with fail
  refine SH.out.mono ?_
  rintro _ _ ⟨rfl, rfl⟩
  go_wp2
  go_ret
  have B2 := hb1.trans (hb2.mono hb1.size)
  exact ⟨rfl, B2.trans (hb3.mono B2.size)⟩
theorem ref_head {w : World} {q : Nat} {d : RD} {G : List Nat} (h : RefAt w q d G) : w.cell? ⟨q, 2, none⟩ = some (.bool d.off) ∧ w.cell? ⟨q, 4, none⟩ = some (.int .i64 d.count) ∧ w.cell? ⟨q, 5, none⟩ = some (.int .i64 d.wrote) := by
  obtain ⟨vs, vr, hb, _⟩ := h
  exact ⟨hb.cell 2, hb.cell 4, hb.cell 5⟩
theorem touch_drewN (w : World) (n : Nat) : Touch [] w (w.drewN n) := ⟨rfl, rfl, rfl, Nat.le_refl _, fun _ _ _ => rfl⟩
/-- both devices are d, apart, above block B -/
def Both (At : World → Nat → RD → List Nat → Prop) (B : Nat) (p q : Nat) (d : RD) (wr : World) : Prop :=
  ∃ F G, At wr p d F ∧ RefAt wr q d G ∧ (∀ k ∈ F, k ∉ G) ∧ (∀ k ∈ F, B ≤ k) ∧ (∀ k ∈ G, B ≤ k)
theorem Both.touch {At : World → Nat → RD → List Nat → Prop} (D : DevKit At) {B p q : Nat} {d : RD} {w w' : World} (h : Both At B p q d w) (hT : Touch [] w w') : Both At B p q d w' := by
  obtain ⟨F, G, h1, h2, h3, h4, h5⟩ := h
  exact ⟨F, G, D.touch h1 hT (by simp), h2.touch hT (by simp), h3, h4, h5⟩
set_option linter.unusedSimpArgs false in
set_option maxRecDepth 100000 in
set_option maxHeartbeats 6400000 in
theorem plays_some (At : World → Nat → RD → List Nat → Prop) (D : DevKit At) (w : World) (n : Nat) (h1 : 1 ≤ n) (h2 : n ≤ 20) (v : Value) (xs : List ActM) (hx : ActsAt w w.heap.size v xs) :
    Calls Try.prog 3 #[.int .i64 n, v] w fun e w' => e = .returned (.bool true) ∧ Below w.heap.size w w' := by
  have d1 : decide (20 < (n : Int)) = false := decide_eq_false (by omega)
  have HX := Lib.hid hx
  obtain ⟨A, cap, rfl, hcap, hxl, _⟩ := hx
  go_enter Try.func3, Try.ntmps3
  go_wp2_with fail
  refine (awake_any At D _).mono ?_
  rintro _ w1 ⟨rfl, hb1⟩
  go_wp2_with fail
  refine (D.new n _ (by omega) (by omega)).mono ?_
  rintro _ w2 ⟨p, F, rfl, hA, hF, hb2⟩
  go_wp2_with fail
  refine (ref_new n (by omega) (by omega) _).mono ?_
  rintro _ w3 ⟨q, G, rfl, hR, hG, hb3⟩
  have hA3 := D.touch hA (Touch.ofBelow hb3) (by simp)
  have B2 := hb1.trans (hb2.mono hb1.size)
  have B3 := B2.trans (hb3.mono B2.size)
  have HB3 : Hid (Both At w.heap.size p q (RD.fresh (sectorOf 0) n) w3) := Lib.hid ⟨F, G, hA3, hR, fun k hk hm => by
    have e1 := D.lt hA k hk
    have e2 := hG k hm
    omega, fun k hk => Nat.le_trans hb1.size (hF k hk), fun k hk => Nat.le_trans B2.size (hG k hk)⟩
  have HOK := Lib.hid (RD.fresh_ok (sectorOf 0) n (by omega))
  have HLN : Hid ((RD.fresh (sectorOf 0) n).sector.length = n) := Lib.hid (by simp [RD.fresh])
  clear hA hF hb2 hR hG hb3 hA3 hb1 B2
  go_wp2
  clear d1
  go_loopw [9] (fun i wr => ∃ (j : Nat) (d : RD), j ≤ xs.length ∧ j ≤ 60 ∧ i = .int .i64 j ∧ Both At w.heap.size p q d wr ∧ Hid (RD.Ok j d) ∧ Hid (d.sector.length = n) ∧ Below w.heap.size w wr) (fun i _ => 60 - (intOf i).toNat)
  case atStart => exact ⟨0, _, by omega, by omega, rfl, HB3.out, HOK, HLN, B3⟩
  case round =>
    obtain ⟨j, d, hj, hj6, rfl, ⟨F, G, hA, hR, hFG, hF, hG⟩, HK, HL, hB⟩ := hrel
    by_cases hlt : j < xs.length ∧ j < 60
    · obtain ⟨hlt, hl6⟩ := hlt
      have t1 : decide (j < xs.length) = true := decide_eq_true hlt
      have t2 : decide ((j : Int) < 60) = true := decide_eq_true (by omega)
      obtain ⟨b, off, pv, rfl, hbl, hcells, hnums, hnx⟩ := (HX.out.below hB).get j hlt
      obtain ⟨x, hxe⟩ : ∃ x, xs[j] = x := ⟨_, rfl⟩
      rw [hxe] at hcells hnums hnx
      obtain ⟨E, hE⟩ : ∃ E, actE textOf x d = E := ⟨_, rfl⟩
      obtain ⟨d', hd'⟩ : ∃ d', actD textOf x d = d' := ⟨_, rfl⟩
      have HK' : Hid (RD.Ok (j + 1) d') := Lib.hid (by rw [← hd']; exact act_ok textOf x HK.out hnx)
      have HL' : Hid (d'.sector.length = n) := Lib.hid (by rw [← hd', act_length]; exact HL.out)
      have ltF := D.lt hA
      have ltG := hR.lt
      have tdr : Touch [] wr wr.drew := (Touch.refl _ _).drew
      have DD := does_ok At _ D.toCoreKit wr.drew p d F j (by omega) HK.out (D.touch hA tdr (by simp)) x pv ((hnums.at_ hB.size hF).touch tdr (by simp))
      have MM : ∀ w1 : World, Touch F wr.drew w1 → Calls Try.prog 12 #[.pointer (some ⟨q, 0, none⟩), actV x pv] w1 (Did RefAt w1 q G (actD textOf x d) (.returned (.int .i64 (actE textOf x d)))) := fun w1 hT1 =>
        means_ok RefAt _ refKit w1 q d G j (by omega) HK.out ((hR.touch tdr (by simp)).touch hT1 (fun k hk => hFG k hk)) x pv ((hnums.below ((Below.refl _ wr).drew.trans (hT1.below hB.size hF))).at_ (Nat.le_trans hB.size hT1.size) hG)
      rw [hE, hd'] at DD
      simp only [hE, hd'] at MM
      have HDD := Lib.hid DD
      have HMM := Lib.hid MM
      have HC : Hid (∀ w2 : World, Below w.heap.size wr.drew w2 → ActCells w2 b (off + j * 6) x pv) := Lib.hid (fun w2 h2 => hcells.below ((Below.refl _ wr).drew.trans h2) hbl)
      have HAP : Hid ((∀ k ∈ F, k < wr.heap.size) ∧ (∀ k ∈ G, k < wr.heap.size) ∧ (∀ k ∈ F, k ∉ G) ∧ (∀ k ∈ F, w.heap.size ≤ k) ∧ (∀ k ∈ G, w.heap.size ≤ k)) := Lib.hid ⟨ltF, ltG, hFG, hF, hG⟩
      have SZ : Hid (∀ (w2 : World) (F2 : List Nat), At w2 p d' F2 → Calls Try.prog 10 #[.pointer (some ⟨p, 0, none⟩)] w2 fun e w' => e = .returned (.int .i64 n) ∧ w2 = w') := Lib.hid (fun w2 F2 h => by have := D.size w2 p d' F2 h; rwa [HL'.out] at this)
      obtain ⟨kind, i, nn, c, text, picks⟩ := x
      unfold actV at HDD HMM
      unfold ActCells at hcells HC
      simp only at HDD HMM hcells HC
      obtain ⟨c0, c1, c2, c3, c4, c5⟩ := hcells
      have i1 : (0 : Int) ≤ (j : Int) := by omega
      have i2 : (j : Int) < (xs.length : Int) := by omega
      clear hnums hnx DD MM hE hd' hxe ltF ltG tdr hFG hA hR
      go_upto_region 12 with fail
      go_cut [115] (fun s115 wx => s115 = .bool false ∧ Both At w.heap.size p q d' wx ∧ Below w.heap.size w wx)
      case first =>
        refine wp_region_held_drew (S := fun w' => w'.cell? ⟨b, off + j * 6, none⟩ = some (.int .i64 kind) ∧ w'.cell? ⟨b, off + j * 6 + 1, none⟩ = some (.int .i64 i) ∧ w'.cell? ⟨b, off + j * 6 + 2, none⟩ = some (.int .i64 nn) ∧ w'.cell? ⟨b, off + j * 6 + 3, none⟩ = some (.int .u8 c.toNat) ∧ w'.cell? ⟨b, off + j * 6 + 4, none⟩ = some (.string text) ∧ w'.cell? ⟨b, off + j * 6 + 5, none⟩ = some pv) (by kernel_rfl) ⟨c0, c1, c2, c3, c4, c5⟩ (fun hHeld => ?_)
        refine take_0 (v := ?v0) (by kernel_rfl) (by kernel_rfl) (by kernel_rfl) (fun _ _ _ h => h) (by rfl) ?y0 hHeld ?r0
        case y0 => (intro wS hSw; (try dsimp only at hSw); go_simp; try with_reducible rfl)
        try simp only [Act.put, List.setIfInBounds_toArray, List.set_cons_zero, List.set_cons_succ]
        refine take_1 (v := ?v1) (by kernel_rfl) (by kernel_rfl) (by kernel_rfl) (fun _ _ _ h => h) (by rfl) ?y1 hHeld ?r1
        case y1 => (intro wS hSw; (try dsimp only at hSw); go_simp; try with_reducible rfl)
        try simp only [Act.put, List.setIfInBounds_toArray, List.set_cons_zero, List.set_cons_succ]
        refine take_2 (v := ?v2) (by kernel_rfl) (by kernel_rfl) (by kernel_rfl) (fun _ _ _ h => h) (by rfl) ?y2 hHeld ?r2
        case y2 => (intro wS hSw; (try dsimp only at hSw); go_simp; try with_reducible rfl)
        try simp only [Act.put, List.setIfInBounds_toArray, List.set_cons_zero, List.set_cons_succ]
        refine take_3 (v := ?v3) (by kernel_rfl) (by kernel_rfl) (by kernel_rfl) (fun _ _ _ h => h) (by rfl) ?y3 hHeld ?r3
        case y3 => (intro wS hSw; (try dsimp only at hSw); go_simp; try with_reducible rfl)
        try simp only [Act.put, List.setIfInBounds_toArray, List.set_cons_zero, List.set_cons_succ]
        refine take_4 (v := ?v4) (by kernel_rfl) (by kernel_rfl) (by kernel_rfl) (fun _ _ _ h => h) (by rfl) ?y4 hHeld ?r4
        case y4 => (intro wS hSw; (try dsimp only at hSw); go_simp; try with_reducible rfl)
        try simp only [Act.put, List.setIfInBounds_toArray, List.set_cons_zero, List.set_cons_succ]
        refine take_6 (v := ?v6) (by kernel_rfl) (by kernel_rfl) (by kernel_rfl) (fun _ _ _ h => h) (by rfl) ?y6 hHeld ?r6
        case y6 => (intro wS hSw; (try dsimp only at hSw); go_simp; try with_reducible rfl)
        try simp only [Act.put, List.setIfInBounds_toArray, List.set_cons_zero, List.set_cons_succ]
        refine take_7 (v := ?v7) (by kernel_rfl) (by kernel_rfl) (by kernel_rfl) (fun _ _ _ h => h) (by rfl) ?y7 hHeld ?r7
        case y7 => (intro wS hSw; (try dsimp only at hSw); go_simp; try with_reducible rfl)
        try simp only [Act.put, List.setIfInBounds_toArray, List.set_cons_zero, List.set_cons_succ]
        refine take_8 (v := ?v8) (by kernel_rfl) (by kernel_rfl) (by kernel_rfl) (fun _ _ _ h => h) (by rfl) ?y8 hHeld ?r8
        case y8 => (intro wS hSw; (try dsimp only at hSw); go_simp; try with_reducible rfl)
        try simp only [Act.put, List.setIfInBounds_toArray, List.set_cons_zero, List.set_cons_succ]
        refine take_9 (v := ?v9) (by kernel_rfl) (by kernel_rfl) (by kernel_rfl) (fun _ _ _ h => h) (by rfl) ?y9 hHeld ?r9
        case y9 => (intro wS hSw; (try dsimp only at hSw); go_simp; try with_reducible rfl)
        try simp only [Act.put, List.setIfInBounds_toArray, List.set_cons_zero, List.set_cons_succ]
        refine take_10 (v := ?v10) (by kernel_rfl) (by kernel_rfl) (by kernel_rfl) (fun _ _ _ h => h) (by rfl) ?y10 hHeld ?r10
        case y10 => (intro wS hSw; (try dsimp only at hSw); go_simp; try with_reducible rfl)
        try simp only [Act.put, List.setIfInBounds_toArray, List.set_cons_zero, List.set_cons_succ]
        refine step_5 (by kernel_rfl) (fun K hK => ?_)
        go_simp
        refine HDD.out.mono ?_
        rintro e w1 ⟨rfl, F1, hA1, hT1, hG1⟩
        go_wp2_with fail
        refine hK.out _ _ (HC.out _ (hT1.below hB.size hF)) (fun hHeld => ?_)
        clear hK K
        try simp only [Act.put, List.setIfInBounds_toArray, List.set_cons_zero, List.set_cons_succ]
        refine step_11 (by kernel_rfl) (fun K hK => ?_)
        go_simp
        refine (HMM.out _ hT1).mono ?_
        rintro e w2 ⟨rfl, G2, hR2, hT2, hG2⟩
        go_wp2_with fail
        refine hK.out _ _ (HC.out _ ((hT1.below hB.size hF).trans (hT2.below (Nat.le_trans hB.size hT1.size) hG))) (fun hHeld => ?_)
        clear hK K
        try simp only [Act.put, List.setIfInBounds_toArray, List.set_cons_zero, List.set_cons_succ]
        obtain ⟨n1, n2, n3, n4⟩ := apart_after HAP.out.2.1 hT1.size (D.lt hA1) hG1 hG2 HAP.out.2.2.1 hF hG hB.size
        have hA2 := D.touch hA1 hT2 n1
        obtain ⟨r1, r2, r3⟩ := ref_head hR2
        have QA : ∀ k, At (w2.drewN k) p d' F1 := fun k => D.touch hA2 (touch_drewN w2 k) (by simp)
        have Q1 : Hid (∀ k, Calls Try.prog 13 #[.pointer (some ⟨p, 0, none⟩)] (w2.drewN k) fun e w' => e = .returned (.bool (!d'.off)) ∧ w' = w2.drewN k) := Lib.hid (fun k => (D.on _ _ _ _ (QA k)).mono fun _ _ ⟨h1, h2⟩ => ⟨h1, h2.symm⟩)
        have Q2 : Hid (∀ k, Calls Try.prog 14 #[.pointer (some ⟨p, 0, none⟩)] (w2.drewN k) fun e w' => e = .returned (.int .i64 d'.count) ∧ w' = w2.drewN k) := Lib.hid (fun k => (D.steps _ _ _ _ (QA k)).mono fun _ _ ⟨h1, h2⟩ => ⟨h1, h2.symm⟩)
        have Q3 : Hid (∀ k, Calls Try.prog 15 #[.pointer (some ⟨p, 0, none⟩)] (w2.drewN k) fun e w' => e = .returned (.int .i64 d'.wrote) ∧ w' = w2.drewN k) := Lib.hid (fun k => (D.writes _ _ _ _ (QA k)).mono fun _ _ ⟨h1, h2⟩ => ⟨h1, h2.symm⟩)
        have Q4 : Hid (∀ k, Calls Try.prog 10 #[.pointer (some ⟨p, 0, none⟩)] (w2.drewN k) fun e w' => e = .returned (.int .i64 n) ∧ w' = w2.drewN k) := Lib.hid (fun k => (SZ.out _ _ (QA k)).mono fun _ _ ⟨h1, h2⟩ => ⟨h1, h2.symm⟩)
        have HH := Lib.hid (fun (_ : Nat) => hHeld)
        clear QA hHeld
        refine tail_12 (by rfl) (by kernel_rfl) (by kernel_rfl) HH.out ?_
        repeat (go_big_quiet_step ((first | (go_at_call 13; exact Calls.quiet_of_same (Q1.out _)) | (go_at_call 14; exact Calls.quiet_of_same (Q2.out _)) | (go_at_call 15; exact Calls.quiet_of_same (Q3.out _)) | (go_at_call 10; exact Calls.quiet_of_same (Q4.out _)))))
        refine wpQuiet_nil ?_
        intro _ hw'
        obtain ⟨nq, hw''⟩ := hw'
        subst hw''
        go_wp2_with fail
        go_meet
        exact ⟨rfl, Both.touch D ⟨F1, G2, hA2, hR2, n2, n3, n4⟩ (touch_drewN w2 nq), below_drewN ((hB.drew.trans (hT1.below hB.size hF)).trans (hT2.below (Nat.le_trans hB.size hT1.size) hG)) nq⟩
      case rest =>
        obtain ⟨rfl, ⟨F1, G1, hA1, hR1, hFG1, hF1, hG1⟩, hB1⟩ := hcut
        clear HDD HMM HC HAP hF hG hB c0 c1 c2 c3 c4 c5 hbl
        have HA1 := Lib.hid hA1
        have HR1 := Lib.hid hR1
        have HB1 := Lib.hid (show Both At w.heap.size p q d' wc from ⟨F1, G1, hA1, hR1, hFG1, hF1, hG1⟩)
        have HBW := Lib.hid hB1
        clear hA1 hR1 hFG1 hF1 hG1 hB1
        go_wp2
        obtain ⟨wo, rfl⟩ : ∃ wo : World, wo = wc := ⟨_, rfl⟩
        go_loopw [10] (fun k wr => ∃ m : Int, -1 ≤ m ∧ m ≤ n + 1 ∧ k = .int .i64 m ∧ Touch [] wo wr) (fun k _ => (n + 1 - intOf k).toNat)
        case atStart => exact ⟨-1, by omega, by omega, rfl, Touch.refl _ _⟩
        case round =>
          obtain ⟨m, hm1, hm2, rfl, hT⟩ := hrel
          have hAw := D.touch HA1.out hT (by simp)
          have hRw := HR1.out.touch hT (by simp)
          by_cases hmn : m ≤ n
          · have t3 : decide (m ≤ (n : Int)) = true := decide_eq_true hmn
            obtain ⟨S, hS⟩ : ∃ S, d'.readS m = S := ⟨_, rfl⟩
            obtain ⟨E2, hE2⟩ : ∃ E2, d'.readE m = E2 := ⟨_, rfl⟩
            obtain ⟨W2, hW2⟩ : ∃ W2, d'.waits m = W2 := ⟨_, rfl⟩
            have R1 := D.read _ _ _ _ (j + 1) (by omega) HK'.out m hAw
            have R2 := fun (w5 : World) (h5 : Touch [] wr w5) => ref_read _ _ _ _ (j + 1) (by omega) HK'.out m (hRw.touch h5 (by simp))
            have R3 := fun (w5 : World) (h5 : Touch [] wr w5) => D.waits _ _ _ _ (j + 1) (by omega) HK'.out m (D.touch hAw h5 (by simp))
            have R4 := fun (w5 : World) (h5 : Touch [] wr w5) => ref_waits _ _ _ _ (j + 1) (by omega) HK'.out m (hRw.touch h5 (by simp))
            rw [hS, hE2] at R1
            simp only [hS, hE2] at R2
            simp only [hW2] at R3 R4
            have LS : Hid (∀ w5, Touch [] wr w5 → ∀ d os, Calls Try.prog 20 #[.pointer (some ⟨p, 0, none⟩), .int .i64 m] (Sort.grow (redrawn w5 d) os) fun e w'' => e = .returned (.string (d'.lastsS m)) ∧ ∃ r : Regrown, w'' = Sort.grow (redrawn w5 r.d) r.os) := Lib.hid (fun w5 h5 dd os =>
              Calls.regrown_of (D.lasts _ _ _ _ m (D.touch (D.touch hAw h5 (by simp)) (Touch.ofBelow (below_regrown w5 dd os)) (by simp))))
            have H1 := Lib.hid R1
            have H2 := Lib.hid R2
            have H3 := Lib.hid R3
            have H4 := Lib.hid R4
            have q1 : (S.toList != S.toList) = false := by simp
            clear R1 R2 R3 R4 hS hE2 hW2 hAw
            by_cases hm0 : m < 0
            · have hls : d'.lastsS m = ⟨#[]⟩ := by unfold RD.lastsS RD.has; rw [if_neg (by simp; omega)]
              rw [hls] at LS
              have g1 : decide (0 ≤ m) = false := decide_eq_false (by omega)
              have g2 : decide (m < 0) = true := decide_eq_true hm0
              clear hls hRw
              go_wp2_with fail
              refine H1.out.mono ?_
              rintro _ w5 ⟨rfl, hb5⟩
              have T5 := Touch.ofBelow hb5
              have LS5 := Lib.hid (LS.out _ T5)
              go_wp2_with fail
              refine (H2.out _ T5).mono ?_
              rintro _ _ ⟨rfl, rfl⟩
              go_wp2_with fail
              refine (H3.out _ T5).mono ?_
              rintro _ _ ⟨rfl, rfl⟩
              go_wp2_with fail
              refine (H4.out _ T5).mono ?_
              rintro _ _ ⟨rfl, rfl⟩
              clear hb5
              go_wp2
              refine wp_region_quiet_below (by kernel_rfl) (by kernel_rfl) ?_
              repeat (go_big_quiet_step ((exact LS5.out _ _)))
              refine wpQuiet_nil ?_
              intro _ hw'
              obtain ⟨⟨dq, osq⟩, hw''⟩ := hw'
              subst hw''
              go_wp2
              go_roundw
              case rel => exact ⟨m + 1, by omega, by omega, rfl, hT.trans (T5.trans (Touch.ofBelow (below_regrown _ dq osq)) (Grows.refl _ _)) (Grows.refl _ _)⟩
              case measure => simp [intOf]; omega
            · obtain ⟨i', rfl⟩ := Int.eq_ofNat_of_zero_le (show 0 ≤ m by omega)
              have g1 : decide ((i' : Int) < 0) = false := decide_eq_false (by omega)
              by_cases hin : i' < n
              · have g2 : decide (i' < n) = true := decide_eq_true hin
                have g3 : decide (n ≤ i') = false := decide_eq_false (by omega)
                have hil : i' < d'.sector.length := by rw [HL'.out]; exact hin
                have hls : d'.lastsS (i' : Int) = d'.sector[i'] := by
                  unfold RD.lastsS RD.has
                  rw [if_pos (by simp; omega)]
                  simp [List.getD, hil]
                rw [hls] at LS
                obtain ⟨vs, vr, hb, hs, _, hdj, _⟩ := hRw
                obtain ⟨A2, cap2, rfl⟩ := ownsRow_slice hs
                obtain ⟨gg, rfl, _, hc2, tt⟩ := text_at hs i' hil
                obtain ⟨LL, hLL⟩ : ∃ LL, d'.sector[i'] = LL := ⟨_, rfl⟩
                rw [hLL] at tt LS
                have x0 : wr.cell? ⟨q, 0, none⟩ = some (.slice (some ⟨gg, 0, none⟩) d'.sector.length cap2) := hb.cell 0
                have HX0 : Hid (∀ w5, Touch [] wr w5 → w5.cell? ⟨q, 0, none⟩ = some (.slice (some ⟨gg, 0, none⟩) d'.sector.length cap2)) := Lib.hid (fun w5 h5 => (h5.cell (p := ⟨q, 0, none⟩) (World.block_lt_of_cell? _ _ x0) (by simp)).trans x0)
                have HTT : Hid (∀ w5, Touch [] wr w5 → w5.cell? ⟨gg, i', none⟩ = some (.string LL)) := Lib.hid (fun w5 h5 => (h5.cell (p := ⟨gg, i', none⟩) (World.block_lt_of_cell? _ _ tt) (by simp)).trans tt)
                have q2 : (LL.toList != LL.toList) = false := by simp
                have i3 : (0 : Int) ≤ (i' : Int) := by omega
                have i4 : (i' : Int) < (d'.sector.length : Int) := by omega
                clear hls hb hs hLL hil x0 tt hdj
                go_wp2_with fail
                refine H1.out.mono ?_
                rintro _ w5 ⟨rfl, hb5⟩
                have T5 := Touch.ofBelow hb5
                have LS5 := Lib.hid (LS.out _ T5)
                have x0 := cell_regrown (HX0.out _ T5)
                have tt := cell_regrown (HTT.out _ T5)
                go_wp2_with fail
                refine (H2.out _ T5).mono ?_
                rintro _ _ ⟨rfl, rfl⟩
                go_wp2_with fail
                refine (H3.out _ T5).mono ?_
                rintro _ _ ⟨rfl, rfl⟩
                go_wp2_with fail
                refine (H4.out _ T5).mono ?_
                rintro _ _ ⟨rfl, rfl⟩
                clear hb5
                go_wp2
                refine wp_region_quiet_below (by kernel_rfl) (by kernel_rfl) ?_
                repeat (go_big_quiet_step ((exact LS5.out _ _)))
                refine wpQuiet_nil ?_
                intro _ hw'
                obtain ⟨⟨dq, osq⟩, hw''⟩ := hw'
                subst hw''
                go_wp2
                go_roundw
                case rel => exact ⟨(i' : Int) + 1, by omega, by omega, rfl, hT.trans (T5.trans (Touch.ofBelow (below_regrown _ dq osq)) (Grows.refl _ _)) (Grows.refl _ _)⟩
                case measure => simp [intOf]; omega
              · obtain rfl : i' = n := by omega
                have g2 : decide (i' < i') = false := decide_eq_false (by omega)
                have g3 : decide (i' ≤ i') = true := decide_eq_true (by omega)
                have hls : d'.lastsS (i' : Int) = ⟨#[]⟩ := by
                  unfold RD.lastsS RD.has
                  rw [if_neg (by simp [HL'.out])]
                rw [hls] at LS
                clear hls hRw
                go_wp2_with fail
                refine H1.out.mono ?_
                rintro _ w5 ⟨rfl, hb5⟩
                have T5 := Touch.ofBelow hb5
                have LS5 := Lib.hid (LS.out _ T5)
                go_wp2_with fail
                refine (H2.out _ T5).mono ?_
                rintro _ _ ⟨rfl, rfl⟩
                go_wp2_with fail
                refine (H3.out _ T5).mono ?_
                rintro _ _ ⟨rfl, rfl⟩
                go_wp2_with fail
                refine (H4.out _ T5).mono ?_
                rintro _ _ ⟨rfl, rfl⟩
                clear hb5
                go_wp2
                refine wp_region_quiet_below (by kernel_rfl) (by kernel_rfl) ?_
                repeat (go_big_quiet_step ((exact LS5.out _ _)))
                refine wpQuiet_nil ?_
                intro _ hw'
                obtain ⟨⟨dq, osq⟩, hw''⟩ := hw'
                subst hw''
                go_wp2
                go_roundw
                case rel => exact ⟨(i' : Int) + 1, by omega, by omega, rfl, hT.trans (T5.trans (Touch.ofBelow (below_regrown _ dq osq)) (Grows.refl _ _)) (Grows.refl _ _)⟩
                case measure => simp [intOf]
          · have t3 : decide (m ≤ (n : Int)) = false := decide_eq_false hmn
            clear hAw hRw
            go_wp2
            go_roundw
            case rel => exact ⟨j + 1, d', by omega, by omega, by go_num, HB1.out.touch D hT, HK', HL', HBW.out.trans (hT.below HBW.out.size (by simp))⟩
            case measure => simp [intOf]; omega
    · by_cases hlt1 : j < xs.length
      · have t1 : decide (j < xs.length) = true := decide_eq_true hlt1
        have t2 : decide ((j : Int) < 60) = false := decide_eq_false (by omega)
        clear hA hR hFG hF hG
        go_wp2
        go_ret
        exact ⟨rfl, hB⟩
      · have t1 : decide (j < xs.length) = false := decide_eq_false hlt1
        clear hA hR hFG hF hG
        go_wp2
        go_ret
        exact ⟨rfl, hB⟩
theorem plays_any (At : World → Nat → RD → List Nat → Prop) (D : DevKit At) (w : World) (n : Int) (v : Value) (xs : List ActM) (hx : ActsAt w w.heap.size v xs) :
    Calls Try.prog 3 #[.int .i64 n, v] w fun e w' => e = .returned (.bool true) ∧ Below w.heap.size w w' := by
  by_cases h : n < 1 ∨ 2048 < n
  · obtain ⟨A, cap, rfl, _⟩ := hx
    exact plays_not At D w n h A _ cap
  · obtain ⟨n, rfl⟩ := Int.eq_ofNat_of_zero_le (show 0 ≤ n by omega)
    by_cases h2 : 20 < n
    · obtain ⟨A, cap, rfl, _⟩ := hx
      exact plays_many At D w n h2 (by omega) A _ cap
    · exact plays_some At D w n (by omega) (by omega) v xs hx
end Go.Proofs.Ytbjiliodelndcaa
