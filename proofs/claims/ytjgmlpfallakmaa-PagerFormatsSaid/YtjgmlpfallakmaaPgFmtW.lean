/-
  Any size of device and any limit give a file, or are refused (P5.1): the statement's function returns true at every two numbers; of any device and pager that meet the kits. No conditions but those typed.
-/
import Derived.Test.YtjgmlpfallakmaaPgFmtPure
import Derived.Deep.DeepCutAuto
namespace Go.Proofs.Ytjgmlpfallakmaa
open Go.RowKit
set_option maxRecDepth 4000 in
set_option maxHeartbeats 1600000 in
theorem pgformats_any (At : World → Nat → RD → List Nat → Prop) (PAt : World → Nat → Nat → PS → List Nat → Prop) (lt : ∀ {w : World} {p : Nat} {d : RD} {F : List Nat}, At w p d F → ∀ k ∈ F, k < w.heap.size)
    (tch : ∀ {w w' : World} {p : Nat} {d : RD} {F S : List Nat}, At w p d F → Touch S w w' → (∀ k ∈ S, k ∉ F) → At w' p d F) (N : HasNew At 8) (P : PgKit At PAt) (w : World) (sectors most : Int) :
    Calls Try.prog 3 #[.int .i64 sectors, .int .i64 most] w fun e w' => e = .returned (.bool true) ∧ Below w.heap.size w w' := by
  have AC := fun w => Lib.hid (pgawake_ok At PAt lt tch N P w)
  by_cases hs : sectors < 1 ∨ 2048 < sectors
  · have NC := fun w => Lib.hid (N.newNot sectors w hs)
    have FC := fun w => Lib.hid (P.nilFormat w most)
    clear hs
    go_enter Try.func3, Try.ntmps3
    go_wp2_with fail
    refine (AC _).out.mono ?_
    rintro _ w1 ⟨rfl, hb1⟩
    go_wp2_with fail
    refine (NC _).out.mono ?_
    rintro _ _ ⟨rfl, rfl⟩
    go_wp2_with fail
    refine (FC _).out.mono ?_
    rintro _ w2 ⟨rfl, hb2⟩
    go_wp2
    go_ret
    exact ⟨rfl, hb1.trans (hb2.mono hb1.size)⟩
  obtain ⟨n, rfl⟩ := Int.eq_ofNat_of_zero_le (show 0 ≤ sectors by omega)
  have NC := fun w => Lib.hid (N.new n w (by omega) (by omega))
  have HO := RD.fresh_ten (sectorOf 0) n (by omega)
  by_cases hm : 4 ≤ most ∧ most ≤ 512 ∧ 4 * most ≤ n
  · obtain ⟨f1, f2, f3⟩ := RD.fresh_may n most hm
    have d1 : decide (4 ≤ most) = true := decide_eq_true hm.1
    have d2 : decide (most ≤ 512) = true := decide_eq_true hm.2.1
    have d3 : decide (most ≤ (n : Int) / 4) = true := decide_eq_true (by omega)
    have d4 : decide (most ≤ (n : Int).tdiv 4) = true := decide_eq_true (by rw [Int.tdiv_eq_ediv_of_nonneg (by omega)]; omega)
    have HF := RD.fmt_ok HO most
    have HU := (RD.fresh_full n).fmt most
    go_enter Try.func3, Try.ntmps3
    go_wp2_with fail
    refine (AC _).out.mono ?_
    rintro _ w1 ⟨rfl, hb1⟩
    go_wp2_with fail
    refine (NC _).out.mono ?_
    rintro _ w2 ⟨p, F, rfl, hA, hF, hb2⟩
    have FC := P.format w2 p _ F 10 (by omega) HO most hA
    rw [f1] at FC
    have FC := Lib.hid FC
    have HB2 := Lib.hid (hb1.trans (hb2.mono hb1.size))
    have HF2 := Lib.hid hF
    have hs1 := hb1.size
    clear hA hF hb2 hb1 hm
    go_wp2_with fail
    refine FC.out.mono ?_
    rintro _ w3 ⟨rfl, F3, hA3, hT3, hG3⟩
    have OC := Lib.hid (P.open_ w3 p _ F3 13 (by omega) HF HU hA3)
    have HB3 := Lib.hid (HB2.out.trans (hT3.below HB2.out.size (fun k hk => Nat.le_trans hs1 (HF2.out k hk))))
    clear hA3 hT3 hG3
    go_wp2_with fail
    refine OC.out.mono ?_
    rintro e w4 ⟨hb4, ho⟩
    rw [f2] at ho
    obtain ⟨q, G, rfl, hP, hG⟩ := ho.elim (fun h => by cases h.1) (fun h => h.2)
    have MC := P.meta_ w4 q p _ G hP
    rw [f3] at MC
    unfold RD.fm MV.val at MC
    simp only at MC
    have MC := Lib.hid MC
    have HB4 := Lib.hid (HB3.out.trans (hb4.mono HB3.out.size))
    clear hP hG hb4 ho
    go_wp2_with fail
    refine MC.out.mono ?_
    rintro _ w5 ⟨rfl, hb5⟩
    have HB5 := Lib.hid (HB4.out.trans (hb5.mono HB4.out.size))
    go_wp2
    go_ret
    exact ⟨rfl, HB5.out⟩
  · obtain ⟨f1, f2⟩ := RD.fresh_mayNot n most hm
    obtain ⟨g1, g2⟩ := RD.fresh_not n (by omega)
    have HU := RD.fresh_full n
    go_enter Try.func3, Try.ntmps3
    go_wp2_with fail
    refine (AC _).out.mono ?_
    rintro _ w1 ⟨rfl, hb1⟩
    go_wp2_with fail
    refine (NC _).out.mono ?_
    rintro _ w2 ⟨p, F, rfl, hA, hF, hb2⟩
    have FC := P.format w2 p _ F 10 (by omega) HO most hA
    rw [f1, f2] at FC
    have FC := Lib.hid FC
    have HB2 := Lib.hid (hb1.trans (hb2.mono hb1.size))
    have HF2 := Lib.hid hF
    have hs1 := hb1.size
    clear hA hF hb2 hb1
    go_wp2_with fail
    refine FC.out.mono ?_
    rintro _ w3 ⟨rfl, F3, hA3, hT3, hG3⟩
    have OC := Lib.hid (P.open_ w3 p _ F3 10 (by omega) HO HU hA3)
    have HB3 := Lib.hid (HB2.out.trans (hT3.below HB2.out.size (fun k hk => Nat.le_trans hs1 (HF2.out k hk))))
    clear hA3 hT3 hG3 FC HF2 HB2
    go_upto_region 7 with fail
    go_cut [8] (fun v wx => v = .bool false ∧ w3 = wx)
    case first =>
      by_cases h1 : 4 ≤ most
      · have d1 : decide (4 ≤ most) = true := decide_eq_true h1
        by_cases h2 : most ≤ 512
        · have d2 : decide (most ≤ 512) = true := decide_eq_true h2
          have d3 : decide (most ≤ (n : Int) / 4) = false := decide_eq_false (by omega)
          have d4 : decide (most ≤ (n : Int).tdiv 4) = false := decide_eq_false (by rw [Int.tdiv_eq_ediv_of_nonneg (by omega)]; omega)
          clear hm h1 h2
          go_wp2_with fail
          go_meet
          exact ⟨rfl, rfl⟩
        · have d2 : decide (most ≤ 512) = false := decide_eq_false h2
          clear hm h1 h2
          go_wp2_with fail
          go_meet
          exact ⟨rfl, rfl⟩
      · have d1 : decide (4 ≤ most) = false := decide_eq_false h1
        clear hm h1
        go_wp2_with fail
        go_meet
        exact ⟨rfl, rfl⟩
    case rest =>
      obtain ⟨rfl, rfl⟩ := hcut
      go_wp2_with fail
      refine OC.out.mono ?_
      rintro e w4 ⟨hb4, ho⟩
      rw [g1] at ho
      obtain ⟨-, rfl⟩ := ho.elim id (fun h => by cases h.1)
      rw [g2]
      have HB4 := Lib.hid (HB3.out.trans (hb4.mono HB3.out.size))
      clear hb4 ho
      by_cases h1 : n = 1
      · rw [if_pos h1]
        have d5 : decide ((n : Int) < 2) = true := decide_eq_true (by omega)
        clear h1 hm
        go_wp2
        go_ret
        exact ⟨rfl, HB4.out⟩
      · rw [if_neg h1]
        clear h1 hm
        go_wp2
        go_ret
        exact ⟨rfl, HB4.out⟩
end Go.Proofs.Ytjgmlpfallakmaa
