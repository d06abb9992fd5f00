/-
  Of any two sectors a file is opened by the newest meta, or refused (P5.1): the statement's function returns true at every two texts; of any device, page and pager that meet the kits. No conditions but those typed.
-/
import Derived.Test.YtjgmlpfallakmaaPgFmtPure
import Derived.Test.YtjgmlpfallakmaaB4
namespace Go.Proofs.Ytjgmlpfallakmaa
open Go.RowKit
abbrev LandUse (At : World → Nat → RD → List Nat → Prop) : Prop := DevUse At 20 30 15 17 18 21
/-- the newest of two metas is told -/
def HasNewest (f : FuncId) : Prop := ∀ (w : World) (a b : ByteArray), a.size ≤ 2000 → b.size ≤ 2000 → Calls Try.prog f #[.string a, .string b] w fun e w' => e = .returned (.tuple #[(newestM a b).val, .int .i64 (newestI a b), .int .i64 (newestE a b)]) ∧ Below w.heap.size w w'
/-- a device of 24 sectors, of which two were written -/
def twoW (a b : ByteArray) : RD := (beg0.writeD 0 a).writeD 1 b
theorem twoW_ok (a b : ByteArray) : RD.Ok 12 (twoW a b) := RD.write_ok (RD.write_ok beg0_ok 0 a) 1 b
theorem twoW_full (a b : ByteArray) : (twoW a b).Full := (beg0_full.write 0 a).write 1 b
theorem write_off {d : RD} (h : d.off = false) (hl : d.left = 0) (i : Int) (s : ByteArray) : (d.writeD i s).off = false ∧ (d.writeD i s).left = 0 := by
  unfold RD.writeD
  split
  · split
    · exact ⟨RD.stepped_off h (by omega), RD.stepped_left hl⟩
    · exact ⟨RD.stepped_off h (by omega), RD.stepped_left hl⟩
  · exact ⟨h, hl⟩
theorem twoW_len (a b : ByteArray) : (twoW a b).sector.length = 24 := by
  unfold twoW
  rw [RD.write_length, RD.write_length, beg0_len]
theorem twoW_read (a b : ByteArray) (i : Int) (h : 0 ≤ i ∧ i < 24) : (twoW a b).readE i = 0 := by
  obtain ⟨o1, l1⟩ := write_off (d := beg0) rfl rfl 0 a
  obtain ⟨o2, _⟩ := write_off o1 l1 1 b
  unfold RD.readE
  rw [if_pos (by rw [RD.has_iff, twoW_len]; exact h), if_neg]
  unfold twoW
  rw [o2]
  simp
theorem twoW_opens (a b : ByteArray) : (twoW a b).opens = (decide (newestE ((twoW a b).readS 0) ((twoW a b).readS 1) = 0) && decide ((newestM ((twoW a b).readS 0) ((twoW a b).readS 1)).limit ≤ 6)) ∧ (twoW a b).openE = if (twoW a b).opens then 0 else 4 := by
  have r0 := twoW_read a b 0 (by omega)
  have r1 := twoW_read a b 1 (by omega)
  have hl := twoW_len a b
  constructor
  · unfold RD.opens
    rw [r0, r1, hl]
    simp only [decide_true, Bool.true_and]
    congr 1
    exact decide_eq_decide.2 (by omega)
  · unfold RD.openE
    rw [r0, r1]
    rfl
set_option maxRecDepth 4000 in
set_option maxHeartbeats 1600000 in
theorem pgopens_any (At : World → Nat → RD → List Nat → Prop) (PAt : World → Nat → Nat → PS → List Nat → Prop) (lt : ∀ {w : World} {p : Nat} {d : RD} {F : List Nat}, At w p d F → ∀ k ∈ F, k < w.heap.size)
    (tch : ∀ {w w' : World} {p : Nat} {d : RD} {F S : List Nat}, At w p d F → Touch S w w' → (∀ k ∈ S, k ∉ F) → At w' p d F) (N : HasNew At 8) (U : LandUse At) (K : HasNewest 22) (P : PgKit At PAt) (w : World) (a b : ByteArray) :
    Calls Try.prog 5 #[.string a, .string b] w fun e w' => e = .returned (.bool true) ∧ Below w.heap.size w w' := by
  have AC := fun w => Lib.hid (pgawake_ok At PAt lt tch N P w)
  have h0 := (twoW_full a b).read 0
  have h1 := (twoW_full a b).read 1
  have KC := K
  unfold HasNewest at KC
  have KC := fun w => KC w ((twoW a b).readS 0) ((twoW a b).readS 1) (by omega) (by omega)
  have E0 := twoW_read a b 0 (by omega)
  have E1 := twoW_read a b 1 (by omega)
  obtain ⟨O1, O2⟩ := twoW_opens a b
  have OM : (twoW a b).openS.m = newestM ((twoW a b).readS 0) ((twoW a b).readS 1) := rfl
  have OKD := twoW_ok a b
  have FUL := twoW_full a b
  have E11 := func_enters Try.func11 (by kernel_rfl) rfl
  obtain ⟨s0, hs0⟩ : ∃ s, (twoW a b).readS 0 = s := ⟨_, rfl⟩
  obtain ⟨s1, hs1⟩ : ∃ s, (twoW a b).readS 1 = s := ⟨_, rfl⟩
  rw [hs0, hs1] at O1 OM
  simp only [hs0, hs1] at KC
  obtain ⟨e, he⟩ : ∃ e, newestE s0 s1 = e := ⟨_, rfl⟩
  obtain ⟨i, hi⟩ : ∃ i, newestI s0 s1 = i := ⟨_, rfl⟩
  obtain ⟨⟨mt, mr, mf, mp, ml⟩, hm⟩ : ∃ m, newestM s0 s1 = m := ⟨_, rfl⟩
  rw [he, hm] at O1
  rw [hm] at OM
  simp only [he, hi, hm, MV.val] at KC
  have KC := fun w => Lib.hid (KC w)
  clear he hi hm h0 h1
  go_enter Try.func5, Try.ntmps5
  go_wp2_with fail
  refine (AC _).out.mono ?_
  rintro _ w1 ⟨rfl, hb1⟩
  go_wp2_with fail
  refine (N.new 24 _ (by omega) (by omega)).mono ?_
  rintro _ w2 ⟨p, F, rfl, hA, hF, hb2⟩
  have HF : ∀ k ∈ F, w.heap.size ≤ k := fun k hk => Nat.le_trans hb1.size (hF k hk)
  have HB2 := Lib.hid (hb1.trans (hb2.mono hb1.size))
  have W1 := Lib.hid (U.write w2 p beg0 F 10 (by omega) beg0_ok 0 a hA)
  clear hA hF hb1 hb2
  go_wp2_with fail
  refine W1.out.mono ?_
  rintro _ w3 ⟨rfl, F3, hA3, hT3, hG3⟩
  have HF3 : ∀ k ∈ F3, w.heap.size ≤ k := fun k hk => (hG3 k hk).elim (HF k) (fun h => Nat.le_trans HB2.out.size h)
  have HB3 := Lib.hid (HB2.out.trans (hT3.below HB2.out.size HF))
  have W2 := Lib.hid (U.write w3 p _ F3 11 (by omega) (RD.write_ok beg0_ok 0 a) 1 b hA3)
  clear hA3 hT3 hG3
  go_wp2_with fail
  refine W2.out.mono ?_
  rintro _ w4 ⟨rfl, F4, hA4, hT4, hG4⟩
  have hA4 : At w4 p (twoW a b) F4 := hA4
  have HF4 : ∀ k ∈ F4, w.heap.size ≤ k := fun k hk => (hG4 k hk).elim (HF3 k) (fun h => Nat.le_trans HB3.out.size h)
  have HB4 := Lib.hid (HB3.out.trans (hT4.below HB3.out.size HF3))
  have R0 := U.read w4 p _ F4 12 (by omega) OKD 0 hA4
  rw [hs0, E0] at R0
  have R0 := Lib.hid R0
  clear hT4 hG4
  go_wp2_with fail
  refine R0.out.mono ?_
  rintro _ w5 ⟨rfl, hb5⟩
  have hA5 := tch hA4 (Touch.ofBelow hb5) (by simp)
  have HB5 := Lib.hid (HB4.out.trans (hb5.mono HB4.out.size))
  have R1 := U.read w5 p _ F4 12 (by omega) OKD 1 hA5
  rw [hs1, E1] at R1
  have R1 := Lib.hid R1
  clear hA4 hb5
  go_wp2_with fail
  refine R1.out.mono ?_
  rintro _ w6 ⟨rfl, hb6⟩
  have hA6 := tch hA5 (Touch.ofBelow hb6) (by simp)
  have HB6 := Lib.hid (HB5.out.trans (hb6.mono HB5.out.size))
  clear hA5 hb6
  go_wp2_with fail
  refine (KC _).out.mono ?_
  rintro _ w7 ⟨rfl, hb7⟩
  have hA7 := tch hA6 (Touch.ofBelow hb7) (by simp)
  have hA8 := tch hA7 ((Touch.refl [] w7).alloc (.cells #[.int .i64 mt, .int .i64 mr, .int .i64 mf, .int .i64 mp, .int .i64 ml] 32)) (by simp)
  have B7 := HB6.out.trans (hb7.mono HB6.out.size)
  have HB8 := Lib.hid (B7.alloc B7.size (.cells #[.int .i64 mt, .int .i64 mr, .int .i64 mf, .int .i64 mp, .int .i64 ml] 32))
  have OC := Lib.hid (P.open_ _ p _ F4 12 (by omega) OKD FUL hA8)
  clear hA6 hA7 hA8 hb7 B7
  go_wp2_with fail
  refine OC.out.mono ?_
  rintro e9 w9 ⟨hb9, ho⟩
  have HB9 := Lib.hid (HB8.out.trans (hb9.mono HB8.out.size))
  have hM : Blk w9 w7.heap.size #[.int .i64 mt, .int .i64 mr, .int .i64 mf, .int .i64 mp, .int .i64 ml] 32 := (hb9.block _ (by simp)).trans (heap_alloc_new w7 _)
  have c4 : w9.cell? ⟨w7.heap.size, 4, none⟩ = some (.int .i64 ml) := hM.cell 4
  clear hb9
  by_cases k1 : e = 0
  · subst k1
    by_cases k2 : ml ≤ 6
    · have ho1 : (twoW a b).opens = true := by rw [O1]; simp [k2]
      have d1 : decide (6 < ml) = false := decide_eq_false (by omega)
      rw [ho1] at ho
      obtain ⟨q, G, rfl, hP, hG⟩ := ho.elim (fun h => by cases h.1) (fun h => h.2)
      have HPP := Lib.hid hP
      have HM := Lib.hid hM
      clear hM hP hG ho O1 O2
      go_wp2_with fail
      refine region_q (C := fun w' => Below w9.heap.size w9 w') (by kernel_rfl) (by kernel_rfl) (Below.refl _ w9).drew ?_
      have MC : ∀ wS, Below w9.heap.size w9 wS → Calls Try.prog 11 #[.pointer (some ⟨q, 0, none⟩)] wS fun e w' => e = .returned (.agg #[.int .i64 mt, .int .i64 mr, .int .i64 mf, .int .i64 mp, .int .i64 ml]) ∧ Below w9.heap.size w9 w' := fun wS hS => by
        have := P.meta_ wS q p _ G (P.touch HPP.out (Touch.ofBelow hS) (by simp))
        rw [OM] at this
        exact this.mono fun _ _ ⟨e, hb⟩ => ⟨e, hS.trans (hb.mono hS.size)⟩
      have MC := Lib.hid MC
      have K : ∀ wS, Below w9.heap.size w9 wS → wS.cell? ⟨w7.heap.size, 0, none⟩ = some (.int .i64 mt) ∧ wS.cell? ⟨w7.heap.size, 1, none⟩ = some (.int .i64 mr) ∧ wS.cell? ⟨w7.heap.size, 2, none⟩ = some (.int .i64 mf) ∧ wS.cell? ⟨w7.heap.size, 3, none⟩ = some (.int .i64 mp) ∧ wS.cell? ⟨w7.heap.size, 4, none⟩ = some (.int .i64 ml) := fun wS hS => by
        have h := HM.out.touch (Touch.ofBelow hS) (by simp)
        exact ⟨h.cell 0, h.cell 1, h.cell 2, h.cell 3, h.cell 4⟩
      have K := Lib.hid K
      refine q_op (.int .i64 0) rfl (fun wS hSw => by go_simp; try with_reducible rfl) ?_
      simp only [Act.put, List.setIfInBounds_toArray, List.set_cons_zero, List.set_cons_succ]
      refine q_op (.bool true) rfl (fun wS hSw => by go_simp; try with_reducible rfl) ?_
      simp only [Act.put, List.setIfInBounds_toArray, List.set_cons_zero, List.set_cons_succ]
      refine q_op (.bool true) rfl (fun wS hSw => by go_simp; try with_reducible rfl) ?_
      simp only [Act.put, List.setIfInBounds_toArray, List.set_cons_zero, List.set_cons_succ]
      refine q_opw (.pointer (some ⟨q, 0, none⟩)) (by rfl) (fun wS hSw => by go_simp; try with_reducible rfl) ?_
      simp only [Act.put, List.setIfInBounds_toArray, List.set_cons_zero, List.set_cons_succ]
      refine q_call1w (.agg #[.int .i64 mt, .int .i64 mr, .int .i64 mf, .int .i64 mp, .int .i64 ml]) (by rfl) 11 _ _ rfl (.pointer (some ⟨q, 0, none⟩)) (by rfl) E11 (fun wS hSw => MC.out wS hSw) ?_
      simp only [Act.put, List.setIfInBounds_toArray, List.set_cons_zero, List.set_cons_succ]
      refine q_opw (.agg #[.int .i64 mt, .int .i64 mr, .int .i64 mf, .int .i64 mp, .int .i64 ml]) (by rfl) (fun wS hSw => by obtain ⟨k0, k1, k2, k3, k4⟩ := K.out wS hSw; go_simp; try with_reducible rfl) ?_
      simp only [Act.put, List.setIfInBounds_toArray, List.set_cons_zero, List.set_cons_succ]
      refine q_opw (.bool true) (by rfl) (fun wS hSw => by go_simp; try with_reducible rfl) ?_
      simp only [Act.put, List.setIfInBounds_toArray, List.set_cons_zero, List.set_cons_succ]
      refine q_op (.bool true) rfl (fun wS hSw => by go_simp; try with_reducible rfl) ?_
      simp only [Act.put, List.setIfInBounds_toArray, List.set_cons_zero, List.set_cons_succ]
      refine q_op (.bool true) rfl (fun wS hSw => by go_simp; try with_reducible rfl) ?_
      simp only [Act.put, List.setIfInBounds_toArray, List.set_cons_zero, List.set_cons_succ]
      refine wpQuiet_nil ?_
      intro wA hA
      go_wp2
      go_ret
      exact ⟨rfl, HB9.out.trans (hA.mono HB9.out.size)⟩
    · have ho1 : (twoW a b).opens = false := by rw [O1]; simp [k2]
      have d1 : decide (6 < ml) = true := decide_eq_true (by omega)
      rw [ho1] at ho O2
      obtain ⟨-, rfl⟩ := ho.elim id (fun h => by cases h.1)
      rw [O2]
      clear hM ho O1 O2 k2
      go_wp2
      go_ret
      exact ⟨rfl, HB9.out⟩
  · have ho1 : (twoW a b).opens = false := by rw [O1]; simp [k1]
    have d1 : (e != 0) = true := by simp [k1]
    rw [ho1] at ho O2
    obtain ⟨-, rfl⟩ := ho.elim id (fun h => by cases h.1)
    rw [O2]
    clear hM ho O1 O2 k1
    go_wp2
    go_ret
    exact ⟨rfl, HB9.out⟩
end Go.Proofs.Ytjgmlpfallakmaa
