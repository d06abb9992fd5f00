/-
  P4.1 (a meta that may be has its bytes, and is read from them as it was), of any functions that answer as the list says: the statement's function returns true at every meta and text. No conditions but those typed.
-/
import Derived.Test.YtnhnfabgofncaaaPagePacksW
namespace Go.Proofs.Ytnhnfabgofncaaa
open Go.RowKit
theorem unpackM_pack (m : MV) (h : m.right = true) : unpackM m.packS = m ∧ unpackME m.packS = 0 ∧ m.packS.size = 128 := by
  obtain ⟨h1, h2⟩ := m.right_me h
  have hp : m.packS = ba (Page.packedM m.me) := by unfold MV.packS; rw [h]; rfl
  have hs : m.packS.data.toList = Page.packedM m.me := by rw [hp]; exact data_ba _
  unfold unpackM unpackME
  rw [hs, Page.readM_packed _ h1]
  exact ⟨h2, rfl, by rw [hp, ba_size, Page.packedM_length]⟩
set_option maxRecDepth 8000 in
set_option maxHeartbeats 3200000 in
theorem metas_any (K : PageKit 11 9 13 21 17 18 23) (w : World) (m : MV) (s : ByteArray) : Calls Try.prog 6 #[m.val, .string s] w fun e w' => e = .returned (.bool true) ∧ Below w.heap.size w w' := by
  have AW := fun w => Lib.hid (pawake_ok K w)
  by_cases hb : 2000 < s.size
  · have d1 : decide ((2000 : Int) < (s.size : Int)) = true := decide_eq_true (by omega)
    obtain ⟨mt, mr, mf, mp, ml⟩ := m
    unfold MV.val
    simp only
    clear hb
    go_enter Try.func6, Try.ntmps6
    go_wp2_with fail
    refine (AW _).out.mono ?_
    rintro _ w1 ⟨rfl, hb1⟩
    obtain ⟨l1, hb1', _⟩ := kept5 hb1
    go_wp2
    go_ret
    exact ⟨rfl, hb1'⟩
  have d1 : decide ((2000 : Int) < (s.size : Int)) = false := decide_eq_false (by omega)
  have UC := fun w => K.unpackM w s (by omega)
  have RC := fun w => refPage.unpackM w s (by omega)
  have PC := fun w => K.packM w m
  have QC := fun w => refPage.packM w m
  have RM := fun w => K.rightM w m
  have TM := fun w => refPage.rightM w m
  have VC := fun w => K.unpackM w m.packS (by have := m.packS_size; omega)
  have HUP := Lib.hid (unpackM_pack m)
  have HNE : Hid (m.right = false → m.packS = ⟨#[]⟩ ∧ m.packE = 4) := Lib.hid (fun h => by unfold MV.packS MV.packE; rw [h]; exact ⟨rfl, rfl⟩)
  have HYE : Hid (m.right = true → m.packE = 0) := Lib.hid (fun h => by unfold MV.packE; rw [h]; rfl)
  obtain ⟨S, hS⟩ : ∃ S, m.packS = S := ⟨_, rfl⟩
  obtain ⟨e, he⟩ : ∃ e, m.packE = e := ⟨_, rfl⟩
  obtain ⟨r, hr⟩ : ∃ r, m.right = r := ⟨_, rfl⟩
  obtain ⟨⟨xt, xr, xf, xp, xl⟩, hx⟩ : ∃ x, unpackM s = x := ⟨_, rfl⟩
  obtain ⟨f, hf⟩ : ∃ f, unpackME s = f := ⟨_, rfl⟩
  simp only [hx, hf, MV.val] at UC RC
  simp only [hS, he] at PC QC
  simp only [hr] at RM TM
  rw [hS] at VC
  rw [hS, he, hr] at HNE
  rw [he, hr] at HYE
  rw [hS, hr] at HUP
  obtain ⟨mt, mr, mf, mp, ml⟩ := m
  unfold MV.val at PC QC RM TM ⊢
  simp only at PC QC RM TM ⊢
  have UC := fun w => Lib.hid (UC w)
  have RC := fun w => Lib.hid (RC w)
  have PC := fun w => Lib.hid (PC w)
  have QC := fun w => Lib.hid (QC w)
  have RM := Lib.hid RM
  have TM := Lib.hid TM
  have E21 := func_enters Try.func21 (by kernel_rfl) rfl
  have E22 := func_enters Try.func22 (by kernel_rfl) rfl
  obtain ⟨w1, hw1⟩ : ∃ w1, w.alloc (.cells #[.int .i64 mt, .int .i64 mr, .int .i64 mf, .int .i64 mp, .int .i64 ml] 33) = w1 := ⟨_, rfl⟩
  have hbl : Below w.heap.size w w1 := by rw [← hw1]; exact (Below.refl _ w).alloc (Nat.le_refl _) _
  have hsz : w1.heap.size = w.heap.size + 1 := by rw [← hw1]; simp
  have hnew : Blk w1 w.heap.size #[.int .i64 mt, .int .i64 mr, .int .i64 mf, .int .i64 mp, .int .i64 ml] 33 := by rw [← hw1]; exact heap_alloc_new w _
  clear hb hS he hr hx hf
  have q0 : (S.toList == S.toList) = true := by simp
  have q3 : (r == r) = true := by simp
  by_cases hrr : r = false
  · obtain ⟨z1, z2⟩ := HNE.out hrr
    have q1 : (e == 0) = false := by rw [z2]; rfl
    have q2 : S.toList.isEmpty = true := by rw [z1, ByteArray.toList_eq]; rfl
    clear VC HUP HNE HYE z1 z2 hrr
    go_enter Try.func6, Try.ntmps6
    go_wp2_with fail
    refine (AW _).out.mono ?_
    rintro _ w2 ⟨rfl, hb2⟩
    go_wp2_with fail
    refine (UC _).out.mono ?_
    rintro _ w3 ⟨rfl, hb3⟩
    go_wp2_with fail
    refine (RC _).out.mono ?_
    rintro _ w4 ⟨rfl, hb4⟩
    obtain ⟨l34, b34, _⟩ := kept5 hb4
    have A4 : Blk w4 w3.heap.size #[.int .i64 xt, .int .i64 xr, .int .i64 xf, .int .i64 xp, .int .i64 xl] 33 := (hb4.block _ (by simp)).trans (heap_alloc_new w3 _)
    have B3 := hb2.trans (hb3.mono hb2.size)
    have B4 := B3.trans (b34.mono B3.size)
    have M4 : Blk w4 w.heap.size #[.int .i64 mt, .int .i64 mr, .int .i64 mf, .int .i64 mp, .int .i64 ml] 33 := (B4.block _ (by omega)).trans hnew
    obtain ⟨w4a, hw4a⟩ : ∃ w4a, w4.alloc (.cells #[.int .i64 xt, .int .i64 xr, .int .i64 xf, .int .i64 xp, .int .i64 xl] 33) = w4a := ⟨_, rfl⟩
    have M4a : Blk w4a w.heap.size #[.int .i64 mt, .int .i64 mr, .int .i64 mf, .int .i64 mp, .int .i64 ml] 33 := by rw [← hw4a]; exact M4.alloc _
    have A4a : Blk w4a w3.heap.size #[.int .i64 xt, .int .i64 xr, .int .i64 xf, .int .i64 xp, .int .i64 xl] 33 := by rw [← hw4a]; exact A4.alloc _
    have X4a : Blk w4a w4.heap.size #[.int .i64 xt, .int .i64 xr, .int .i64 xf, .int .i64 xp, .int .i64 xl] 33 := by rw [← hw4a]; exact heap_alloc_new w4 _
    have B4a : Below w1.heap.size w1 w4a := by rw [← hw4a]; exact B4.alloc B4.size _
    have c0 : w4a.cell? ⟨w.heap.size, 0, none⟩ = some (.int .i64 mt) := (M4a).cell 0
    have c1 : w4a.cell? ⟨w.heap.size, 1, none⟩ = some (.int .i64 mr) := (M4a).cell 1
    have c2 : w4a.cell? ⟨w.heap.size, 2, none⟩ = some (.int .i64 mf) := (M4a).cell 2
    have c3 : w4a.cell? ⟨w.heap.size, 3, none⟩ = some (.int .i64 mp) := (M4a).cell 3
    have c4 : w4a.cell? ⟨w.heap.size, 4, none⟩ = some (.int .i64 ml) := (M4a).cell 4
    go_wp2_with fail
    refine (PC _).out.mono ?_
    rintro _ w5 ⟨rfl, hb5⟩
    have M5 : Blk w5 w.heap.size #[.int .i64 mt, .int .i64 mr, .int .i64 mf, .int .i64 mp, .int .i64 ml] 33 := (hb5.block _ M4a.lt).trans M4a
    clear c0 c1 c2 c3 c4
    have c0 : w5.cell? ⟨w.heap.size, 0, none⟩ = some (.int .i64 mt) := (M5).cell 0
    have c1 : w5.cell? ⟨w.heap.size, 1, none⟩ = some (.int .i64 mr) := (M5).cell 1
    have c2 : w5.cell? ⟨w.heap.size, 2, none⟩ = some (.int .i64 mf) := (M5).cell 2
    have c3 : w5.cell? ⟨w.heap.size, 3, none⟩ = some (.int .i64 mp) := (M5).cell 3
    have c4 : w5.cell? ⟨w.heap.size, 4, none⟩ = some (.int .i64 ml) := (M5).cell 4
    go_wp2_with fail
    refine (QC _).out.mono ?_
    rintro _ w6 ⟨rfl, hb6⟩
    have B6a := hb5.trans (hb6.mono hb5.size)
    have B6 := B4a.trans (B6a.mono B4a.size)
    have M6 : Blk w6 w.heap.size #[.int .i64 mt, .int .i64 mr, .int .i64 mf, .int .i64 mp, .int .i64 ml] 33 := (B6a.block _ M4a.lt).trans M4a
    have A6 : Blk w6 w3.heap.size #[.int .i64 xt, .int .i64 xr, .int .i64 xf, .int .i64 xp, .int .i64 xl] 33 := (B6a.block _ A4a.lt).trans A4a
    have X6 : Blk w6 w4.heap.size #[.int .i64 xt, .int .i64 xr, .int .i64 xf, .int .i64 xp, .int .i64 xl] 33 := (B6a.block _ X4a.lt).trans X4a
    have KMc : ∀ wS, Below w6.heap.size w6 wS → Blk wS w.heap.size #[.int .i64 mt, .int .i64 mr, .int .i64 mf, .int .i64 mp, .int .i64 ml] 33 := fun wS h => (h.block _ M6.lt).trans M6
    have KAc : ∀ wS, Below w6.heap.size w6 wS → Blk wS w3.heap.size #[.int .i64 xt, .int .i64 xr, .int .i64 xf, .int .i64 xp, .int .i64 xl] 33 := fun wS h => (h.block _ A6.lt).trans A6
    have KBc : ∀ wS, Below w6.heap.size w6 wS → Blk wS w4.heap.size #[.int .i64 xt, .int .i64 xr, .int .i64 xf, .int .i64 xp, .int .i64 xl] 33 := fun wS h => (h.block _ X6.lt).trans X6
    have KM0 : ∀ wS, Below w6.heap.size w6 wS → wS.cell? ⟨w.heap.size, 0, none⟩ = some (.int .i64 mt) := fun wS h => (KMc wS h).cell 0
    have KM1 : ∀ wS, Below w6.heap.size w6 wS → wS.cell? ⟨w.heap.size, 1, none⟩ = some (.int .i64 mr) := fun wS h => (KMc wS h).cell 1
    have KM2 : ∀ wS, Below w6.heap.size w6 wS → wS.cell? ⟨w.heap.size, 2, none⟩ = some (.int .i64 mf) := fun wS h => (KMc wS h).cell 2
    have KM3 : ∀ wS, Below w6.heap.size w6 wS → wS.cell? ⟨w.heap.size, 3, none⟩ = some (.int .i64 mp) := fun wS h => (KMc wS h).cell 3
    have KM4 : ∀ wS, Below w6.heap.size w6 wS → wS.cell? ⟨w.heap.size, 4, none⟩ = some (.int .i64 ml) := fun wS h => (KMc wS h).cell 4
    have KA0 : ∀ wS, Below w6.heap.size w6 wS → wS.cell? ⟨w3.heap.size, 0, none⟩ = some (.int .i64 xt) := fun wS h => (KAc wS h).cell 0
    have KA1 : ∀ wS, Below w6.heap.size w6 wS → wS.cell? ⟨w3.heap.size, 1, none⟩ = some (.int .i64 xr) := fun wS h => (KAc wS h).cell 1
    have KA2 : ∀ wS, Below w6.heap.size w6 wS → wS.cell? ⟨w3.heap.size, 2, none⟩ = some (.int .i64 xf) := fun wS h => (KAc wS h).cell 2
    have KA3 : ∀ wS, Below w6.heap.size w6 wS → wS.cell? ⟨w3.heap.size, 3, none⟩ = some (.int .i64 xp) := fun wS h => (KAc wS h).cell 3
    have KA4 : ∀ wS, Below w6.heap.size w6 wS → wS.cell? ⟨w3.heap.size, 4, none⟩ = some (.int .i64 xl) := fun wS h => (KAc wS h).cell 4
    have KB0 : ∀ wS, Below w6.heap.size w6 wS → wS.cell? ⟨w4.heap.size, 0, none⟩ = some (.int .i64 xt) := fun wS h => (KBc wS h).cell 0
    have KB1 : ∀ wS, Below w6.heap.size w6 wS → wS.cell? ⟨w4.heap.size, 1, none⟩ = some (.int .i64 xr) := fun wS h => (KBc wS h).cell 1
    have KB2 : ∀ wS, Below w6.heap.size w6 wS → wS.cell? ⟨w4.heap.size, 2, none⟩ = some (.int .i64 xf) := fun wS h => (KBc wS h).cell 2
    have KB3 : ∀ wS, Below w6.heap.size w6 wS → wS.cell? ⟨w4.heap.size, 3, none⟩ = some (.int .i64 xp) := fun wS h => (KBc wS h).cell 3
    have KB4 : ∀ wS, Below w6.heap.size w6 wS → wS.cell? ⟨w4.heap.size, 4, none⟩ = some (.int .i64 xl) := fun wS h => (KBc wS h).cell 4
    have E21c : Hid (∀ wS, Below w6.heap.size w6 wS → Calls Try.prog 21 #[.agg #[.int .i64 mt, .int .i64 mr, .int .i64 mf, .int .i64 mp, .int .i64 ml]] wS fun e w' => e = .returned (.bool r) ∧ Below w6.heap.size w6 w') := Lib.hid (fun wS hS => (RM.out wS).mono fun _ _ ⟨e, hb⟩ => ⟨e, hS.trans (hb.mono hS.size)⟩)
    have E22c : Hid (∀ wS, Below w6.heap.size w6 wS → Calls Try.prog 22 #[.agg #[.int .i64 mt, .int .i64 mr, .int .i64 mf, .int .i64 mp, .int .i64 ml]] wS fun e w' => e = .returned (.bool r) ∧ Below w6.heap.size w6 w') := Lib.hid (fun wS hS => (TM.out wS).mono fun _ _ ⟨e, hb⟩ => ⟨e, hS.trans (hb.mono hS.size)⟩)
    have HB6 := Lib.hid B6
    have HM6 := Lib.hid M6
    clear c0 c1 c2 c3 c4 M4 A4 M4a A4a X4a B4a M5 B6a M6 A6 X6 KMc KAc KBc B3 B4 hb2 hb3 hb4 hb5 hb6 l34 b34 B6
    go_wp2_with fail
    refine region_q (C := fun w' => Below w6.heap.size w6 w') (by kernel_rfl) (by kernel_rfl) (Below.refl _ w6).drew ?_
    refine q_op (.agg #[.int .i64 xt, .int .i64 xr, .int .i64 xf, .int .i64 xp, .int .i64 xl]) rfl (fun wS hSw => by have k0 := KA0 wS hSw; have k1 := KA1 wS hSw; have k2 := KA2 wS hSw; have k3 := KA3 wS hSw; have k4 := KA4 wS hSw; go_simp; try with_reducible rfl) ?_
    simp only [Act.put, List.setIfInBounds_toArray, List.set_cons_zero, List.set_cons_succ]
    refine q_op (.agg #[.int .i64 xt, .int .i64 xr, .int .i64 xf, .int .i64 xp, .int .i64 xl]) rfl (fun wS hSw => by have k0 := KB0 wS hSw; have k1 := KB1 wS hSw; have k2 := KB2 wS hSw; have k3 := KB3 wS hSw; have k4 := KB4 wS hSw; go_simp; try with_reducible rfl) ?_
    simp only [Act.put, List.setIfInBounds_toArray, List.set_cons_zero, List.set_cons_succ]
    refine q_op (.bool false) rfl (fun wS hSw => by go_simp; try with_reducible rfl) ?_
    simp only [Act.put, List.setIfInBounds_toArray, List.set_cons_zero, List.set_cons_succ]
    refine q_op (.bool false) rfl (fun wS hSw => by go_simp; try with_reducible rfl) ?_
    simp only [Act.put, List.setIfInBounds_toArray, List.set_cons_zero, List.set_cons_succ]
    refine q_opw (.int .i64 f) (by rfl) (fun wS hSw => by go_simp; try with_reducible rfl) ?_
    simp only [Act.put, List.setIfInBounds_toArray, List.set_cons_zero, List.set_cons_succ]
    refine q_opw (.int .i64 f) (by rfl) (fun wS hSw => by go_simp; try with_reducible rfl) ?_
    simp only [Act.put, List.setIfInBounds_toArray, List.set_cons_zero, List.set_cons_succ]
    refine q_opw (.bool false) (by rfl) (fun wS hSw => by go_simp; try with_reducible rfl) ?_
    simp only [Act.put, List.setIfInBounds_toArray, List.set_cons_zero, List.set_cons_succ]
    refine q_op (.bool false) rfl (fun wS hSw => by go_simp; try with_reducible rfl) ?_
    simp only [Act.put, List.setIfInBounds_toArray, List.set_cons_zero, List.set_cons_succ]
    refine q_op (.bool false) rfl (fun wS hSw => by go_simp; try with_reducible rfl) ?_
    simp only [Act.put, List.setIfInBounds_toArray, List.set_cons_zero, List.set_cons_succ]
    refine q_opw (.string S) (by rfl) (fun wS hSw => by go_simp; try with_reducible rfl) ?_
    simp only [Act.put, List.setIfInBounds_toArray, List.set_cons_zero, List.set_cons_succ]
    refine q_opw (.string S) (by rfl) (fun wS hSw => by go_simp; try with_reducible rfl) ?_
    simp only [Act.put, List.setIfInBounds_toArray, List.set_cons_zero, List.set_cons_succ]
    refine q_opw (.bool false) (by rfl) (fun wS hSw => by go_simp; try with_reducible rfl) ?_
    simp only [Act.put, List.setIfInBounds_toArray, List.set_cons_zero, List.set_cons_succ]
    refine q_op (.bool false) rfl (fun wS hSw => by go_simp; try with_reducible rfl) ?_
    simp only [Act.put, List.setIfInBounds_toArray, List.set_cons_zero, List.set_cons_succ]
    refine q_op (.bool false) rfl (fun wS hSw => by go_simp; try with_reducible rfl) ?_
    simp only [Act.put, List.setIfInBounds_toArray, List.set_cons_zero, List.set_cons_succ]
    refine q_opw (.int .i64 e) (by rfl) (fun wS hSw => by go_simp; try with_reducible rfl) ?_
    simp only [Act.put, List.setIfInBounds_toArray, List.set_cons_zero, List.set_cons_succ]
    refine q_opw (.int .i64 e) (by rfl) (fun wS hSw => by go_simp; try with_reducible rfl) ?_
    simp only [Act.put, List.setIfInBounds_toArray, List.set_cons_zero, List.set_cons_succ]
    refine q_opw (.bool false) (by rfl) (fun wS hSw => by go_simp; try with_reducible rfl) ?_
    simp only [Act.put, List.setIfInBounds_toArray, List.set_cons_zero, List.set_cons_succ]
    refine q_op (.bool false) rfl (fun wS hSw => by go_simp; try with_reducible rfl) ?_
    simp only [Act.put, List.setIfInBounds_toArray, List.set_cons_zero, List.set_cons_succ]
    refine q_op (.bool false) rfl (fun wS hSw => by go_simp; try with_reducible rfl) ?_
    simp only [Act.put, List.setIfInBounds_toArray, List.set_cons_zero, List.set_cons_succ]
    refine q_opw (.agg #[.int .i64 mt, .int .i64 mr, .int .i64 mf, .int .i64 mp, .int .i64 ml]) (by rfl) (fun wS hSw => by have k0 := KM0 wS hSw; have k1 := KM1 wS hSw; have k2 := KM2 wS hSw; have k3 := KM3 wS hSw; have k4 := KM4 wS hSw; go_simp; try with_reducible rfl) ?_
    simp only [Act.put, List.setIfInBounds_toArray, List.set_cons_zero, List.set_cons_succ]
    refine q_call1w (.bool r) (by rfl) 21 _ _ rfl (.agg #[.int .i64 mt, .int .i64 mr, .int .i64 mf, .int .i64 mp, .int .i64 ml]) (by rfl) E21 (fun wS hSw => E21c.out wS hSw) ?_
    simp only [Act.put, List.setIfInBounds_toArray, List.set_cons_zero, List.set_cons_succ]
    refine q_opw (.agg #[.int .i64 mt, .int .i64 mr, .int .i64 mf, .int .i64 mp, .int .i64 ml]) (by rfl) (fun wS hSw => by have k0 := KM0 wS hSw; have k1 := KM1 wS hSw; have k2 := KM2 wS hSw; have k3 := KM3 wS hSw; have k4 := KM4 wS hSw; go_simp; try with_reducible rfl) ?_
    simp only [Act.put, List.setIfInBounds_toArray, List.set_cons_zero, List.set_cons_succ]
    refine q_call1w (.bool r) (by rfl) 22 _ _ rfl (.agg #[.int .i64 mt, .int .i64 mr, .int .i64 mf, .int .i64 mp, .int .i64 ml]) (by rfl) E22 (fun wS hSw => E22c.out wS hSw) ?_
    simp only [Act.put, List.setIfInBounds_toArray, List.set_cons_zero, List.set_cons_succ]
    refine q_opw (.bool false) (by rfl) (fun wS hSw => by go_simp; try with_reducible rfl) ?_
    simp only [Act.put, List.setIfInBounds_toArray, List.set_cons_zero, List.set_cons_succ]
    refine q_op (.bool false) rfl (fun wS hSw => by go_simp; try with_reducible rfl) ?_
    simp only [Act.put, List.setIfInBounds_toArray, List.set_cons_zero, List.set_cons_succ]
    refine wpQuiet_nil ?_
    intro w7 hw7
    clear KA0 KA1 KA2 KA3 KA4 KB0 KB1 KB2 KB3 KB4 KM0 KM1 KM2 KM3 KM4
    go_wp2
    go_ret
    exact ⟨rfl, hbl.trans ((HB6.out.trans (hw7.mono HB6.out.size)).mono (by omega))⟩
  · have hrt : r = true := by simpa using hrr
    have q1 : (e == 0) = true := by rw [HYE.out hrt]; rfl
    obtain ⟨u1, u2, u3⟩ := HUP.out hrt
    rw [u1, u2] at VC
    unfold MV.val at VC
    simp only at VC
    have VC := fun w => Lib.hid (VC w)
    have q4 : ((S.size : Int) == 128) = true := by rw [u3]; rfl
    clear HUP HNE HYE u1 u2 u3 hrt hrr
    go_enter Try.func6, Try.ntmps6
    go_wp2_with fail
    refine (AW _).out.mono ?_
    rintro _ w2 ⟨rfl, hb2⟩
    go_wp2_with fail
    refine (UC _).out.mono ?_
    rintro _ w3 ⟨rfl, hb3⟩
    go_wp2_with fail
    refine (RC _).out.mono ?_
    rintro _ w4 ⟨rfl, hb4⟩
    obtain ⟨l34, b34, _⟩ := kept5 hb4
    have A4 : Blk w4 w3.heap.size #[.int .i64 xt, .int .i64 xr, .int .i64 xf, .int .i64 xp, .int .i64 xl] 33 := (hb4.block _ (by simp)).trans (heap_alloc_new w3 _)
    have B3 := hb2.trans (hb3.mono hb2.size)
    have B4 := B3.trans (b34.mono B3.size)
    have M4 : Blk w4 w.heap.size #[.int .i64 mt, .int .i64 mr, .int .i64 mf, .int .i64 mp, .int .i64 ml] 33 := (B4.block _ (by omega)).trans hnew
    obtain ⟨w4a, hw4a⟩ : ∃ w4a, w4.alloc (.cells #[.int .i64 xt, .int .i64 xr, .int .i64 xf, .int .i64 xp, .int .i64 xl] 33) = w4a := ⟨_, rfl⟩
    have M4a : Blk w4a w.heap.size #[.int .i64 mt, .int .i64 mr, .int .i64 mf, .int .i64 mp, .int .i64 ml] 33 := by rw [← hw4a]; exact M4.alloc _
    have A4a : Blk w4a w3.heap.size #[.int .i64 xt, .int .i64 xr, .int .i64 xf, .int .i64 xp, .int .i64 xl] 33 := by rw [← hw4a]; exact A4.alloc _
    have X4a : Blk w4a w4.heap.size #[.int .i64 xt, .int .i64 xr, .int .i64 xf, .int .i64 xp, .int .i64 xl] 33 := by rw [← hw4a]; exact heap_alloc_new w4 _
    have B4a : Below w1.heap.size w1 w4a := by rw [← hw4a]; exact B4.alloc B4.size _
    have c0 : w4a.cell? ⟨w.heap.size, 0, none⟩ = some (.int .i64 mt) := (M4a).cell 0
    have c1 : w4a.cell? ⟨w.heap.size, 1, none⟩ = some (.int .i64 mr) := (M4a).cell 1
    have c2 : w4a.cell? ⟨w.heap.size, 2, none⟩ = some (.int .i64 mf) := (M4a).cell 2
    have c3 : w4a.cell? ⟨w.heap.size, 3, none⟩ = some (.int .i64 mp) := (M4a).cell 3
    have c4 : w4a.cell? ⟨w.heap.size, 4, none⟩ = some (.int .i64 ml) := (M4a).cell 4
    go_wp2_with fail
    refine (PC _).out.mono ?_
    rintro _ w5 ⟨rfl, hb5⟩
    have M5 : Blk w5 w.heap.size #[.int .i64 mt, .int .i64 mr, .int .i64 mf, .int .i64 mp, .int .i64 ml] 33 := (hb5.block _ M4a.lt).trans M4a
    clear c0 c1 c2 c3 c4
    have c0 : w5.cell? ⟨w.heap.size, 0, none⟩ = some (.int .i64 mt) := (M5).cell 0
    have c1 : w5.cell? ⟨w.heap.size, 1, none⟩ = some (.int .i64 mr) := (M5).cell 1
    have c2 : w5.cell? ⟨w.heap.size, 2, none⟩ = some (.int .i64 mf) := (M5).cell 2
    have c3 : w5.cell? ⟨w.heap.size, 3, none⟩ = some (.int .i64 mp) := (M5).cell 3
    have c4 : w5.cell? ⟨w.heap.size, 4, none⟩ = some (.int .i64 ml) := (M5).cell 4
    go_wp2_with fail
    refine (QC _).out.mono ?_
    rintro _ w6 ⟨rfl, hb6⟩
    have B6a := hb5.trans (hb6.mono hb5.size)
    have B6 := B4a.trans (B6a.mono B4a.size)
    have M6 : Blk w6 w.heap.size #[.int .i64 mt, .int .i64 mr, .int .i64 mf, .int .i64 mp, .int .i64 ml] 33 := (B6a.block _ M4a.lt).trans M4a
    have A6 : Blk w6 w3.heap.size #[.int .i64 xt, .int .i64 xr, .int .i64 xf, .int .i64 xp, .int .i64 xl] 33 := (B6a.block _ A4a.lt).trans A4a
    have X6 : Blk w6 w4.heap.size #[.int .i64 xt, .int .i64 xr, .int .i64 xf, .int .i64 xp, .int .i64 xl] 33 := (B6a.block _ X4a.lt).trans X4a
    have KMc : ∀ wS, Below w6.heap.size w6 wS → Blk wS w.heap.size #[.int .i64 mt, .int .i64 mr, .int .i64 mf, .int .i64 mp, .int .i64 ml] 33 := fun wS h => (h.block _ M6.lt).trans M6
    have KAc : ∀ wS, Below w6.heap.size w6 wS → Blk wS w3.heap.size #[.int .i64 xt, .int .i64 xr, .int .i64 xf, .int .i64 xp, .int .i64 xl] 33 := fun wS h => (h.block _ A6.lt).trans A6
    have KBc : ∀ wS, Below w6.heap.size w6 wS → Blk wS w4.heap.size #[.int .i64 xt, .int .i64 xr, .int .i64 xf, .int .i64 xp, .int .i64 xl] 33 := fun wS h => (h.block _ X6.lt).trans X6
    have KM0 : ∀ wS, Below w6.heap.size w6 wS → wS.cell? ⟨w.heap.size, 0, none⟩ = some (.int .i64 mt) := fun wS h => (KMc wS h).cell 0
    have KM1 : ∀ wS, Below w6.heap.size w6 wS → wS.cell? ⟨w.heap.size, 1, none⟩ = some (.int .i64 mr) := fun wS h => (KMc wS h).cell 1
    have KM2 : ∀ wS, Below w6.heap.size w6 wS → wS.cell? ⟨w.heap.size, 2, none⟩ = some (.int .i64 mf) := fun wS h => (KMc wS h).cell 2
    have KM3 : ∀ wS, Below w6.heap.size w6 wS → wS.cell? ⟨w.heap.size, 3, none⟩ = some (.int .i64 mp) := fun wS h => (KMc wS h).cell 3
    have KM4 : ∀ wS, Below w6.heap.size w6 wS → wS.cell? ⟨w.heap.size, 4, none⟩ = some (.int .i64 ml) := fun wS h => (KMc wS h).cell 4
    have KA0 : ∀ wS, Below w6.heap.size w6 wS → wS.cell? ⟨w3.heap.size, 0, none⟩ = some (.int .i64 xt) := fun wS h => (KAc wS h).cell 0
    have KA1 : ∀ wS, Below w6.heap.size w6 wS → wS.cell? ⟨w3.heap.size, 1, none⟩ = some (.int .i64 xr) := fun wS h => (KAc wS h).cell 1
    have KA2 : ∀ wS, Below w6.heap.size w6 wS → wS.cell? ⟨w3.heap.size, 2, none⟩ = some (.int .i64 xf) := fun wS h => (KAc wS h).cell 2
    have KA3 : ∀ wS, Below w6.heap.size w6 wS → wS.cell? ⟨w3.heap.size, 3, none⟩ = some (.int .i64 xp) := fun wS h => (KAc wS h).cell 3
    have KA4 : ∀ wS, Below w6.heap.size w6 wS → wS.cell? ⟨w3.heap.size, 4, none⟩ = some (.int .i64 xl) := fun wS h => (KAc wS h).cell 4
    have KB0 : ∀ wS, Below w6.heap.size w6 wS → wS.cell? ⟨w4.heap.size, 0, none⟩ = some (.int .i64 xt) := fun wS h => (KBc wS h).cell 0
    have KB1 : ∀ wS, Below w6.heap.size w6 wS → wS.cell? ⟨w4.heap.size, 1, none⟩ = some (.int .i64 xr) := fun wS h => (KBc wS h).cell 1
    have KB2 : ∀ wS, Below w6.heap.size w6 wS → wS.cell? ⟨w4.heap.size, 2, none⟩ = some (.int .i64 xf) := fun wS h => (KBc wS h).cell 2
    have KB3 : ∀ wS, Below w6.heap.size w6 wS → wS.cell? ⟨w4.heap.size, 3, none⟩ = some (.int .i64 xp) := fun wS h => (KBc wS h).cell 3
    have KB4 : ∀ wS, Below w6.heap.size w6 wS → wS.cell? ⟨w4.heap.size, 4, none⟩ = some (.int .i64 xl) := fun wS h => (KBc wS h).cell 4
    have E21c : Hid (∀ wS, Below w6.heap.size w6 wS → Calls Try.prog 21 #[.agg #[.int .i64 mt, .int .i64 mr, .int .i64 mf, .int .i64 mp, .int .i64 ml]] wS fun e w' => e = .returned (.bool r) ∧ Below w6.heap.size w6 w') := Lib.hid (fun wS hS => (RM.out wS).mono fun _ _ ⟨e, hb⟩ => ⟨e, hS.trans (hb.mono hS.size)⟩)
    have E22c : Hid (∀ wS, Below w6.heap.size w6 wS → Calls Try.prog 22 #[.agg #[.int .i64 mt, .int .i64 mr, .int .i64 mf, .int .i64 mp, .int .i64 ml]] wS fun e w' => e = .returned (.bool r) ∧ Below w6.heap.size w6 w') := Lib.hid (fun wS hS => (TM.out wS).mono fun _ _ ⟨e, hb⟩ => ⟨e, hS.trans (hb.mono hS.size)⟩)
    have HB6 := Lib.hid B6
    have HM6 := Lib.hid M6
    clear c0 c1 c2 c3 c4 M4 A4 M4a A4a X4a B4a M5 B6a M6 A6 X6 KMc KAc KBc B3 B4 hb2 hb3 hb4 hb5 hb6 l34 b34 B6
    go_wp2_with fail
    refine region_q (C := fun w' => Below w6.heap.size w6 w') (by kernel_rfl) (by kernel_rfl) (Below.refl _ w6).drew ?_
    refine q_op (.agg #[.int .i64 xt, .int .i64 xr, .int .i64 xf, .int .i64 xp, .int .i64 xl]) rfl (fun wS hSw => by have k0 := KA0 wS hSw; have k1 := KA1 wS hSw; have k2 := KA2 wS hSw; have k3 := KA3 wS hSw; have k4 := KA4 wS hSw; go_simp; try with_reducible rfl) ?_
    simp only [Act.put, List.setIfInBounds_toArray, List.set_cons_zero, List.set_cons_succ]
    refine q_op (.agg #[.int .i64 xt, .int .i64 xr, .int .i64 xf, .int .i64 xp, .int .i64 xl]) rfl (fun wS hSw => by have k0 := KB0 wS hSw; have k1 := KB1 wS hSw; have k2 := KB2 wS hSw; have k3 := KB3 wS hSw; have k4 := KB4 wS hSw; go_simp; try with_reducible rfl) ?_
    simp only [Act.put, List.setIfInBounds_toArray, List.set_cons_zero, List.set_cons_succ]
    refine q_op (.bool false) rfl (fun wS hSw => by go_simp; try with_reducible rfl) ?_
    simp only [Act.put, List.setIfInBounds_toArray, List.set_cons_zero, List.set_cons_succ]
    refine q_op (.bool false) rfl (fun wS hSw => by go_simp; try with_reducible rfl) ?_
    simp only [Act.put, List.setIfInBounds_toArray, List.set_cons_zero, List.set_cons_succ]
    refine q_opw (.int .i64 f) (by rfl) (fun wS hSw => by go_simp; try with_reducible rfl) ?_
    simp only [Act.put, List.setIfInBounds_toArray, List.set_cons_zero, List.set_cons_succ]
    refine q_opw (.int .i64 f) (by rfl) (fun wS hSw => by go_simp; try with_reducible rfl) ?_
    simp only [Act.put, List.setIfInBounds_toArray, List.set_cons_zero, List.set_cons_succ]
    refine q_opw (.bool false) (by rfl) (fun wS hSw => by go_simp; try with_reducible rfl) ?_
    simp only [Act.put, List.setIfInBounds_toArray, List.set_cons_zero, List.set_cons_succ]
    refine q_op (.bool false) rfl (fun wS hSw => by go_simp; try with_reducible rfl) ?_
    simp only [Act.put, List.setIfInBounds_toArray, List.set_cons_zero, List.set_cons_succ]
    refine q_op (.bool false) rfl (fun wS hSw => by go_simp; try with_reducible rfl) ?_
    simp only [Act.put, List.setIfInBounds_toArray, List.set_cons_zero, List.set_cons_succ]
    refine q_opw (.string S) (by rfl) (fun wS hSw => by go_simp; try with_reducible rfl) ?_
    simp only [Act.put, List.setIfInBounds_toArray, List.set_cons_zero, List.set_cons_succ]
    refine q_opw (.string S) (by rfl) (fun wS hSw => by go_simp; try with_reducible rfl) ?_
    simp only [Act.put, List.setIfInBounds_toArray, List.set_cons_zero, List.set_cons_succ]
    refine q_opw (.bool false) (by rfl) (fun wS hSw => by go_simp; try with_reducible rfl) ?_
    simp only [Act.put, List.setIfInBounds_toArray, List.set_cons_zero, List.set_cons_succ]
    refine q_op (.bool false) rfl (fun wS hSw => by go_simp; try with_reducible rfl) ?_
    simp only [Act.put, List.setIfInBounds_toArray, List.set_cons_zero, List.set_cons_succ]
    refine q_op (.bool false) rfl (fun wS hSw => by go_simp; try with_reducible rfl) ?_
    simp only [Act.put, List.setIfInBounds_toArray, List.set_cons_zero, List.set_cons_succ]
    refine q_opw (.int .i64 e) (by rfl) (fun wS hSw => by go_simp; try with_reducible rfl) ?_
    simp only [Act.put, List.setIfInBounds_toArray, List.set_cons_zero, List.set_cons_succ]
    refine q_opw (.int .i64 e) (by rfl) (fun wS hSw => by go_simp; try with_reducible rfl) ?_
    simp only [Act.put, List.setIfInBounds_toArray, List.set_cons_zero, List.set_cons_succ]
    refine q_opw (.bool false) (by rfl) (fun wS hSw => by go_simp; try with_reducible rfl) ?_
    simp only [Act.put, List.setIfInBounds_toArray, List.set_cons_zero, List.set_cons_succ]
    refine q_op (.bool false) rfl (fun wS hSw => by go_simp; try with_reducible rfl) ?_
    simp only [Act.put, List.setIfInBounds_toArray, List.set_cons_zero, List.set_cons_succ]
    refine q_op (.bool false) rfl (fun wS hSw => by go_simp; try with_reducible rfl) ?_
    simp only [Act.put, List.setIfInBounds_toArray, List.set_cons_zero, List.set_cons_succ]
    refine q_opw (.agg #[.int .i64 mt, .int .i64 mr, .int .i64 mf, .int .i64 mp, .int .i64 ml]) (by rfl) (fun wS hSw => by have k0 := KM0 wS hSw; have k1 := KM1 wS hSw; have k2 := KM2 wS hSw; have k3 := KM3 wS hSw; have k4 := KM4 wS hSw; go_simp; try with_reducible rfl) ?_
    simp only [Act.put, List.setIfInBounds_toArray, List.set_cons_zero, List.set_cons_succ]
    refine q_call1w (.bool r) (by rfl) 21 _ _ rfl (.agg #[.int .i64 mt, .int .i64 mr, .int .i64 mf, .int .i64 mp, .int .i64 ml]) (by rfl) E21 (fun wS hSw => E21c.out wS hSw) ?_
    simp only [Act.put, List.setIfInBounds_toArray, List.set_cons_zero, List.set_cons_succ]
    refine q_opw (.agg #[.int .i64 mt, .int .i64 mr, .int .i64 mf, .int .i64 mp, .int .i64 ml]) (by rfl) (fun wS hSw => by have k0 := KM0 wS hSw; have k1 := KM1 wS hSw; have k2 := KM2 wS hSw; have k3 := KM3 wS hSw; have k4 := KM4 wS hSw; go_simp; try with_reducible rfl) ?_
    simp only [Act.put, List.setIfInBounds_toArray, List.set_cons_zero, List.set_cons_succ]
    refine q_call1w (.bool r) (by rfl) 22 _ _ rfl (.agg #[.int .i64 mt, .int .i64 mr, .int .i64 mf, .int .i64 mp, .int .i64 ml]) (by rfl) E22 (fun wS hSw => E22c.out wS hSw) ?_
    simp only [Act.put, List.setIfInBounds_toArray, List.set_cons_zero, List.set_cons_succ]
    refine q_opw (.bool false) (by rfl) (fun wS hSw => by go_simp; try with_reducible rfl) ?_
    simp only [Act.put, List.setIfInBounds_toArray, List.set_cons_zero, List.set_cons_succ]
    refine q_op (.bool false) rfl (fun wS hSw => by go_simp; try with_reducible rfl) ?_
    simp only [Act.put, List.setIfInBounds_toArray, List.set_cons_zero, List.set_cons_succ]
    refine wpQuiet_nil ?_
    intro w7 hw7
    clear KA0 KA1 KA2 KA3 KA4 KB0 KB1 KB2 KB3 KB4 KM0 KM1 KM2 KM3 KM4
    have M7 : Blk w7 w.heap.size #[.int .i64 mt, .int .i64 mr, .int .i64 mf, .int .i64 mp, .int .i64 ml] 33 := (hw7.block _ HM6.out.lt).trans HM6.out
    have B7 := HB6.out.trans (hw7.mono HB6.out.size)
    go_wp2_with fail
    refine (VC _).out.mono ?_
    rintro _ w8 ⟨rfl, hb8⟩
    have M8 : Blk w8 w.heap.size #[.int .i64 mt, .int .i64 mr, .int .i64 mf, .int .i64 mp, .int .i64 ml] 33 := (hb8.block _ M7.lt).trans M7
    have B8 := B7.trans (hb8.mono B7.size)
    have l8 := M8.lt
    have c0 : w8.cell? ⟨w.heap.size, 0, none⟩ = some (.int .i64 mt) := (M8).cell 0
    have c1 : w8.cell? ⟨w.heap.size, 1, none⟩ = some (.int .i64 mr) := (M8).cell 1
    have c2 : w8.cell? ⟨w.heap.size, 2, none⟩ = some (.int .i64 mf) := (M8).cell 2
    have c3 : w8.cell? ⟨w.heap.size, 3, none⟩ = some (.int .i64 mp) := (M8).cell 3
    have c4 : w8.cell? ⟨w.heap.size, 4, none⟩ = some (.int .i64 ml) := (M8).cell 4
    have HB8 := Lib.hid ((hbl.trans (B8.mono (by omega))).alloc (by omega) (.cells #[.int .i64 mt, .int .i64 mr, .int .i64 mf, .int .i64 mp, .int .i64 ml] 33))
    clear M7 M8 B7 B8 hb8
    go_wp2
    go_ret
    exact ⟨rfl, HB8.out⟩
end Go.Proofs.Ytnhnfabgofncaaa
