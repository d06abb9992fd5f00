/-
  Contract of the reference's UnpackMeta (rollbookref04). No conditions.
-/
import Derived.Test.YtnhnfabgofncaaaPagePackM
import Derived.Test.YtnhnfabgofncaaaPageUnpack
namespace Go.Proofs.Ytnhnfabgofncaaa
open Go.RowKit
theorem runpackM_not (s : ByteArray) (h : Page.readM s.data.toList = none) : unpackM s = MV.none ∧ unpackME s = 4 := by
  unfold unpackM unpackME
  rw [h]
  exact ⟨rfl, rfl⟩
set_option maxRecDepth 4000 in
set_option maxHeartbeats 1600000 in
theorem runpackM_ok (w : World) (s : ByteArray) : Calls Try.prog 19 #[.string s] w fun e w' => e = .returned (.tuple #[(unpackM s).val, .int .i64 (unpackME s)]) ∧ Below w.heap.size w w' := by
  have hbl : Below w.heap.size w (w.alloc (.cells #[.int .i64 0, .int .i64 0, .int .i64 0, .int .i64 0, .int .i64 0] 33)) := (Below.refl _ w).alloc (Nat.le_refl _) _
  have hz : ∀ w, (zeroValue 33).run Try.prog w = .ok (.agg #[.int .i64 0, .int .i64 0, .int .i64 0, .int .i64 0, .int .i64 0]) w := fun w => by kernel_rfl
  have N0 : Hid (MV.none.val = .agg #[.int .i64 0, .int .i64 0, .int .i64 0, .int .i64 0, .int .i64 0]) := Lib.hid rfl
  by_cases h5 : s.size = 128
  · obtain ⟨l, hl⟩ : ∃ l, s.data.toList = l := ⟨_, rfl⟩
    have hll : l.length = 128 := by rw [← hl, list_size, h5]
    have d0 : ((s.size : Int) != 128) = false := by rw [h5]; rfl
    have T1 := fun w => Lib.hid (rtake_ok s (by omega) 8 8 (by omega) (by omega) (by omega) w)
    have T2 := fun w => Lib.hid (rtake_ok s (by omega) 16 4 (by omega) (by omega) (by omega) w)
    have T3 := fun w => Lib.hid (rtake_ok s (by omega) 20 4 (by omega) (by omega) (by omega) w)
    have T4 := fun w => Lib.hid (rtake_ok s (by omega) 24 4 (by omega) (by omega) (by omega) w)
    have T5 := fun w => Lib.hid (rtake_ok s (by omega) 28 4 (by omega) (by omega) (by omega) w)
    rw [hl] at T1 T2 T3 T4 T5
    have f1 : beN ((l.drop 8).take 8) = Page.at_ l 8 8 := rfl
    simp only [f1] at T1
    have f2 : beN ((l.drop 16).take 4) = Page.at_ l 16 4 := rfl
    simp only [f2] at T2
    have f3 : beN ((l.drop 20).take 4) = Page.at_ l 20 4 := rfl
    simp only [f3] at T3
    have f4 : beN ((l.drop 24).take 4) = Page.at_ l 24 4 := rfl
    simp only [f4] at T4
    have f5 : beN ((l.drop 28).take 4) = Page.at_ l 28 4 := rfl
    simp only [f5] at T5
    have lt : ∀ a k, Page.at_ l a k < 2 ^ (8 * ((l.drop a).take k).length) := fun a k => beN_lt _
    have g2 : Page.at_ l 16 4 < 2 ^ 32 := by have := lt 16 4; rw [List.length_take, List.length_drop, hll] at this; exact this
    have g3 : Page.at_ l 20 4 < 2 ^ 32 := by have := lt 20 4; rw [List.length_take, List.length_drop, hll] at this; exact this
    have g4 : Page.at_ l 24 4 < 2 ^ 32 := by have := lt 24 4; rw [List.length_take, List.length_drop, hll] at this; exact this
    have g5 : Page.at_ l 28 4 < 2 ^ 32 := by have := lt 28 4; rw [List.length_take, List.length_drop, hll] at this; exact this
    have HF : Hid (Page.fieldsM l = ⟨Page.at_ l 8 8, Page.at_ l 16 4, Page.at_ l 20 4, Page.at_ l 24 4, Page.at_ l 28 4⟩) := Lib.hid rfl
    have HRD : Hid (Page.readM l = if l.length = 128 ∧ Page.at_ l 8 8 ≤ 1099511627776 ∧ Page.rightM (Page.fieldsM l) = true ∧ Page.packedM (Page.fieldsM l) = l then some (Page.fieldsM l) else none) := Lib.hid rfl
    obtain ⟨tn, htn⟩ : ∃ n, Page.at_ l 8 8 = n := ⟨_, rfl⟩
    rw [htn] at HF HRD
    simp only [htn] at T1
    obtain ⟨rn, hrn⟩ : ∃ n, Page.at_ l 16 4 = n := ⟨_, rfl⟩
    rw [hrn] at g2 HF
    simp only [hrn] at T2
    obtain ⟨fn, hfn⟩ : ∃ n, Page.at_ l 20 4 = n := ⟨_, rfl⟩
    rw [hfn] at g3 HF
    simp only [hfn] at T3
    obtain ⟨pn, hpn⟩ : ∃ n, Page.at_ l 24 4 = n := ⟨_, rfl⟩
    rw [hpn] at g4 HF
    simp only [hpn] at T4
    obtain ⟨ln, hln⟩ : ∃ n, Page.at_ l 28 4 = n := ⟨_, rfl⟩
    rw [hln] at g5 HF
    simp only [hln] at T5
    clear htn hrn hfn hpn hln f1 f2 f3 f4 f5 lt
    by_cases k2 : tn ≤ 1099511627776
    · have d2 : decide (1099511627776 < (tn : Int)) = false := decide_eq_false (by omega)
      have ctn : IntKind.i64.wrap (tn : Int) = tn := IntWalk.i64_in _ (by omega)
      have crn : IntKind.i64.wrap (rn : Int) = rn := IntWalk.i64_in _ (by omega)
      have cfn : IntKind.i64.wrap (fn : Int) = fn := IntWalk.i64_in _ (by omega)
      have cpn : IntKind.i64.wrap (pn : Int) = pn := IntWalk.i64_in _ (by omega)
      have cln : IntKind.i64.wrap (ln : Int) = ln := IntWalk.i64_in _ (by omega)
      have hp : (⟨tn, rn, fn, pn, ln⟩ : MV) = ofME (Page.fieldsM l) := by rw [HF.out]; rfl
      have hpr : (⟨tn, rn, fn, pn, ln⟩ : MV).right = Page.rightM (Page.fieldsM l) := by rw [hp, right_ofME]
      have hpp : (⟨tn, rn, fn, pn, ln⟩ : MV).me = Page.fieldsM l := by rw [hp, me_ofME]
      have PC := fun w => rpackM_ok w ⟨tn, rn, fn, pn, ln⟩
      unfold MV.val at PC
      simp only at PC
      by_cases k3 : Page.rightM (Page.fieldsM l) = true
      · have hE : (⟨tn, rn, fn, pn, ln⟩ : MV).packE = 0 := by unfold MV.packE; rw [hpr, k3]; rfl
        have hS : (⟨tn, rn, fn, pn, ln⟩ : MV).packS = ba (Page.packedM (Page.fieldsM l)) := by unfold MV.packS; rw [hpr, k3, hpp]; rfl
        rw [hE, hS] at PC
        by_cases k4 : Page.packedM (Page.fieldsM l) = l
        · rw [k4, ← hl, ba_data] at PC
          have PC := fun w => Lib.hid (PC w)
          have q1 : (s.toList == s.toList) = true := by simp
          have hrd : Page.readM l = some (Page.fieldsM l) := by rw [HRD.out, if_pos ⟨hll, k2, k3, k4⟩]
          have HU : Hid ((unpackM s).val = .agg #[.int .i64 tn, .int .i64 rn, .int .i64 fn, .int .i64 pn, .int .i64 ln] ∧ unpackME s = 0) := Lib.hid (by
            unfold unpackM unpackME; rw [hl, hrd]; exact ⟨by show (ofME (Page.fieldsM l)).val = _; rw [← hp]; rfl, rfl⟩)
          clear hp hpr hpp hE hS k4 k3 hrd hl hll HRD HF
          go_enter Try.func19, Try.ntmps19
          go_wp2_with fail
          refine (T1 _).out.mono ?_
          rintro _ _ ⟨rfl, rfl⟩
          go_wp2_with fail
          refine (T2 _).out.mono ?_
          rintro _ _ ⟨rfl, rfl⟩
          go_wp2_with fail
          refine (T3 _).out.mono ?_
          rintro _ _ ⟨rfl, rfl⟩
          go_wp2_with fail
          refine (T4 _).out.mono ?_
          rintro _ _ ⟨rfl, rfl⟩
          go_wp2_with fail
          refine (T5 _).out.mono ?_
          rintro _ _ ⟨rfl, rfl⟩
          go_wp2_with fail
          refine (PC _).out.mono ?_
          rintro _ w3 ⟨rfl, hb3⟩
          have hZ : Blk w3 w.heap.size #[.int .i64 0, .int .i64 0, .int .i64 0, .int .i64 0, .int .i64 0] 33 := (hb3.block _ (by simp; omega)).trans ((Below.heap_alloc _ _ _ (by simp)).trans (heap_alloc_new w _))
          have hP : Blk w3 (w.heap.size + 1) #[.int .i64 tn, .int .i64 rn, .int .i64 fn, .int .i64 pn, .int .i64 ln] 33 := (hb3.block _ (by simp)).trans (by have := heap_alloc_new (w.alloc (.cells #[.int .i64 0, .int .i64 0, .int .i64 0, .int .i64 0, .int .i64 0] 33)) (.cells #[.int .i64 tn, .int .i64 rn, .int .i64 fn, .int .i64 pn, .int .i64 ln] 33); simpa using this)
          have hB3 : Below w.heap.size w w3 := (hbl.alloc hbl.size (.cells #[.int .i64 tn, .int .i64 rn, .int .i64 fn, .int .i64 pn, .int .i64 ln] 33)).trans (hb3.mono (by simp; omega))
          have u0 : w3.cell? ⟨w.heap.size, 0, none⟩ = some (.int .i64 0) := hZ.cell 0
          have v0 : w3.cell? ⟨w.heap.size + 1, 0, none⟩ = some (.int .i64 tn) := hP.cell 0
          have m0 := hZ.free 0
          have u1 : w3.cell? ⟨w.heap.size, 1, none⟩ = some (.int .i64 0) := hZ.cell 1
          have v1 : w3.cell? ⟨w.heap.size + 1, 1, none⟩ = some (.int .i64 rn) := hP.cell 1
          have m1 := hZ.free 1
          have u2 : w3.cell? ⟨w.heap.size, 2, none⟩ = some (.int .i64 0) := hZ.cell 2
          have v2 : w3.cell? ⟨w.heap.size + 1, 2, none⟩ = some (.int .i64 fn) := hP.cell 2
          have m2 := hZ.free 2
          have u3 : w3.cell? ⟨w.heap.size, 3, none⟩ = some (.int .i64 0) := hZ.cell 3
          have v3 : w3.cell? ⟨w.heap.size + 1, 3, none⟩ = some (.int .i64 pn) := hP.cell 3
          have m3 := hZ.free 3
          have u4 : w3.cell? ⟨w.heap.size, 4, none⟩ = some (.int .i64 0) := hZ.cell 4
          have v4 : w3.cell? ⟨w.heap.size + 1, 4, none⟩ = some (.int .i64 ln) := hP.cell 4
          have m4 := hZ.free 4
          have hlt := hZ.lt
          have HZ := Lib.hid hZ
          have HB3 := Lib.hid hB3
          clear hZ hP hB3 hb3
          go_wp2
          refine bodyPost_ret (results_cell2 rfl _ _ w.heap.size 33 _ (0, 0) _ rfl (((((HZ.out.set 0 _).set 1 _).set 2 _).set 3 _).set 4 _) Try.underlying33 rfl (by kernel_rfl)) rfl ⟨?_, (((((HB3.out.setCell (p := ⟨w.heap.size, 0, none⟩) (Nat.le_refl _) _).setCell (p := ⟨w.heap.size, 1, none⟩) (Nat.le_refl _) _).setCell (p := ⟨w.heap.size, 2, none⟩) (Nat.le_refl _) _).setCell (p := ⟨w.heap.size, 3, none⟩) (Nat.le_refl _) _).setCell (p := ⟨w.heap.size, 4, none⟩) (Nat.le_refl _) _)⟩
          rw [HU.out.1, HU.out.2]
          rfl
        · have hne : ba (Page.packedM (Page.fieldsM l)) ≠ s := fun e => k4 (by rw [← data_ba (Page.packedM (Page.fieldsM l)), e, hl])
          obtain ⟨X, hX⟩ : ∃ X, ba (Page.packedM (Page.fieldsM l)) = X := ⟨_, rfl⟩
          rw [hX] at PC hne
          have PC := fun w => Lib.hid (PC w)
          have q1 : (X.toList == s.toList) = false := by
            rw [beq_eq_false_iff_ne]
            intro e
            rw [ByteArray.toList_eq, ByteArray.toList_eq] at e
            exact hne (ByteArray.ext (Array.ext' e))
          obtain ⟨U1, U2⟩ := runpackM_not s (by rw [hl, HRD.out, if_neg (fun e => k4 e.2.2.2)])
          have HU := Lib.hid (And.intro U1 U2)
          clear hp hpr hpp hE hS k4 k3 hl hll HRD HF U1 U2 hX hne
          go_enter Try.func19, Try.ntmps19
          go_wp2_with fail
          refine (T1 _).out.mono ?_
          rintro _ _ ⟨rfl, rfl⟩
          go_wp2_with fail
          refine (T2 _).out.mono ?_
          rintro _ _ ⟨rfl, rfl⟩
          go_wp2_with fail
          refine (T3 _).out.mono ?_
          rintro _ _ ⟨rfl, rfl⟩
          go_wp2_with fail
          refine (T4 _).out.mono ?_
          rintro _ _ ⟨rfl, rfl⟩
          go_wp2_with fail
          refine (T5 _).out.mono ?_
          rintro _ _ ⟨rfl, rfl⟩
          go_wp2_with fail
          refine (PC _).out.mono ?_
          rintro _ w3 ⟨rfl, hb3⟩
          have hZ : Blk w3 w.heap.size #[.int .i64 0, .int .i64 0, .int .i64 0, .int .i64 0, .int .i64 0] 33 := (hb3.block _ (by simp; omega)).trans ((Below.heap_alloc _ _ _ (by simp)).trans (heap_alloc_new w _))
          have hP : Blk w3 (w.heap.size + 1) #[.int .i64 tn, .int .i64 rn, .int .i64 fn, .int .i64 pn, .int .i64 ln] 33 := (hb3.block _ (by simp)).trans (by have := heap_alloc_new (w.alloc (.cells #[.int .i64 0, .int .i64 0, .int .i64 0, .int .i64 0, .int .i64 0] 33)) (.cells #[.int .i64 tn, .int .i64 rn, .int .i64 fn, .int .i64 pn, .int .i64 ln] 33); simpa using this)
          have hB3 : Below w.heap.size w w3 := (hbl.alloc hbl.size (.cells #[.int .i64 tn, .int .i64 rn, .int .i64 fn, .int .i64 pn, .int .i64 ln] 33)).trans (hb3.mono (by simp; omega))
          have u0 : w3.cell? ⟨w.heap.size, 0, none⟩ = some (.int .i64 0) := hZ.cell 0
          have v0 : w3.cell? ⟨w.heap.size + 1, 0, none⟩ = some (.int .i64 tn) := hP.cell 0
          have m0 := hZ.free 0
          have u1 : w3.cell? ⟨w.heap.size, 1, none⟩ = some (.int .i64 0) := hZ.cell 1
          have v1 : w3.cell? ⟨w.heap.size + 1, 1, none⟩ = some (.int .i64 rn) := hP.cell 1
          have m1 := hZ.free 1
          have u2 : w3.cell? ⟨w.heap.size, 2, none⟩ = some (.int .i64 0) := hZ.cell 2
          have v2 : w3.cell? ⟨w.heap.size + 1, 2, none⟩ = some (.int .i64 fn) := hP.cell 2
          have m2 := hZ.free 2
          have u3 : w3.cell? ⟨w.heap.size, 3, none⟩ = some (.int .i64 0) := hZ.cell 3
          have v3 : w3.cell? ⟨w.heap.size + 1, 3, none⟩ = some (.int .i64 pn) := hP.cell 3
          have m3 := hZ.free 3
          have u4 : w3.cell? ⟨w.heap.size, 4, none⟩ = some (.int .i64 0) := hZ.cell 4
          have v4 : w3.cell? ⟨w.heap.size + 1, 4, none⟩ = some (.int .i64 ln) := hP.cell 4
          have m4 := hZ.free 4
          have hlt := hZ.lt
          have HZ := Lib.hid hZ
          have HB3 := Lib.hid hB3
          clear hZ hP hB3 hb3
          go_wp2
          refine bodyPost_ret (results_cell2 rfl _ _ w.heap.size 33 _ (0, 0) _ rfl (((((HZ.out.set 0 _).set 1 _).set 2 _).set 3 _).set 4 _) Try.underlying33 rfl (by kernel_rfl)) rfl ⟨?_, (((((HB3.out.setCell (p := ⟨w.heap.size, 0, none⟩) (Nat.le_refl _) _).setCell (p := ⟨w.heap.size, 1, none⟩) (Nat.le_refl _) _).setCell (p := ⟨w.heap.size, 2, none⟩) (Nat.le_refl _) _).setCell (p := ⟨w.heap.size, 3, none⟩) (Nat.le_refl _) _).setCell (p := ⟨w.heap.size, 4, none⟩) (Nat.le_refl _) _)⟩
          rw [HU.out.1, HU.out.2, N0.out]
          rfl
      · have hE : (⟨tn, rn, fn, pn, ln⟩ : MV).packE = 4 := by unfold MV.packE; rw [hpr, if_neg k3]
        rw [hE] at PC
        obtain ⟨X, hX⟩ : ∃ X, (⟨tn, rn, fn, pn, ln⟩ : MV).packS = X := ⟨_, rfl⟩
        rw [hX] at PC
        have PC := fun w => Lib.hid (PC w)
        obtain ⟨U1, U2⟩ := runpackM_not s (by rw [hl, HRD.out, if_neg (fun e => k3 e.2.2.1)])
        have HU := Lib.hid (And.intro U1 U2)
        clear hp hpr hpp hE k3 hl hll HRD HF U1 U2 hX
        go_enter Try.func19, Try.ntmps19
        go_wp2_with fail
        refine (T1 _).out.mono ?_
        rintro _ _ ⟨rfl, rfl⟩
        go_wp2_with fail
        refine (T2 _).out.mono ?_
        rintro _ _ ⟨rfl, rfl⟩
        go_wp2_with fail
        refine (T3 _).out.mono ?_
        rintro _ _ ⟨rfl, rfl⟩
        go_wp2_with fail
        refine (T4 _).out.mono ?_
        rintro _ _ ⟨rfl, rfl⟩
        go_wp2_with fail
        refine (T5 _).out.mono ?_
        rintro _ _ ⟨rfl, rfl⟩
        go_wp2_with fail
        refine (PC _).out.mono ?_
        rintro _ w3 ⟨rfl, hb3⟩
        have hZ : Blk w3 w.heap.size #[.int .i64 0, .int .i64 0, .int .i64 0, .int .i64 0, .int .i64 0] 33 := (hb3.block _ (by simp; omega)).trans ((Below.heap_alloc _ _ _ (by simp)).trans (heap_alloc_new w _))
        have hP : Blk w3 (w.heap.size + 1) #[.int .i64 tn, .int .i64 rn, .int .i64 fn, .int .i64 pn, .int .i64 ln] 33 := (hb3.block _ (by simp)).trans (by have := heap_alloc_new (w.alloc (.cells #[.int .i64 0, .int .i64 0, .int .i64 0, .int .i64 0, .int .i64 0] 33)) (.cells #[.int .i64 tn, .int .i64 rn, .int .i64 fn, .int .i64 pn, .int .i64 ln] 33); simpa using this)
        have hB3 : Below w.heap.size w w3 := (hbl.alloc hbl.size (.cells #[.int .i64 tn, .int .i64 rn, .int .i64 fn, .int .i64 pn, .int .i64 ln] 33)).trans (hb3.mono (by simp; omega))
        have u0 : w3.cell? ⟨w.heap.size, 0, none⟩ = some (.int .i64 0) := hZ.cell 0
        have v0 : w3.cell? ⟨w.heap.size + 1, 0, none⟩ = some (.int .i64 tn) := hP.cell 0
        have m0 := hZ.free 0
        have u1 : w3.cell? ⟨w.heap.size, 1, none⟩ = some (.int .i64 0) := hZ.cell 1
        have v1 : w3.cell? ⟨w.heap.size + 1, 1, none⟩ = some (.int .i64 rn) := hP.cell 1
        have m1 := hZ.free 1
        have u2 : w3.cell? ⟨w.heap.size, 2, none⟩ = some (.int .i64 0) := hZ.cell 2
        have v2 : w3.cell? ⟨w.heap.size + 1, 2, none⟩ = some (.int .i64 fn) := hP.cell 2
        have m2 := hZ.free 2
        have u3 : w3.cell? ⟨w.heap.size, 3, none⟩ = some (.int .i64 0) := hZ.cell 3
        have v3 : w3.cell? ⟨w.heap.size + 1, 3, none⟩ = some (.int .i64 pn) := hP.cell 3
        have m3 := hZ.free 3
        have u4 : w3.cell? ⟨w.heap.size, 4, none⟩ = some (.int .i64 0) := hZ.cell 4
        have v4 : w3.cell? ⟨w.heap.size + 1, 4, none⟩ = some (.int .i64 ln) := hP.cell 4
        have m4 := hZ.free 4
        have hlt := hZ.lt
        have HZ := Lib.hid hZ
        have HB3 := Lib.hid hB3
        clear hZ hP hB3 hb3
        go_wp2
        refine bodyPost_ret (results_cell2 rfl _ _ w.heap.size 33 _ (0, 0) _ rfl (((((HZ.out.set 0 _).set 1 _).set 2 _).set 3 _).set 4 _) Try.underlying33 rfl (by kernel_rfl)) rfl ⟨?_, (((((HB3.out.setCell (p := ⟨w.heap.size, 0, none⟩) (Nat.le_refl _) _).setCell (p := ⟨w.heap.size, 1, none⟩) (Nat.le_refl _) _).setCell (p := ⟨w.heap.size, 2, none⟩) (Nat.le_refl _) _).setCell (p := ⟨w.heap.size, 3, none⟩) (Nat.le_refl _) _).setCell (p := ⟨w.heap.size, 4, none⟩) (Nat.le_refl _) _)⟩
        rw [HU.out.1, HU.out.2, N0.out]
        rfl
    · have d2 : decide (1099511627776 < (tn : Int)) = true := decide_eq_true (by omega)
      obtain ⟨U1, U2⟩ := runpackM_not s (by rw [hl, HRD.out, if_neg (fun e => k2 e.2.1)])
      have HU := Lib.hid (And.intro U1 U2)
      clear hl hll HRD HF U1 U2 k2
      go_enter Try.func19, Try.ntmps19
      go_wp2_with fail
      refine (T1 _).out.mono ?_
      rintro _ _ ⟨rfl, rfl⟩
      go_wp2_with fail
      refine (T2 _).out.mono ?_
      rintro _ _ ⟨rfl, rfl⟩
      go_wp2_with fail
      refine (T3 _).out.mono ?_
      rintro _ _ ⟨rfl, rfl⟩
      go_wp2_with fail
      refine (T4 _).out.mono ?_
      rintro _ _ ⟨rfl, rfl⟩
      go_wp2_with fail
      refine (T5 _).out.mono ?_
      rintro _ _ ⟨rfl, rfl⟩
      go_wp2
      refine bodyPost_ret (results_cell2 rfl _ _ w.heap.size 33 _ (0, 0) _ rfl (heap_alloc_new w _) Try.underlying33 rfl (by kernel_rfl)) rfl ⟨?_, hbl⟩
      rw [HU.out.1, HU.out.2, N0.out]
      rfl
  · have d0 : ((s.size : Int) != 128) = true := by simp; omega
    obtain ⟨U1, U2⟩ := runpackM_not s (Page.readM_long _ (by rw [list_size]; exact h5))
    have HU := Lib.hid (And.intro U1 U2)
    clear U1 U2 h5
    go_enter Try.func19, Try.ntmps19
    go_wp2
    refine bodyPost_ret (results_cell2 rfl _ _ w.heap.size 33 _ (0, 0) _ rfl (heap_alloc_new w _) Try.underlying33 rfl (by kernel_rfl)) rfl ⟨?_, hbl⟩
    rw [HU.out.1, HU.out.2, N0.out]
    rfl
end Go.Proofs.Ytnhnfabgofncaaa
