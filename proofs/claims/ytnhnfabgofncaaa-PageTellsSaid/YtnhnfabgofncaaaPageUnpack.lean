/-
  Contract of the reference's Unpack (rollbookref04). No conditions.
-/
import Derived.Test.YtnhnfabgofncaaaPagePack
import Derived.Test.YtnhnfabgofncaaaCellRes
import Derived.Test.YtnhnfabgofncaaaOwn
namespace Go.Proofs.Ytnhnfabgofncaaa
open Go.RowKit
theorem runpack_not (s : ByteArray) (h : Page.read s.data.toList = none) : unpackP s = PV.none ∧ unpackE s = 4 := by
  unfold unpackP unpackE
  rw [h]
  exact ⟨rfl, rfl⟩
theorem extract_ba (s : ByteArray) (a n : Nat) : s.extract a (a + n) = ba ((s.data.toList.drop a).take n) := by
  apply ByteArray.ext
  apply Array.ext'
  rw [data_ba]
  simp [ByteArray.data_extract]
theorem list_size (s : ByteArray) : s.data.toList.length = s.size := by rw [Array.length_toList]; rfl
set_option maxRecDepth 4000 in
set_option maxHeartbeats 1600000 in
theorem runpack_ok (w : World) (s : ByteArray) : Calls Try.prog 14 #[.string s] w fun e w' => e = .returned (.tuple #[(unpackP s).val, .int .i64 (unpackE s)]) ∧ Below w.heap.size w w' := by
  have hbl : Below w.heap.size w (w.alloc (.cells #[.int .i64 0, .int .i64 0, .int .i64 0, .string ⟨#[]⟩] 23)) := (Below.refl _ w).alloc (Nat.le_refl _) _
  have hz : ∀ w, (zeroValue 23).run Try.prog w = .ok (.agg #[.int .i64 0, .int .i64 0, .int .i64 0, .string ⟨#[]⟩]) w := fun w => by kernel_rfl
  have N0 : Hid (PV.none.val = .agg #[.int .i64 0, .int .i64 0, .int .i64 0, .string ⟨#[]⟩]) := Lib.hid rfl
  by_cases h5 : s.size = 512
  · obtain ⟨l, hl⟩ : ∃ l, s.data.toList = l := ⟨_, rfl⟩
    have hll : l.length = 512 := by rw [← hl, list_size, h5]
    have d0 : ((s.size : Int) != 512) = false := by rw [h5]; rfl
    have T1 := fun w => Lib.hid (rtake_ok s (by omega) 2 1 (by omega) (by omega) (by omega) w)
    have T2 := fun w => Lib.hid (rtake_ok s (by omega) 4 2 (by omega) (by omega) (by omega) w)
    have T3 := fun w => Lib.hid (rtake_ok s (by omega) 6 4 (by omega) (by omega) (by omega) w)
    have T4 := fun w => Lib.hid (rtake_ok s (by omega) 10 8 (by omega) (by omega) (by omega) w)
    rw [hl] at T1 T2 T3 T4
    have f1 : beN ((l.drop 2).take 1) = Page.at_ l 2 1 := rfl
    have f2 : beN ((l.drop 4).take 2) = Page.at_ l 4 2 := rfl
    have f3 : beN ((l.drop 6).take 4) = Page.at_ l 6 4 := rfl
    have f4 : beN ((l.drop 10).take 8) = Page.at_ l 10 8 := rfl
    simp only [f1] at T1
    simp only [f2] at T2
    simp only [f3] at T3
    simp only [f4] at T4
    have lt : ∀ a k, Page.at_ l a k < 2 ^ (8 * ((l.drop a).take k).length) := fun a k => beN_lt _
    have g1 : Page.at_ l 2 1 < 2 ^ 8 := by have := lt 2 1; rw [List.length_take, List.length_drop, hll] at this; exact this
    have g2 : Page.at_ l 4 2 < 2 ^ 16 := by have := lt 4 2; rw [List.length_take, List.length_drop, hll] at this; exact this
    have g3 : Page.at_ l 6 4 < 2 ^ 32 := by have := lt 6 4; rw [List.length_take, List.length_drop, hll] at this; exact this
    have HF : Hid (Page.fields l = ⟨Page.at_ l 2 1, Page.at_ l 6 4, Page.at_ l 10 8, (l.drop 24).take (Page.at_ l 4 2)⟩) := Lib.hid rfl
    have HRD : Hid (Page.read l = if l.length = 512 ∧ Page.at_ l 4 2 ≤ 488 ∧ Page.at_ l 10 8 ≤ 1099511627776 ∧ Page.right (Page.fields l) = true ∧ Page.packed (Page.fields l) = l then some (Page.fields l) else none) := Lib.hid rfl
    obtain ⟨kn, hkn⟩ : ∃ n, Page.at_ l 2 1 = n := ⟨_, rfl⟩
    obtain ⟨nn, hnn⟩ : ∃ n, Page.at_ l 4 2 = n := ⟨_, rfl⟩
    obtain ⟨on, hon⟩ : ∃ n, Page.at_ l 6 4 = n := ⟨_, rfl⟩
    obtain ⟨tn, htn⟩ : ∃ n, Page.at_ l 10 8 = n := ⟨_, rfl⟩
    rw [hkn] at g1 HF
    rw [hnn] at g2 HF HRD
    rw [hon] at g3 HF
    rw [htn] at HF HRD
    simp only [hkn] at T1
    simp only [hnn] at T2
    simp only [hon] at T3
    simp only [htn] at T4
    clear hkn hnn hon htn f1 f2 f3 f4 lt
    by_cases k1 : nn ≤ 488
    · have d1 : decide (488 < (nn : Int)) = false := decide_eq_false (by omega)
      by_cases k2 : tn ≤ 1099511627776
      · have d2 : decide (1099511627776 < (tn : Int)) = false := decide_eq_false (by omega)
        obtain ⟨body, hbody⟩ : ∃ b, ba ((l.drop 24).take nn) = b := ⟨_, rfl⟩
        have hsl : ∀ w, (Instr.slice 9 (.string s) (some (.int .i64 24)) (some (.int .i64 (24 + (nn : Int)))) none).run Try.prog w = .ok (.string body) w := fun w => by
          rw [run_slice_string w 9 s .i64 .i64 24 (24 + (nn : Int)) Try.underlying9 (by omega) (by omega) (by omega), show (24 : Int).toNat = 24 from rfl, show (24 + (nn : Int)).toNat = 24 + nn by omega, extract_ba, hl, hbody]
        have c1 : IntKind.i64.wrap (kn : Int) = kn := IntWalk.i64_in _ (by omega)
        have c2 : IntKind.i64.wrap (nn : Int) = nn := IntWalk.i64_in _ (by omega)
        have c3 : IntKind.i64.wrap (on : Int) = on := IntWalk.i64_in _ (by omega)
        have c4 : IntKind.i64.wrap (tn : Int) = tn := IntWalk.i64_in _ (by omega)
        have hp : (⟨kn, on, tn, body⟩ : PV) = ofPG (Page.fields l) := by rw [HF.out, ← hbody]; rfl
        have hpr : (⟨kn, on, tn, body⟩ : PV).right = Page.right (Page.fields l) := by rw [hp, right_ofPG]
        have hpp : (⟨kn, on, tn, body⟩ : PV).pg = Page.fields l := by rw [hp, pg_ofPG]
        have PC := fun w => rpack_ok w ⟨kn, on, tn, body⟩
        unfold PV.val at PC
        simp only at PC
        have i1 : (24 : Int) + (nn : Int) ≤ (s.size : Int) := by omega
        have i2 : (24 : Int) ≤ 24 + (nn : Int) := by omega
        by_cases k3 : Page.right (Page.fields l) = true
        · have hE : (⟨kn, on, tn, body⟩ : PV).packE = 0 := by unfold PV.packE; rw [hpr, k3]; rfl
          have hS : (⟨kn, on, tn, body⟩ : PV).packS = ba (Page.packed (Page.fields l)) := by unfold PV.packS; rw [hpr, k3, hpp]; rfl
          rw [hE, hS] at PC
          by_cases k4 : Page.packed (Page.fields l) = l
          · rw [k4, ← hl, ba_data] at PC
            have PC := fun w => Lib.hid (PC w)
            have q1 : (s.toList != s.toList) = false := by simp
            have hrd : Page.read l = some (Page.fields l) := by rw [HRD.out, if_pos ⟨hll, k1, k2, k3, k4⟩]
            have HU : Hid ((unpackP s).val = .agg #[.int .i64 kn, .int .i64 on, .int .i64 tn, .string body] ∧ unpackE s = 0) := Lib.hid (by
              unfold unpackP unpackE; rw [hl, hrd]; exact ⟨by show (ofPG (Page.fields l)).val = _; rw [← hp]; rfl, rfl⟩)
            clear hp hpr hpp hE hS k4 k3 hrd hbody hl hll HRD HF
            go_enter Try.func14, Try.ntmps14
            go_wp2_with fail
            refine (T1 _).out.mono ?_
            rintro _ _ ⟨rfl, rfl⟩
            go_wp2_with fail
            refine (T2 _).out.mono ?_
            rintro _ _ ⟨rfl, rfl⟩
            go_wp2_with fail
            refine (T3 _).out.mono ?_
            rintro _ _ ⟨rfl, rfl⟩
            go_wp2_with fail
            refine (T4 _).out.mono ?_
            rintro _ _ ⟨rfl, rfl⟩
            go_wp2_with fail
            refine (PC _).out.mono ?_
            rintro _ w3 ⟨rfl, hb3⟩
            have hZ : Blk w3 w.heap.size #[.int .i64 0, .int .i64 0, .int .i64 0, .string ⟨#[]⟩] 23 := (hb3.block _ (by simp; omega)).trans ((Below.heap_alloc _ _ _ (by simp)).trans (heap_alloc_new w _))
            have hP : Blk w3 (w.heap.size + 1) #[.int .i64 kn, .int .i64 on, .int .i64 tn, .string body] 23 := (hb3.block _ (by simp)).trans (by have := heap_alloc_new (w.alloc (.cells #[.int .i64 0, .int .i64 0, .int .i64 0, .string ⟨#[]⟩] 23)) (.cells #[.int .i64 kn, .int .i64 on, .int .i64 tn, .string body] 23); simpa using this)
            have hB3 : Below w.heap.size w w3 := (hbl.alloc hbl.size (.cells #[.int .i64 kn, .int .i64 on, .int .i64 tn, .string body] 23)).trans (hb3.mono (by simp; omega))
            have u0 : w3.cell? ⟨w.heap.size, 0, none⟩ = some (.int .i64 0) := hZ.cell 0
            have u1 : w3.cell? ⟨w.heap.size, 1, none⟩ = some (.int .i64 0) := hZ.cell 1
            have u2 : w3.cell? ⟨w.heap.size, 2, none⟩ = some (.int .i64 0) := hZ.cell 2
            have u3 : w3.cell? ⟨w.heap.size, 3, none⟩ = some (.string ⟨#[]⟩) := hZ.cell 3
            have v0 : w3.cell? ⟨w.heap.size + 1, 0, none⟩ = some (.int .i64 kn) := hP.cell 0
            have v1 : w3.cell? ⟨w.heap.size + 1, 1, none⟩ = some (.int .i64 on) := hP.cell 1
            have v2 : w3.cell? ⟨w.heap.size + 1, 2, none⟩ = some (.int .i64 tn) := hP.cell 2
            have v3 : w3.cell? ⟨w.heap.size + 1, 3, none⟩ = some (.string body) := hP.cell 3
            have m0 := hZ.free 0
            have m1 := hZ.free 1
            have m2 := hZ.free 2
            have m3 := hZ.free 3
            have hlt := hZ.lt
            have HZ := Lib.hid hZ
            have HB3 := Lib.hid hB3
            clear hZ hP hB3 hb3
            go_wp2
            refine bodyPost_ret (results_cell2 rfl _ _ w.heap.size 23 _ (0, 0) _ rfl ((((HZ.out.set 0 _).set 1 _).set 2 _).set 3 _) Try.underlying23 rfl (by kernel_rfl)) rfl ⟨?_, (((HB3.out.setCell (p := ⟨w.heap.size, 0, none⟩) (Nat.le_refl _) _).setCell (p := ⟨w.heap.size, 1, none⟩) (Nat.le_refl _) _).setCell (p := ⟨w.heap.size, 2, none⟩) (Nat.le_refl _) _).setCell (p := ⟨w.heap.size, 3, none⟩) (Nat.le_refl _) _⟩
            rw [HU.out.1, HU.out.2]
            rfl
          · have hne : ba (Page.packed (Page.fields l)) ≠ s := fun e => k4 (by rw [← data_ba (Page.packed (Page.fields l)), e, hl])
            obtain ⟨X, hX⟩ : ∃ X, ba (Page.packed (Page.fields l)) = X := ⟨_, rfl⟩
            rw [hX] at PC hne
            have PC := fun w => Lib.hid (PC w)
            have q1 : (X.toList == s.toList) = false := by
              rw [beq_eq_false_iff_ne]
              intro e
              rw [ByteArray.toList_eq, ByteArray.toList_eq] at e
              exact hne (ByteArray.ext (Array.ext' e))
            obtain ⟨U1, U2⟩ := runpack_not s (by rw [hl, HRD.out, if_neg (fun e => k4 e.2.2.2.2)])
            have HU := Lib.hid (And.intro U1 U2)
            clear hp hpr hpp hE hS k4 k3 hbody hl hll HRD HF U1 U2 hX hne
            go_enter Try.func14, Try.ntmps14
            go_wp2_with fail
            refine (T1 _).out.mono ?_
            rintro _ _ ⟨rfl, rfl⟩
            go_wp2_with fail
            refine (T2 _).out.mono ?_
            rintro _ _ ⟨rfl, rfl⟩
            go_wp2_with fail
            refine (T3 _).out.mono ?_
            rintro _ _ ⟨rfl, rfl⟩
            go_wp2_with fail
            refine (T4 _).out.mono ?_
            rintro _ _ ⟨rfl, rfl⟩
            go_wp2_with fail
            refine (PC _).out.mono ?_
            rintro _ w3 ⟨rfl, hb3⟩
            have hZ : Blk w3 w.heap.size #[.int .i64 0, .int .i64 0, .int .i64 0, .string ⟨#[]⟩] 23 := (hb3.block _ (by simp; omega)).trans ((Below.heap_alloc _ _ _ (by simp)).trans (heap_alloc_new w _))
            have hP : Blk w3 (w.heap.size + 1) #[.int .i64 kn, .int .i64 on, .int .i64 tn, .string body] 23 := (hb3.block _ (by simp)).trans (by have := heap_alloc_new (w.alloc (.cells #[.int .i64 0, .int .i64 0, .int .i64 0, .string ⟨#[]⟩] 23)) (.cells #[.int .i64 kn, .int .i64 on, .int .i64 tn, .string body] 23); simpa using this)
            have hB3 : Below w.heap.size w w3 := (hbl.alloc hbl.size (.cells #[.int .i64 kn, .int .i64 on, .int .i64 tn, .string body] 23)).trans (hb3.mono (by simp; omega))
            have u0 : w3.cell? ⟨w.heap.size, 0, none⟩ = some (.int .i64 0) := hZ.cell 0
            have u1 : w3.cell? ⟨w.heap.size, 1, none⟩ = some (.int .i64 0) := hZ.cell 1
            have u2 : w3.cell? ⟨w.heap.size, 2, none⟩ = some (.int .i64 0) := hZ.cell 2
            have u3 : w3.cell? ⟨w.heap.size, 3, none⟩ = some (.string ⟨#[]⟩) := hZ.cell 3
            have v0 : w3.cell? ⟨w.heap.size + 1, 0, none⟩ = some (.int .i64 kn) := hP.cell 0
            have v1 : w3.cell? ⟨w.heap.size + 1, 1, none⟩ = some (.int .i64 on) := hP.cell 1
            have v2 : w3.cell? ⟨w.heap.size + 1, 2, none⟩ = some (.int .i64 tn) := hP.cell 2
            have v3 : w3.cell? ⟨w.heap.size + 1, 3, none⟩ = some (.string body) := hP.cell 3
            have m0 := hZ.free 0
            have m1 := hZ.free 1
            have m2 := hZ.free 2
            have m3 := hZ.free 3
            have hlt := hZ.lt
            have HZ := Lib.hid hZ
            have HB3 := Lib.hid hB3
            clear hZ hP hB3 hb3
            go_wp2
            refine bodyPost_ret (results_cell2 rfl _ _ w.heap.size 23 _ (0, 0) _ rfl ((((HZ.out.set 0 _).set 1 _).set 2 _).set 3 _) Try.underlying23 rfl (by kernel_rfl)) rfl ⟨?_, (((HB3.out.setCell (p := ⟨w.heap.size, 0, none⟩) (Nat.le_refl _) _).setCell (p := ⟨w.heap.size, 1, none⟩) (Nat.le_refl _) _).setCell (p := ⟨w.heap.size, 2, none⟩) (Nat.le_refl _) _).setCell (p := ⟨w.heap.size, 3, none⟩) (Nat.le_refl _) _⟩
            rw [HU.out.1, HU.out.2, N0.out]
            rfl
        · have hE : (⟨kn, on, tn, body⟩ : PV).packE = 4 := by unfold PV.packE; rw [hpr, if_neg k3]
          rw [hE] at PC
          obtain ⟨X, hX⟩ : ∃ X, (⟨kn, on, tn, body⟩ : PV).packS = X := ⟨_, rfl⟩
          rw [hX] at PC
          have PC := fun w => Lib.hid (PC w)
          obtain ⟨U1, U2⟩ := runpack_not s (by rw [hl, HRD.out, if_neg (fun e => k3 e.2.2.2.1)])
          have HU := Lib.hid (And.intro U1 U2)
          clear hp hpr hpp hE k3 hbody hl hll HRD HF U1 U2 hX
          go_enter Try.func14, Try.ntmps14
          go_wp2_with fail
          refine (T1 _).out.mono ?_
          rintro _ _ ⟨rfl, rfl⟩
          go_wp2_with fail
          refine (T2 _).out.mono ?_
          rintro _ _ ⟨rfl, rfl⟩
          go_wp2_with fail
          refine (T3 _).out.mono ?_
          rintro _ _ ⟨rfl, rfl⟩
          go_wp2_with fail
          refine (T4 _).out.mono ?_
          rintro _ _ ⟨rfl, rfl⟩
          go_wp2_with fail
          refine (PC _).out.mono ?_
          rintro _ w3 ⟨rfl, hb3⟩
          have hZ : Blk w3 w.heap.size #[.int .i64 0, .int .i64 0, .int .i64 0, .string ⟨#[]⟩] 23 := (hb3.block _ (by simp; omega)).trans ((Below.heap_alloc _ _ _ (by simp)).trans (heap_alloc_new w _))
          have hP : Blk w3 (w.heap.size + 1) #[.int .i64 kn, .int .i64 on, .int .i64 tn, .string body] 23 := (hb3.block _ (by simp)).trans (by have := heap_alloc_new (w.alloc (.cells #[.int .i64 0, .int .i64 0, .int .i64 0, .string ⟨#[]⟩] 23)) (.cells #[.int .i64 kn, .int .i64 on, .int .i64 tn, .string body] 23); simpa using this)
          have hB3 : Below w.heap.size w w3 := (hbl.alloc hbl.size (.cells #[.int .i64 kn, .int .i64 on, .int .i64 tn, .string body] 23)).trans (hb3.mono (by simp; omega))
          have u0 : w3.cell? ⟨w.heap.size, 0, none⟩ = some (.int .i64 0) := hZ.cell 0
          have u1 : w3.cell? ⟨w.heap.size, 1, none⟩ = some (.int .i64 0) := hZ.cell 1
          have u2 : w3.cell? ⟨w.heap.size, 2, none⟩ = some (.int .i64 0) := hZ.cell 2
          have u3 : w3.cell? ⟨w.heap.size, 3, none⟩ = some (.string ⟨#[]⟩) := hZ.cell 3
          have v0 : w3.cell? ⟨w.heap.size + 1, 0, none⟩ = some (.int .i64 kn) := hP.cell 0
          have v1 : w3.cell? ⟨w.heap.size + 1, 1, none⟩ = some (.int .i64 on) := hP.cell 1
          have v2 : w3.cell? ⟨w.heap.size + 1, 2, none⟩ = some (.int .i64 tn) := hP.cell 2
          have v3 : w3.cell? ⟨w.heap.size + 1, 3, none⟩ = some (.string body) := hP.cell 3
          have m0 := hZ.free 0
          have m1 := hZ.free 1
          have m2 := hZ.free 2
          have m3 := hZ.free 3
          have hlt := hZ.lt
          have HZ := Lib.hid hZ
          have HB3 := Lib.hid hB3
          clear hZ hP hB3 hb3
          go_wp2
          refine bodyPost_ret (results_cell2 rfl _ _ w.heap.size 23 _ (0, 0) _ rfl ((((HZ.out.set 0 _).set 1 _).set 2 _).set 3 _) Try.underlying23 rfl (by kernel_rfl)) rfl ⟨?_, (((HB3.out.setCell (p := ⟨w.heap.size, 0, none⟩) (Nat.le_refl _) _).setCell (p := ⟨w.heap.size, 1, none⟩) (Nat.le_refl _) _).setCell (p := ⟨w.heap.size, 2, none⟩) (Nat.le_refl _) _).setCell (p := ⟨w.heap.size, 3, none⟩) (Nat.le_refl _) _⟩
          rw [HU.out.1, HU.out.2, N0.out]
          rfl
      · have d2 : decide (1099511627776 < (tn : Int)) = true := decide_eq_true (by omega)
        obtain ⟨U1, U2⟩ := runpack_not s (by rw [hl, HRD.out, if_neg (fun e => k2 e.2.2.1)])
        have HU := Lib.hid (And.intro U1 U2)
        clear hl hll HRD HF U1 U2 k2
        go_enter Try.func14, Try.ntmps14
        go_wp2_with fail
        refine (T1 _).out.mono ?_
        rintro _ _ ⟨rfl, rfl⟩
        go_wp2_with fail
        refine (T2 _).out.mono ?_
        rintro _ _ ⟨rfl, rfl⟩
        go_wp2_with fail
        refine (T3 _).out.mono ?_
        rintro _ _ ⟨rfl, rfl⟩
        go_wp2_with fail
        refine (T4 _).out.mono ?_
        rintro _ _ ⟨rfl, rfl⟩
        go_wp2
        refine bodyPost_ret (results_cell2 rfl _ _ w.heap.size 23 _ (0, 0) _ rfl (heap_alloc_new w _) Try.underlying23 rfl (by kernel_rfl)) rfl ⟨?_, hbl⟩
        rw [HU.out.1, HU.out.2, N0.out]
        rfl
    · have d1 : decide (488 < (nn : Int)) = true := decide_eq_true (by omega)
      obtain ⟨U1, U2⟩ := runpack_not s (by rw [hl, HRD.out, if_neg (fun e => k1 e.2.1)])
      have HU := Lib.hid (And.intro U1 U2)
      clear hl hll HRD HF U1 U2 k1
      go_enter Try.func14, Try.ntmps14
      go_wp2_with fail
      refine (T1 _).out.mono ?_
      rintro _ _ ⟨rfl, rfl⟩
      go_wp2_with fail
      refine (T2 _).out.mono ?_
      rintro _ _ ⟨rfl, rfl⟩
      go_wp2_with fail
      refine (T3 _).out.mono ?_
      rintro _ _ ⟨rfl, rfl⟩
      go_wp2_with fail
      refine (T4 _).out.mono ?_
      rintro _ _ ⟨rfl, rfl⟩
      go_wp2
      refine bodyPost_ret (results_cell2 rfl _ _ w.heap.size 23 _ (0, 0) _ rfl (heap_alloc_new w _) Try.underlying23 rfl (by kernel_rfl)) rfl ⟨?_, hbl⟩
      rw [HU.out.1, HU.out.2, N0.out]
      rfl
  · have d0 : ((s.size : Int) != 512) = true := by simp; omega
    obtain ⟨U1, U2⟩ := runpack_not s (Page.read_long _ (by rw [list_size]; exact h5))
    have HU := Lib.hid (And.intro U1 U2)
    clear U1 U2 h5
    go_enter Try.func14, Try.ntmps14
    go_wp2
    refine bodyPost_ret (results_cell2 rfl _ _ w.heap.size 23 _ (0, 0) _ rfl (heap_alloc_new w _) Try.underlying23 rfl (by kernel_rfl)) rfl ⟨?_, hbl⟩
    rw [HU.out.1, HU.out.2, N0.out]
    rfl
end Go.Proofs.Ytnhnfabgofncaaa
