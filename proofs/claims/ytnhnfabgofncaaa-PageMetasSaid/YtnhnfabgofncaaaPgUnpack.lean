/-
  Contract of the landed page's Unpack (package page). Condition: a text of at most 2000 bytes.
-/
import Derived.Test.YtnhnfabgofncaaaPgUnpackM
import Derived.Test.YtnhnfabgofncaaaPageUnpack
import Derived.Deep.RegionWith
import Derived.Deep.DeepFit
import Derived.Deep.DeepCutAuto
namespace Go.Proofs.Ytnhnfabgofncaaa
open Go.RowKit
/-- the page of a text's numbers, as they come out -/
def pageOf (l : List UInt8) : PV := ⟨(Page.at_ l 2 1 : Nat), (Page.at_ l 6 4 : Nat), wrap64 (Page.at_ l 10 8 : Nat), ba ((l.drop 24).take (Page.at_ l 4 2))⟩
theorem pageOf_yes (s : ByteArray) (h : s.size = 512) (hn : Page.at_ s.data.toList 4 2 ≤ 488) (hr : (pageOf s.data.toList).right = true) (hp : (pageOf s.data.toList).packS = s) : unpackP s = pageOf s.data.toList ∧ unpackE s = 0 := by
  obtain ⟨l, hl⟩ : ∃ l, s.data.toList = l := ⟨_, rfl⟩
  have hll : l.length = 512 := by rw [← hl, list_size, h]
  rw [hl] at hr hp hn ⊢
  have h8 := at_lt l 10 8
  have ht : Page.at_ l 10 8 ≤ 1099511627776 := by
    have := ((PV.right_iff _).1 hr)
    unfold pageOf at this
    simp only at this
    unfold wrap64 at this
    omega
  have hm : pageOf l = ofPG (Page.fields l) := by
    unfold pageOf ofPG Page.fields
    rw [IntWalk.wrap64_in _ (by omega)]
  have hr2 : Page.right (Page.fields l) = true := by rw [← right_ofPG, ← hm]; exact hr
  have hp2 : Page.packed (Page.fields l) = l := by
    have : (pageOf l).packS = ba (Page.packed (pageOf l).pg) := by unfold PV.packS; rw [hr]; rfl
    rw [hp, hm, pg_ofPG] at this
    rw [← data_ba (Page.packed (Page.fields l)), ← this, hl]
  have hrd : Page.read l = some (Page.fields l) := by unfold Page.read; rw [if_pos ⟨hll, hn, ht, hr2, hp2⟩]
  unfold unpackP unpackE
  rw [hl, hrd, hm]
  exact ⟨rfl, rfl⟩
theorem pageOf_no (s : ByteArray) (h : ¬ (Page.at_ s.data.toList 4 2 ≤ 488 ∧ (pageOf s.data.toList).right = true ∧ (pageOf s.data.toList).packS = s)) : unpackP s = PV.none ∧ unpackE s = 4 := by
  refine runpack_not s ?_
  obtain ⟨l, hl⟩ : ∃ l, s.data.toList = l := ⟨_, rfl⟩
  rw [hl] at h ⊢
  unfold Page.read
  rw [if_neg]
  intro ⟨h1, h0, h2, h3, h4⟩
  have hm : pageOf l = ofPG (Page.fields l) := by
    unfold pageOf ofPG Page.fields
    rw [IntWalk.wrap64_in _ (by omega)]
  have hr : (pageOf l).right = true := by rw [hm, right_ofPG]; exact h3
  refine h ⟨h0, hr, ?_⟩
  unfold PV.packS
  rw [hr, hm, pg_ofPG, h4, ← hl]
  exact ba_data s
set_option maxRecDepth 4000 in
set_option maxHeartbeats 1600000 in
theorem punpack_ok (w : World) (s : ByteArray) (hs : s.size ≤ 2000) : Calls Try.prog 13 #[.string s] w fun e w' => e = .returned (.tuple #[(unpackP s).val, .int .i64 (unpackE s)]) ∧ Below w.heap.size w w' := by
  have hbl : Below w.heap.size w (w.alloc (.cells #[.int .i64 0, .int .i64 0, .int .i64 0, .string ⟨#[]⟩] 23)) := (Below.refl _ w).alloc (Nat.le_refl _) _
  have hz : ∀ w, (zeroValue 23).run Try.prog w = .ok (.agg #[.int .i64 0, .int .i64 0, .int .i64 0, .string ⟨#[]⟩]) w := fun w => by kernel_rfl
  have N0 : Hid (PV.none.val = .agg #[.int .i64 0, .int .i64 0, .int .i64 0, .string ⟨#[]⟩]) := Lib.hid rfl
  by_cases h5 : s.size = 512
  · have d0 : ((s.size : Int) != 512) = false := by rw [h5]; rfl
    have T0 := fun w => Lib.hid (ptake_in s (by omega) 4 2 (by omega) (by omega) (by omega) w)
    have T1 := fun w => Lib.hid (ptake_in s (by omega) 2 1 (by omega) (by omega) (by omega) w)
    have T2 := fun w => Lib.hid (ptake_in s (by omega) 6 4 (by omega) (by omega) (by omega) w)
    have T3 := fun w => Lib.hid (ptake_ok s (by omega) 10 8 (by omega) (by omega) (by omega) w)
    have HM : Hid (pageOf s.data.toList = ⟨(Page.at_ s.data.toList 2 1 : Nat), (Page.at_ s.data.toList 6 4 : Nat), wrap64 (Page.at_ s.data.toList 10 8 : Nat), ba ((s.data.toList.drop 24).take (Page.at_ s.data.toList 4 2))⟩) := Lib.hid rfl
    obtain ⟨kn, hkn⟩ : ∃ n : Int, (Page.at_ s.data.toList 2 1 : Nat) = n := ⟨_, rfl⟩
    obtain ⟨on, hon⟩ : ∃ n : Int, (Page.at_ s.data.toList 6 4 : Nat) = n := ⟨_, rfl⟩
    obtain ⟨tn, htn⟩ : ∃ n : Int, wrap64 (Page.at_ s.data.toList 10 8 : Nat) = n := ⟨_, rfl⟩
    rw [htn, hon, hkn] at HM
    simp only [hkn] at T1
    simp only [hon] at T2
    simp only [htn] at T3
    clear htn hon hkn
    obtain ⟨m, hm⟩ : ∃ m, pageOf s.data.toList = m := ⟨_, rfl⟩
    have Y := pageOf_yes s h5
    have Nn := pageOf_no s
    rw [hm] at HM Y Nn
    have hex : ∀ n : Nat, (s.extract 24 (24 + n)) = ba ((s.data.toList.drop 24).take n) := fun n => by rw [extract_ba]
    obtain ⟨nn, hnn⟩ : ∃ n : Nat, Page.at_ s.data.toList 4 2 = n := ⟨_, rfl⟩
    simp only [hnn] at T0 HM Y Nn
    obtain ⟨body, hbody⟩ : ∃ b, ba ((s.data.toList.drop 24).take nn) = b := ⟨_, rfl⟩
    rw [hbody] at HM
    by_cases k1 : nn ≤ 488
    · have d1 : decide (488 < (nn : Int)) = false := decide_eq_false (by omega)
      have hsl : ∀ w, (Instr.slice 9 (.string s) (some (.int .i64 24)) (some (.int .i64 (24 + (nn : Int)))) none).run Try.prog w = .ok (.string body) w := fun w => by
        rw [run_slice_string w 9 s .i64 .i64 24 (24 + (nn : Int)) Try.underlying9 (by omega) (by omega) (by omega), show (24 : Int).toNat = 24 from rfl, show (24 + (nn : Int)).toNat = 24 + nn by omega, hex, hbody]
      have hwr : IntKind.i64.wrap (24 + (nn : Int)) = 24 + (nn : Int) := IntWalk.i64_in _ (by omega)
      have i1 : (24 : Int) + (nn : Int) ≤ (s.size : Int) := by omega
      have i2 : (24 : Int) ≤ 24 + (nn : Int) := by omega
      have PC := fun w => ppack_ok w m
      have hmv : m.val = .agg #[.int .i64 kn, .int .i64 on, .int .i64 tn, .string body] := by rw [HM.out]; rfl
      rw [hmv] at PC
      cases hr : m.right with
      | false =>
        have hE : m.packE = 4 := by unfold PV.packE; rw [hr]; rfl
        have HU := Lib.hid (Nn (by rw [hr]; simp))
        rw [hE] at PC
        obtain ⟨X, hX⟩ : ∃ X, m.packS = X := ⟨_, rfl⟩
        rw [hX] at PC
        have PC := fun w => Lib.hid (PC w)
        clear Y Nn hX hE hmv hr hm HM hex hbody hnn
        go_enter Try.func13, Try.ntmps13
        go_wp2_with fail
        refine (T0 _).out.mono ?_
        rintro _ _ ⟨rfl, rfl⟩
        go_upto_region 6 with fail
        go_cut [5] from 17 to 28 (fun p wx => p = .pointer (some ⟨w.heap.size + 1, 0, none⟩) ∧ wx = ((w.alloc (.cells #[.int .i64 0, .int .i64 0, .int .i64 0, .string ⟨#[]⟩] 23)).alloc (.cells #[.int .i64 kn, .int .i64 on, .int .i64 tn, .string body] 23)).drew)
        case first =>
          go_region_with (go_at_call 32; first | (go_fit (T1 _).out; rintro _ _ ⟨rfl, rfl⟩) | (go_fit (T2 _).out; rintro _ _ ⟨rfl, rfl⟩) | (go_fit (T3 _).out; rintro _ _ ⟨rfl, rfl⟩))
          all_goals (go_wp2_with fail; go_meet; exact ⟨rfl, rfl⟩)
        case rest =>
          obtain ⟨rfl, rfl⟩ := hcut
          go_wp2_with fail
          refine (PC _).out.mono ?_
          rintro _ w3 ⟨rfl, hb3⟩
          have hZ : Blk w3 w.heap.size #[.int .i64 0, .int .i64 0, .int .i64 0, .string ⟨#[]⟩] 23 := (hb3.block _ (by simp; omega)).trans ((Below.heap_alloc _ _ _ (by simp)).trans (heap_alloc_new w _))
          have hP : Blk w3 (w.heap.size + 1) #[.int .i64 kn, .int .i64 on, .int .i64 tn, .string body] 23 := (hb3.block _ (by simp)).trans (Blk.drew (by have := heap_alloc_new (w.alloc (.cells #[.int .i64 0, .int .i64 0, .int .i64 0, .string ⟨#[]⟩] 23)) (.cells #[.int .i64 kn, .int .i64 on, .int .i64 tn, .string body] 23); unfold Blk; simpa using this))
          have hB3 : Below w.heap.size w w3 := (hbl.alloc hbl.size (.cells #[.int .i64 kn, .int .i64 on, .int .i64 tn, .string body] 23)).drew.trans (hb3.mono (by simp; omega))
          have u0 : w3.cell? ⟨w.heap.size, 0, none⟩ = some (.int .i64 0) := hZ.cell 0
          have m0 := hZ.free 0
          have u1 : w3.cell? ⟨w.heap.size, 1, none⟩ = some (.int .i64 0) := hZ.cell 1
          have m1 := hZ.free 1
          have u2 : w3.cell? ⟨w.heap.size, 2, none⟩ = some (.int .i64 0) := hZ.cell 2
          have m2 := hZ.free 2
          have u3 : w3.cell? ⟨w.heap.size, 3, none⟩ = some (.string ⟨#[]⟩) := hZ.cell 3
          have m3 := hZ.free 3
          have hlt := hZ.lt
          have HZ := Lib.hid hZ
          have HB3 := Lib.hid hB3
          clear hZ hP hB3 hb3
          go_wp2
          refine bodyPost_ret (results_cell2 rfl _ _ w.heap.size 23 _ (0, 0) _ rfl ((((HZ.out.set 0 _).set 1 _).set 2 _).set 3 _) Try.underlying23 rfl (by kernel_rfl)) rfl ⟨?_, ((((HB3.out.setCell (p := ⟨w.heap.size, 0, none⟩) (Nat.le_refl _) _).setCell (p := ⟨w.heap.size, 1, none⟩) (Nat.le_refl _) _).setCell (p := ⟨w.heap.size, 2, none⟩) (Nat.le_refl _) _).setCell (p := ⟨w.heap.size, 3, none⟩) (Nat.le_refl _) _)⟩
          rw [HU.out.1, HU.out.2, N0.out]
          rfl
      | true =>
        have hE : m.packE = 0 := by unfold PV.packE; rw [hr]; rfl
        rw [hE] at PC
        by_cases hp : m.packS = s
        · have HU := Lib.hid (Y k1 hr hp)
          rw [hp] at PC
          have q1 : (s.toList == s.toList) = true := by simp
          have HV := Lib.hid hmv
          have PC := fun w => Lib.hid (PC w)
          clear Y Nn hE hmv hr hm HM hp hex hbody hnn
          go_enter Try.func13, Try.ntmps13
          go_wp2_with fail
          refine (T0 _).out.mono ?_
          rintro _ _ ⟨rfl, rfl⟩
          go_upto_region 6 with fail
          go_cut [5] from 17 to 28 (fun p wx => p = .pointer (some ⟨w.heap.size + 1, 0, none⟩) ∧ wx = ((w.alloc (.cells #[.int .i64 0, .int .i64 0, .int .i64 0, .string ⟨#[]⟩] 23)).alloc (.cells #[.int .i64 kn, .int .i64 on, .int .i64 tn, .string body] 23)).drew)
          case first =>
            go_region_with (go_at_call 32; first | (go_fit (T1 _).out; rintro _ _ ⟨rfl, rfl⟩) | (go_fit (T2 _).out; rintro _ _ ⟨rfl, rfl⟩) | (go_fit (T3 _).out; rintro _ _ ⟨rfl, rfl⟩))
            all_goals (go_wp2_with fail; go_meet; exact ⟨rfl, rfl⟩)
          case rest =>
            obtain ⟨rfl, rfl⟩ := hcut
            go_wp2_with fail
            refine (PC _).out.mono ?_
            rintro _ w3 ⟨rfl, hb3⟩
            have hZ : Blk w3 w.heap.size #[.int .i64 0, .int .i64 0, .int .i64 0, .string ⟨#[]⟩] 23 := (hb3.block _ (by simp; omega)).trans ((Below.heap_alloc _ _ _ (by simp)).trans (heap_alloc_new w _))
            have hP : Blk w3 (w.heap.size + 1) #[.int .i64 kn, .int .i64 on, .int .i64 tn, .string body] 23 := (hb3.block _ (by simp)).trans (Blk.drew (by have := heap_alloc_new (w.alloc (.cells #[.int .i64 0, .int .i64 0, .int .i64 0, .string ⟨#[]⟩] 23)) (.cells #[.int .i64 kn, .int .i64 on, .int .i64 tn, .string body] 23); unfold Blk; simpa using this))
            have hB3 : Below w.heap.size w w3 := (hbl.alloc hbl.size (.cells #[.int .i64 kn, .int .i64 on, .int .i64 tn, .string body] 23)).drew.trans (hb3.mono (by simp; omega))
            have u0 : w3.cell? ⟨w.heap.size, 0, none⟩ = some (.int .i64 0) := hZ.cell 0
            have v0 : w3.cell? ⟨w.heap.size + 1, 0, none⟩ = some (.int .i64 kn) := hP.cell 0
            have m0 := hZ.free 0
            have u1 : w3.cell? ⟨w.heap.size, 1, none⟩ = some (.int .i64 0) := hZ.cell 1
            have v1 : w3.cell? ⟨w.heap.size + 1, 1, none⟩ = some (.int .i64 on) := hP.cell 1
            have m1 := hZ.free 1
            have u2 : w3.cell? ⟨w.heap.size, 2, none⟩ = some (.int .i64 0) := hZ.cell 2
            have v2 : w3.cell? ⟨w.heap.size + 1, 2, none⟩ = some (.int .i64 tn) := hP.cell 2
            have m2 := hZ.free 2
            have u3 : w3.cell? ⟨w.heap.size, 3, none⟩ = some (.string ⟨#[]⟩) := hZ.cell 3
            have v3 : w3.cell? ⟨w.heap.size + 1, 3, none⟩ = some (.string body) := hP.cell 3
            have m3 := hZ.free 3
            have hlt := hZ.lt
            have HZ := Lib.hid hZ
            have HB3 := Lib.hid hB3
            clear hZ hP hB3 hb3
            go_wp2
            refine bodyPost_ret (results_cell2 rfl _ _ w.heap.size 23 _ (0, 0) _ rfl ((((HZ.out.set 0 _).set 1 _).set 2 _).set 3 _) Try.underlying23 rfl (by kernel_rfl)) rfl ⟨?_, ((((HB3.out.setCell (p := ⟨w.heap.size, 0, none⟩) (Nat.le_refl _) _).setCell (p := ⟨w.heap.size, 1, none⟩) (Nat.le_refl _) _).setCell (p := ⟨w.heap.size, 2, none⟩) (Nat.le_refl _) _).setCell (p := ⟨w.heap.size, 3, none⟩) (Nat.le_refl _) _)⟩
            rw [HU.out.1, HU.out.2, HV.out]
            rfl
        · have HU := Lib.hid (Nn (by intro h; exact hp h.2.2))
          have q1 := neq_toList hp
          obtain ⟨X, hX⟩ : ∃ X, m.packS = X := ⟨_, rfl⟩
          rw [hX] at PC q1
          have PC := fun w => Lib.hid (PC w)
          clear Y Nn hE hmv hr hm HM hp hX hex hbody hnn
          go_enter Try.func13, Try.ntmps13
          go_wp2_with fail
          refine (T0 _).out.mono ?_
          rintro _ _ ⟨rfl, rfl⟩
          go_upto_region 6 with fail
          go_cut [5] from 17 to 28 (fun p wx => p = .pointer (some ⟨w.heap.size + 1, 0, none⟩) ∧ wx = ((w.alloc (.cells #[.int .i64 0, .int .i64 0, .int .i64 0, .string ⟨#[]⟩] 23)).alloc (.cells #[.int .i64 kn, .int .i64 on, .int .i64 tn, .string body] 23)).drew)
          case first =>
            go_region_with (go_at_call 32; first | (go_fit (T1 _).out; rintro _ _ ⟨rfl, rfl⟩) | (go_fit (T2 _).out; rintro _ _ ⟨rfl, rfl⟩) | (go_fit (T3 _).out; rintro _ _ ⟨rfl, rfl⟩))
            all_goals (go_wp2_with fail; go_meet; exact ⟨rfl, rfl⟩)
          case rest =>
            obtain ⟨rfl, rfl⟩ := hcut
            go_wp2_with fail
            refine (PC _).out.mono ?_
            rintro _ w3 ⟨rfl, hb3⟩
            have hZ : Blk w3 w.heap.size #[.int .i64 0, .int .i64 0, .int .i64 0, .string ⟨#[]⟩] 23 := (hb3.block _ (by simp; omega)).trans ((Below.heap_alloc _ _ _ (by simp)).trans (heap_alloc_new w _))
            have hP : Blk w3 (w.heap.size + 1) #[.int .i64 kn, .int .i64 on, .int .i64 tn, .string body] 23 := (hb3.block _ (by simp)).trans (Blk.drew (by have := heap_alloc_new (w.alloc (.cells #[.int .i64 0, .int .i64 0, .int .i64 0, .string ⟨#[]⟩] 23)) (.cells #[.int .i64 kn, .int .i64 on, .int .i64 tn, .string body] 23); unfold Blk; simpa using this))
            have hB3 : Below w.heap.size w w3 := (hbl.alloc hbl.size (.cells #[.int .i64 kn, .int .i64 on, .int .i64 tn, .string body] 23)).drew.trans (hb3.mono (by simp; omega))
            have u0 : w3.cell? ⟨w.heap.size, 0, none⟩ = some (.int .i64 0) := hZ.cell 0
            have m0 := hZ.free 0
            have u1 : w3.cell? ⟨w.heap.size, 1, none⟩ = some (.int .i64 0) := hZ.cell 1
            have m1 := hZ.free 1
            have u2 : w3.cell? ⟨w.heap.size, 2, none⟩ = some (.int .i64 0) := hZ.cell 2
            have m2 := hZ.free 2
            have u3 : w3.cell? ⟨w.heap.size, 3, none⟩ = some (.string ⟨#[]⟩) := hZ.cell 3
            have m3 := hZ.free 3
            have hlt := hZ.lt
            have HZ := Lib.hid hZ
            have HB3 := Lib.hid hB3
            clear hZ hP hB3 hb3
            go_wp2
            refine bodyPost_ret (results_cell2 rfl _ _ w.heap.size 23 _ (0, 0) _ rfl ((((HZ.out.set 0 _).set 1 _).set 2 _).set 3 _) Try.underlying23 rfl (by kernel_rfl)) rfl ⟨?_, ((((HB3.out.setCell (p := ⟨w.heap.size, 0, none⟩) (Nat.le_refl _) _).setCell (p := ⟨w.heap.size, 1, none⟩) (Nat.le_refl _) _).setCell (p := ⟨w.heap.size, 2, none⟩) (Nat.le_refl _) _).setCell (p := ⟨w.heap.size, 3, none⟩) (Nat.le_refl _) _)⟩
            rw [HU.out.1, HU.out.2, N0.out]
            rfl
    · have d1 : decide (488 < (nn : Int)) = true := decide_eq_true (by omega)
      have HU := Lib.hid (Nn (by intro h; exact k1 h.1))
      clear Y Nn hm HM hex hbody hnn
      go_enter Try.func13, Try.ntmps13
      go_wp2_with fail
      refine (T0 _).out.mono ?_
      rintro _ _ ⟨rfl, rfl⟩
      go_wp2
      refine bodyPost_ret (results_cell2 rfl _ _ w.heap.size 23 _ (0, 0) _ rfl (heap_alloc_new w _) Try.underlying23 rfl (by kernel_rfl)) rfl ⟨?_, hbl⟩
      rw [HU.out.1, HU.out.2, N0.out]
      rfl
  · have d0 : ((s.size : Int) != 512) = true := by simp; omega
    obtain ⟨U1, U2⟩ := runpack_not s (Page.read_long _ (by rw [list_size]; exact h5))
    have HU := Lib.hid (And.intro U1 U2)
    clear U1 U2 h5
    go_enter Try.func13, Try.ntmps13
    go_wp2
    refine bodyPost_ret (results_cell2 rfl _ _ w.heap.size 23 _ (0, 0) _ rfl (heap_alloc_new w _) Try.underlying23 rfl (by kernel_rfl)) rfl ⟨?_, hbl⟩
    rw [HU.out.1, HU.out.2, N0.out]
    rfl
end Go.Proofs.Ytnhnfabgofncaaa
