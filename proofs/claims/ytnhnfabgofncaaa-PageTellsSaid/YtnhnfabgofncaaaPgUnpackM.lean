/-
  Contract of the landed page's UnpackMeta (package page). Condition: a text of at most 2000 bytes.
-/
import Derived.Test.YtnhnfabgofncaaaPgPackM
import Derived.Test.YtnhnfabgofncaaaPageUnpackM
namespace Go.Proofs.Ytnhnfabgofncaaa
open Go.RowKit
/-- the meta of a text's numbers, as they come out -/
def metaOf (l : List UInt8) : MV := ⟨wrap64 (Page.at_ l 8 8 : Nat), (Page.at_ l 16 4 : Nat), (Page.at_ l 20 4 : Nat), (Page.at_ l 24 4 : Nat), (Page.at_ l 28 4 : Nat)⟩
theorem at_lt (l : List UInt8) (a k : Nat) : Page.at_ l a k < 2 ^ (8 * k) := Nat.lt_of_lt_of_le (beN_lt _) (Nat.pow_le_pow_right (by omega) (by have := List.length_take_le k (l.drop a); omega))
theorem metaOf_yes (s : ByteArray) (h : s.size = 128) (hr : (metaOf s.data.toList).right = true) (hp : (metaOf s.data.toList).packS = s) : unpackM s = metaOf s.data.toList ∧ unpackME s = 0 := by
  obtain ⟨l, hl⟩ : ∃ l, s.data.toList = l := ⟨_, rfl⟩
  have hll : l.length = 128 := by rw [← hl, list_size, h]
  rw [hl] at hr hp ⊢
  have h8 := at_lt l 8 8
  have ht : Page.at_ l 8 8 ≤ 1099511627776 := by
    have := ((MV.right_iff _).1 hr)
    unfold metaOf at this
    simp only at this
    unfold wrap64 at this
    omega
  have hm : metaOf l = ofME (Page.fieldsM l) := by
    unfold metaOf ofME Page.fieldsM
    rw [IntWalk.wrap64_in _ (by omega)]
  have hr2 : Page.rightM (Page.fieldsM l) = true := by rw [← right_ofME, ← hm]; exact hr
  have hp2 : Page.packedM (Page.fieldsM l) = l := by
    have : (metaOf l).packS = ba (Page.packedM (metaOf l).me) := by unfold MV.packS; rw [hr]; rfl
    rw [hp, hm, me_ofME] at this
    rw [← data_ba (Page.packedM (Page.fieldsM l)), ← this, hl]
  have hrd : Page.readM l = some (Page.fieldsM l) := by unfold Page.readM; rw [if_pos ⟨hll, ht, hr2, hp2⟩]
  unfold unpackM unpackME
  rw [hl, hrd, hm]
  exact ⟨rfl, rfl⟩
theorem metaOf_no (s : ByteArray) (h : ¬ ((metaOf s.data.toList).right = true ∧ (metaOf s.data.toList).packS = s)) : unpackM s = MV.none ∧ unpackME s = 4 := by
  refine runpackM_not s ?_
  obtain ⟨l, hl⟩ : ∃ l, s.data.toList = l := ⟨_, rfl⟩
  rw [hl] at h ⊢
  unfold Page.readM
  rw [if_neg]
  intro ⟨h1, h2, h3, h4⟩
  have hm : metaOf l = ofME (Page.fieldsM l) := by
    unfold metaOf ofME Page.fieldsM
    rw [IntWalk.wrap64_in _ (by omega)]
  have hr : (metaOf l).right = true := by rw [hm, right_ofME]; exact h3
  refine h ⟨hr, ?_⟩
  unfold MV.packS
  rw [hr, hm, me_ofME, h4, ← hl]
  exact ba_data s
theorem neq_toList {X s : ByteArray} (hne : X ≠ s) : (X.toList == s.toList) = false := by
  rw [beq_eq_false_iff_ne]
  intro e
  rw [ByteArray.toList_eq, ByteArray.toList_eq] at e
  exact hne (ByteArray.ext (Array.ext' e))
theorem ptake_in (s : ByteArray) (hs : s.size ≤ 2000) (a k : Nat) (hk : 1 ≤ k) (hk8 : k ≤ 7) (h2 : a + k ≤ s.size) (w : World) :
    Calls Try.prog 32 #[.string s, .int .i64 a, .int .i64 k] w fun e w' => e = .returned (.int .i64 (Page.at_ s.data.toList a k : Nat)) ∧ w = w' := by
  have h := ptake_ok s (by omega) a k hk (by omega) h2 w
  have hlt := at_lt s.data.toList a k
  have : 2 ^ (8 * k) ≤ 2 ^ 56 := Nat.pow_le_pow_right (by omega) (by omega)
  rwa [IntWalk.wrap64_in _ (by omega)] at h
set_option maxRecDepth 4000 in
set_option maxHeartbeats 1600000 in
theorem punpackM_ok (w : World) (s : ByteArray) (hs : s.size ≤ 2000) : Calls Try.prog 18 #[.string s] w fun e w' => e = .returned (.tuple #[(unpackM s).val, .int .i64 (unpackME s)]) ∧ Below w.heap.size w w' := by
  have hbl : Below w.heap.size w (w.alloc (.cells #[.int .i64 0, .int .i64 0, .int .i64 0, .int .i64 0, .int .i64 0] 33)) := (Below.refl _ w).alloc (Nat.le_refl _) _
  have hz : ∀ w, (zeroValue 33).run Try.prog w = .ok (.agg #[.int .i64 0, .int .i64 0, .int .i64 0, .int .i64 0, .int .i64 0]) w := fun w => by kernel_rfl
  have N0 : Hid (MV.none.val = .agg #[.int .i64 0, .int .i64 0, .int .i64 0, .int .i64 0, .int .i64 0]) := Lib.hid rfl
  by_cases h5 : s.size = 128
  · have d0 : ((s.size : Int) != 128) = false := by rw [h5]; rfl
    have T1 := fun w => Lib.hid (ptake_ok s (by omega) 8 8 (by omega) (by omega) (by omega) w)
    have T2 := fun w => Lib.hid (ptake_in s (by omega) 16 4 (by omega) (by omega) (by omega) w)
    have T3 := fun w => Lib.hid (ptake_in s (by omega) 20 4 (by omega) (by omega) (by omega) w)
    have T4 := fun w => Lib.hid (ptake_in s (by omega) 24 4 (by omega) (by omega) (by omega) w)
    have T5 := fun w => Lib.hid (ptake_in s (by omega) 28 4 (by omega) (by omega) (by omega) w)
    have HM : Hid (metaOf s.data.toList = ⟨wrap64 (Page.at_ s.data.toList 8 8 : Nat), (Page.at_ s.data.toList 16 4 : Nat), (Page.at_ s.data.toList 20 4 : Nat), (Page.at_ s.data.toList 24 4 : Nat), (Page.at_ s.data.toList 28 4 : Nat)⟩) := Lib.hid rfl
    obtain ⟨tn, htn⟩ : ∃ n : Int, wrap64 (Page.at_ s.data.toList 8 8 : Nat) = n := ⟨_, rfl⟩
    obtain ⟨rn, hrn⟩ : ∃ n : Int, (Page.at_ s.data.toList 16 4 : Nat) = n := ⟨_, rfl⟩
    obtain ⟨fn, hfn⟩ : ∃ n : Int, (Page.at_ s.data.toList 20 4 : Nat) = n := ⟨_, rfl⟩
    obtain ⟨pn, hpn⟩ : ∃ n : Int, (Page.at_ s.data.toList 24 4 : Nat) = n := ⟨_, rfl⟩
    obtain ⟨ln, hln⟩ : ∃ n : Int, (Page.at_ s.data.toList 28 4 : Nat) = n := ⟨_, rfl⟩
    rw [htn, hrn, hfn, hpn, hln] at HM
    simp only [htn] at T1
    simp only [hrn] at T2
    simp only [hfn] at T3
    simp only [hpn] at T4
    simp only [hln] at T5
    clear htn hrn hfn hpn hln
    obtain ⟨m, hm⟩ : ∃ m, metaOf s.data.toList = m := ⟨_, rfl⟩
    have Y := metaOf_yes s h5
    have Nn := metaOf_no s
    rw [hm] at HM Y Nn
    have PC := fun w => ppackM_ok w m
    have hmv : m.val = .agg #[.int .i64 tn, .int .i64 rn, .int .i64 fn, .int .i64 pn, .int .i64 ln] := by rw [HM.out]; rfl
    rw [hmv] at PC
    cases hr : m.right with
    | false =>
      have hE : m.packE = 4 := by unfold MV.packE; rw [hr]; rfl
      have HU := Lib.hid (Nn (by rw [hr]; simp))
      rw [hE] at PC
      obtain ⟨X, hX⟩ : ∃ X, m.packS = X := ⟨_, rfl⟩
      rw [hX] at PC
      have PC := fun w => Lib.hid (PC w)
      clear Y Nn hX hE hmv hr hm HM
      go_enter Try.func18, Try.ntmps18
      go_wp2_with fail
      refine (T1 _).out.mono ?_
      rintro _ _ ⟨rfl, rfl⟩
      go_wp2_with fail
      refine (T2 _).out.mono ?_
      rintro _ _ ⟨rfl, rfl⟩
      go_wp2_with fail
      refine (T3 _).out.mono ?_
      rintro _ _ ⟨rfl, rfl⟩
      go_wp2_with fail
      refine (T4 _).out.mono ?_
      rintro _ _ ⟨rfl, rfl⟩
      go_wp2_with fail
      refine (T5 _).out.mono ?_
      rintro _ _ ⟨rfl, rfl⟩
      go_wp2_with fail
      refine (PC _).out.mono ?_
      rintro _ w3 ⟨rfl, hb3⟩
      have hZ : Blk w3 w.heap.size #[.int .i64 0, .int .i64 0, .int .i64 0, .int .i64 0, .int .i64 0] 33 := (hb3.block _ (by simp; omega)).trans ((Below.heap_alloc _ _ _ (by simp)).trans (heap_alloc_new w _))
      have hP : Blk w3 (w.heap.size + 1) #[.int .i64 tn, .int .i64 rn, .int .i64 fn, .int .i64 pn, .int .i64 ln] 33 := (hb3.block _ (by simp)).trans (by have := heap_alloc_new (w.alloc (.cells #[.int .i64 0, .int .i64 0, .int .i64 0, .int .i64 0, .int .i64 0] 33)) (.cells #[.int .i64 tn, .int .i64 rn, .int .i64 fn, .int .i64 pn, .int .i64 ln] 33); simpa using this)
      have hB3 : Below w.heap.size w w3 := (hbl.alloc hbl.size (.cells #[.int .i64 tn, .int .i64 rn, .int .i64 fn, .int .i64 pn, .int .i64 ln] 33)).trans (hb3.mono (by simp; omega))
      have u0 : w3.cell? ⟨w.heap.size, 0, none⟩ = some (.int .i64 0) := hZ.cell 0
      have m0 := hZ.free 0
      have u1 : w3.cell? ⟨w.heap.size, 1, none⟩ = some (.int .i64 0) := hZ.cell 1
      have m1 := hZ.free 1
      have u2 : w3.cell? ⟨w.heap.size, 2, none⟩ = some (.int .i64 0) := hZ.cell 2
      have m2 := hZ.free 2
      have u3 : w3.cell? ⟨w.heap.size, 3, none⟩ = some (.int .i64 0) := hZ.cell 3
      have m3 := hZ.free 3
      have u4 : w3.cell? ⟨w.heap.size, 4, none⟩ = some (.int .i64 0) := hZ.cell 4
      have m4 := hZ.free 4
      have hlt := hZ.lt
      have HZ := Lib.hid hZ
      have HB3 := Lib.hid hB3
      clear hZ hP hB3 hb3
      go_wp2
      refine bodyPost_ret (results_cell2 rfl _ _ w.heap.size 33 _ (0, 0) _ rfl (((((HZ.out.set 0 _).set 1 _).set 2 _).set 3 _).set 4 _) Try.underlying33 rfl (by kernel_rfl)) rfl ⟨?_, (((((HB3.out.setCell (p := ⟨w.heap.size, 0, none⟩) (Nat.le_refl _) _).setCell (p := ⟨w.heap.size, 1, none⟩) (Nat.le_refl _) _).setCell (p := ⟨w.heap.size, 2, none⟩) (Nat.le_refl _) _).setCell (p := ⟨w.heap.size, 3, none⟩) (Nat.le_refl _) _).setCell (p := ⟨w.heap.size, 4, none⟩) (Nat.le_refl _) _)⟩
      rw [HU.out.1, HU.out.2, N0.out]
      rfl
    | true =>
      have hE : m.packE = 0 := by unfold MV.packE; rw [hr]; rfl
      rw [hE] at PC
      by_cases hp : m.packS = s
      · have HU := Lib.hid (Y hr hp)
        rw [hp] at PC
        have q1 : (s.toList == s.toList) = true := by simp
        have HV := Lib.hid hmv
        have PC := fun w => Lib.hid (PC w)
        clear Y Nn hE hmv hr hm HM hp
        go_enter Try.func18, Try.ntmps18
        go_wp2_with fail
        refine (T1 _).out.mono ?_
        rintro _ _ ⟨rfl, rfl⟩
        go_wp2_with fail
        refine (T2 _).out.mono ?_
        rintro _ _ ⟨rfl, rfl⟩
        go_wp2_with fail
        refine (T3 _).out.mono ?_
        rintro _ _ ⟨rfl, rfl⟩
        go_wp2_with fail
        refine (T4 _).out.mono ?_
        rintro _ _ ⟨rfl, rfl⟩
        go_wp2_with fail
        refine (T5 _).out.mono ?_
        rintro _ _ ⟨rfl, rfl⟩
        go_wp2_with fail
        refine (PC _).out.mono ?_
        rintro _ w3 ⟨rfl, hb3⟩
        have hZ : Blk w3 w.heap.size #[.int .i64 0, .int .i64 0, .int .i64 0, .int .i64 0, .int .i64 0] 33 := (hb3.block _ (by simp; omega)).trans ((Below.heap_alloc _ _ _ (by simp)).trans (heap_alloc_new w _))
        have hP : Blk w3 (w.heap.size + 1) #[.int .i64 tn, .int .i64 rn, .int .i64 fn, .int .i64 pn, .int .i64 ln] 33 := (hb3.block _ (by simp)).trans (by have := heap_alloc_new (w.alloc (.cells #[.int .i64 0, .int .i64 0, .int .i64 0, .int .i64 0, .int .i64 0] 33)) (.cells #[.int .i64 tn, .int .i64 rn, .int .i64 fn, .int .i64 pn, .int .i64 ln] 33); simpa using this)
        have hB3 : Below w.heap.size w w3 := (hbl.alloc hbl.size (.cells #[.int .i64 tn, .int .i64 rn, .int .i64 fn, .int .i64 pn, .int .i64 ln] 33)).trans (hb3.mono (by simp; omega))
        have u0 : w3.cell? ⟨w.heap.size, 0, none⟩ = some (.int .i64 0) := hZ.cell 0
        have v0 : w3.cell? ⟨w.heap.size + 1, 0, none⟩ = some (.int .i64 tn) := hP.cell 0
        have m0 := hZ.free 0
        have u1 : w3.cell? ⟨w.heap.size, 1, none⟩ = some (.int .i64 0) := hZ.cell 1
        have v1 : w3.cell? ⟨w.heap.size + 1, 1, none⟩ = some (.int .i64 rn) := hP.cell 1
        have m1 := hZ.free 1
        have u2 : w3.cell? ⟨w.heap.size, 2, none⟩ = some (.int .i64 0) := hZ.cell 2
        have v2 : w3.cell? ⟨w.heap.size + 1, 2, none⟩ = some (.int .i64 fn) := hP.cell 2
        have m2 := hZ.free 2
        have u3 : w3.cell? ⟨w.heap.size, 3, none⟩ = some (.int .i64 0) := hZ.cell 3
        have v3 : w3.cell? ⟨w.heap.size + 1, 3, none⟩ = some (.int .i64 pn) := hP.cell 3
        have m3 := hZ.free 3
        have u4 : w3.cell? ⟨w.heap.size, 4, none⟩ = some (.int .i64 0) := hZ.cell 4
        have v4 : w3.cell? ⟨w.heap.size + 1, 4, none⟩ = some (.int .i64 ln) := hP.cell 4
        have m4 := hZ.free 4
        have hlt := hZ.lt
        have HZ := Lib.hid hZ
        have HB3 := Lib.hid hB3
        clear hZ hP hB3 hb3
        go_wp2
        refine bodyPost_ret (results_cell2 rfl _ _ w.heap.size 33 _ (0, 0) _ rfl (((((HZ.out.set 0 _).set 1 _).set 2 _).set 3 _).set 4 _) Try.underlying33 rfl (by kernel_rfl)) rfl ⟨?_, (((((HB3.out.setCell (p := ⟨w.heap.size, 0, none⟩) (Nat.le_refl _) _).setCell (p := ⟨w.heap.size, 1, none⟩) (Nat.le_refl _) _).setCell (p := ⟨w.heap.size, 2, none⟩) (Nat.le_refl _) _).setCell (p := ⟨w.heap.size, 3, none⟩) (Nat.le_refl _) _).setCell (p := ⟨w.heap.size, 4, none⟩) (Nat.le_refl _) _)⟩
        rw [HU.out.1, HU.out.2, HV.out]
        rfl
      · have HU := Lib.hid (Nn (by intro h; exact hp h.2))
        have q1 := neq_toList hp
        obtain ⟨X, hX⟩ : ∃ X, m.packS = X := ⟨_, rfl⟩
        rw [hX] at PC q1
        have PC := fun w => Lib.hid (PC w)
        clear Y Nn hE hmv hr hm HM hp hX
        go_enter Try.func18, Try.ntmps18
        go_wp2_with fail
        refine (T1 _).out.mono ?_
        rintro _ _ ⟨rfl, rfl⟩
        go_wp2_with fail
        refine (T2 _).out.mono ?_
        rintro _ _ ⟨rfl, rfl⟩
        go_wp2_with fail
        refine (T3 _).out.mono ?_
        rintro _ _ ⟨rfl, rfl⟩
        go_wp2_with fail
        refine (T4 _).out.mono ?_
        rintro _ _ ⟨rfl, rfl⟩
        go_wp2_with fail
        refine (T5 _).out.mono ?_
        rintro _ _ ⟨rfl, rfl⟩
        go_wp2_with fail
        refine (PC _).out.mono ?_
        rintro _ w3 ⟨rfl, hb3⟩
        have hZ : Blk w3 w.heap.size #[.int .i64 0, .int .i64 0, .int .i64 0, .int .i64 0, .int .i64 0] 33 := (hb3.block _ (by simp; omega)).trans ((Below.heap_alloc _ _ _ (by simp)).trans (heap_alloc_new w _))
        have hP : Blk w3 (w.heap.size + 1) #[.int .i64 tn, .int .i64 rn, .int .i64 fn, .int .i64 pn, .int .i64 ln] 33 := (hb3.block _ (by simp)).trans (by have := heap_alloc_new (w.alloc (.cells #[.int .i64 0, .int .i64 0, .int .i64 0, .int .i64 0, .int .i64 0] 33)) (.cells #[.int .i64 tn, .int .i64 rn, .int .i64 fn, .int .i64 pn, .int .i64 ln] 33); simpa using this)
        have hB3 : Below w.heap.size w w3 := (hbl.alloc hbl.size (.cells #[.int .i64 tn, .int .i64 rn, .int .i64 fn, .int .i64 pn, .int .i64 ln] 33)).trans (hb3.mono (by simp; omega))
        have u0 : w3.cell? ⟨w.heap.size, 0, none⟩ = some (.int .i64 0) := hZ.cell 0
        have m0 := hZ.free 0
        have u1 : w3.cell? ⟨w.heap.size, 1, none⟩ = some (.int .i64 0) := hZ.cell 1
        have m1 := hZ.free 1
        have u2 : w3.cell? ⟨w.heap.size, 2, none⟩ = some (.int .i64 0) := hZ.cell 2
        have m2 := hZ.free 2
        have u3 : w3.cell? ⟨w.heap.size, 3, none⟩ = some (.int .i64 0) := hZ.cell 3
        have m3 := hZ.free 3
        have u4 : w3.cell? ⟨w.heap.size, 4, none⟩ = some (.int .i64 0) := hZ.cell 4
        have m4 := hZ.free 4
        have hlt := hZ.lt
        have HZ := Lib.hid hZ
        have HB3 := Lib.hid hB3
        clear hZ hP hB3 hb3
        go_wp2
        refine bodyPost_ret (results_cell2 rfl _ _ w.heap.size 33 _ (0, 0) _ rfl (((((HZ.out.set 0 _).set 1 _).set 2 _).set 3 _).set 4 _) Try.underlying33 rfl (by kernel_rfl)) rfl ⟨?_, (((((HB3.out.setCell (p := ⟨w.heap.size, 0, none⟩) (Nat.le_refl _) _).setCell (p := ⟨w.heap.size, 1, none⟩) (Nat.le_refl _) _).setCell (p := ⟨w.heap.size, 2, none⟩) (Nat.le_refl _) _).setCell (p := ⟨w.heap.size, 3, none⟩) (Nat.le_refl _) _).setCell (p := ⟨w.heap.size, 4, none⟩) (Nat.le_refl _) _)⟩
        rw [HU.out.1, HU.out.2, N0.out]
        rfl
  · have d0 : ((s.size : Int) != 128) = true := by simp; omega
    obtain ⟨U1, U2⟩ := runpackM_not s (Page.readM_long _ (by rw [list_size]; exact h5))
    have HU := Lib.hid (And.intro U1 U2)
    clear U1 U2 h5
    go_enter Try.func18, Try.ntmps18
    go_wp2
    refine bodyPost_ret (results_cell2 rfl _ _ w.heap.size 33 _ (0, 0) _ rfl (heap_alloc_new w _) Try.underlying33 rfl (by kernel_rfl)) rfl ⟨?_, hbl⟩
    rw [HU.out.1, HU.out.2, N0.out]
    rfl
end Go.Proofs.Ytnhnfabgofncaaa
