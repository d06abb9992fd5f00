/-
  Contracts of the reference (rollbookref06): One. Conditions: cells that may be.
-/
import Derived.Test.YtegmffeokfahjaaRNodeC
import Derived.Test.YtegmffeokfahjaaQStep
import Derived.Deep.RegionHeld3
import Derived.Deep.CutRange
import Derived.Deep.DeepCutAuto
namespace Go.Proofs.Ytegmffeokfahjaa
open Go.RowKit
theorem num_c (n k : Nat) (K : Int) (hK : K = k) (hn : n < 2 ^ (8 * k)) (hn2 : n < 2 ^ 63) (hk : 1 ≤ k) (hk8 : k ≤ 8) (w : World) : Calls Try.prog 30 #[.int .i64 n, .int .i64 K] w fun e w' => e = .returned (.string (ba (beB n k 0))) ∧ Below w.heap.size w w' := by
  rw [hK]
  exact number_ok n k hn hn2 hk hk8 w
theorem ba_beB_size (n k : Nat) : (ba (beB n k 0)).size = k := by rw [ba_size, beB_length]; omega
set_option maxRecDepth 100000 in
set_option maxHeartbeats 1600000 in
theorem rone_branch (w : World) (key : ByteArray) (child : Nat) (hk : key.size ≤ 120) (hc : child ≤ 511) : Calls Try.prog 31 #[.bool false, .agg #[.string key, .string ⟨#[]⟩, .int .i64 0, .int .i64 0, .int .i64 child]] w fun e w' => e = .returned (.string (ba (beB key.size 2 0) ++ key ++ ba (beB child 4 0))) ∧ Below w.heap.size w w' := by
  obtain ⟨wA, hwA⟩ : ∃ wA, w.alloc (.cells #[.string key, .string ⟨#[]⟩, .int .i64 0, .int .i64 0, .int .i64 child] 35) = wA := ⟨_, rfl⟩
  have hX : Blk wA w.heap.size #[.string key, .string ⟨#[]⟩, .int .i64 0, .int .i64 0, .int .i64 child] 35 := hwA ▸ Blk.new w _ _
  have HBA : Hid (Below w.heap.size w wA) := Lib.hid (hwA ▸ (Below.refl _ w).alloc (Nat.le_refl _) _)
  have E31 : ∀ args w, (callFunc 30 args).run Try.prog w = .ok (.enter 30 args) w := func_enters Try.func30 (by rfl) (by rfl)
  have KX : Hid (∀ wS, Below wA.heap.size wA wS → wS.cell? ⟨w.heap.size, 0, none⟩ = some (.string key) ∧ wS.cell? ⟨w.heap.size, 1, none⟩ = some (.string ⟨#[]⟩) ∧ wS.cell? ⟨w.heap.size, 2, none⟩ = some (.int .i64 0) ∧ wS.cell? ⟨w.heap.size, 3, none⟩ = some (.int .i64 0) ∧ wS.cell? ⟨w.heap.size, 4, none⟩ = some (.int .i64 child)) := Lib.hid (fun wS hS => by
    have hb : Blk wS w.heap.size #[.string key, .string ⟨#[]⟩, .int .i64 0, .int .i64 0, .int .i64 child] 35 := (hS.block _ hX.lt).trans hX
    exact ⟨hb.cell 0, hb.cell 1, hb.cell 2, hb.cell 3, hb.cell 4⟩)
  have NK0 := fun w => num_c key.size 2 2 rfl (by omega) (by omega) (by omega) (by omega) w
  have zNK := ba_beB_size key.size 2
  obtain ⟨SK, hSK⟩ : ∃ S, ba (beB key.size 2 0) = S := ⟨_, rfl⟩
  simp only [hSK] at NK0
  rw [hSK] at zNK ⊢
  have NK : Hid (∀ wS, Below wA.heap.size wA wS → Calls Try.prog 30 #[.int .i64 (key.size : Nat), .int .i64 2] wS fun e w' => e = .returned (.string SK) ∧ Below wA.heap.size wA w') := Lib.hid (fun wS hS => (NK0 wS).mono fun _ _ ⟨e, hb⟩ => ⟨e, hS.trans (hb.mono hS.size)⟩)
  have NCH0 := fun w => num_c child 4 4 rfl (by omega) (by omega) (by omega) (by omega) w
  have zNCH := ba_beB_size child 4
  obtain ⟨SC, hSC⟩ : ∃ S, ba (beB child 4 0) = S := ⟨_, rfl⟩
  simp only [hSC] at NCH0
  rw [hSC] at zNCH ⊢
  have NCH : Hid (∀ wS, Below wA.heap.size wA wS → Calls Try.prog 30 #[.int .i64 (child : Nat), .int .i64 4] wS fun e w' => e = .returned (.string SC) ∧ Below wA.heap.size wA w') := Lib.hid (fun wS hS => (NCH0 wS).mono fun _ _ ⟨e, hb⟩ => ⟨e, hS.trans (hb.mono hS.size)⟩)
  have y1 : (SK ++ key).size = 2 + key.size := by rw [ByteArray.size_append, zNK]
  have e2 : (SK ++ key).size + 1 ≤ 9223372036854775807 := by omega
  go_enter Try.func31, Try.ntmps31
  go_upto_region 1 with fail
  clear hwA
  clear hX
  refine region_qh (C := fun w' => Below wA.heap.size wA w') (by kernel_rfl) (by kernel_rfl) ((Below.refl _ wA).drew) ?_
  refine qh_op (.pointer (some ⟨w.heap.size, 0, none⟩)) rfl (fun wS hSw => by go_simp; try with_reducible rfl) ?_
  simp only [Act.put, List.setIfInBounds_toArray, List.set_cons_zero, List.set_cons_succ]
  refine qh_op (.string key) rfl (fun wS hSw => by obtain ⟨k0, k1, k2, k3, k4⟩ := KX.out wS hSw; go_simp; try with_reducible rfl) ?_
  simp only [Act.put, List.setIfInBounds_toArray, List.set_cons_zero, List.set_cons_succ]
  refine qh_op (.int .i64 key.size) rfl (fun wS hSw => by go_simp; try with_reducible rfl) ?_
  simp only [Act.put, List.setIfInBounds_toArray, List.set_cons_zero, List.set_cons_succ]
  refine qh_call2 (.string SK) rfl 30 _ _ _ rfl (.int .i64 key.size) (.int .i64 2) (by rfl) (by rfl) E31 (fun wS hSw => NK.out wS hSw) ?_
  simp only [Act.put, List.setIfInBounds_toArray, List.set_cons_zero, List.set_cons_succ]
  refine qh_op (.pointer (some ⟨w.heap.size, 0, none⟩)) rfl (fun wS hSw => by go_simp; try with_reducible rfl) ?_
  simp only [Act.put, List.setIfInBounds_toArray, List.set_cons_zero, List.set_cons_succ]
  refine qh_op (.string key) rfl (fun wS hSw => by obtain ⟨k0, k1, k2, k3, k4⟩ := KX.out wS hSw; go_simp; try with_reducible rfl) ?_
  simp only [Act.put, List.setIfInBounds_toArray, List.set_cons_zero, List.set_cons_succ]
  refine qh_add rfl 9 _ _ rfl (SK) (key) (by rfl) (by rfl) (by omega) ?_
  simp only [Act.put, List.setIfInBounds_toArray, List.set_cons_zero, List.set_cons_succ]
  refine qh_op (.string (SK ++ key)) rfl (fun wS hSw => by go_simp; try with_reducible rfl) ?_
  simp only [Act.put, List.setIfInBounds_toArray, List.set_cons_zero, List.set_cons_succ]
  refine qh_nil ⟨?_⟩
  intro wE hE
  obtain ⟨k0, k1, k2, k3, k4⟩ := KX.out wE hE
  have e3 : (SK ++ key).size + SC.size ≤ 9223372036854775807 := by omega
  go_wp2_with fail
  refine (NCH.out _ hE).mono ?_
  rintro _ w2 ⟨rfl, hb2⟩
  go_wp2
  go_ret
  exact ⟨rfl, HBA.out.trans (hb2.mono HBA.out.size)⟩
set_option maxRecDepth 100000 in
set_option maxHeartbeats 1600000 in
theorem rone_over (w : World) (key : ByteArray) (over size : Nat) (hk : key.size ≤ 120) (ho : 1 ≤ over ∧ over ≤ 511) (hs : size ≤ 4000) : Calls Try.prog 31 #[.bool true, .agg #[.string key, .string ⟨#[]⟩, .int .i64 over, .int .i64 size, .int .i64 0]] w fun e w' => e = .returned (.string (ba (beB key.size 2 0) ++ key ++ (⟨#[1]⟩ : ByteArray) ++ ba (beB over 4 0) ++ ba (beB size 4 0))) ∧ Below w.heap.size w w' := by
  obtain ⟨wA, hwA⟩ : ∃ wA, w.alloc (.cells #[.string key, .string ⟨#[]⟩, .int .i64 over, .int .i64 size, .int .i64 0] 35) = wA := ⟨_, rfl⟩
  have hX : Blk wA w.heap.size #[.string key, .string ⟨#[]⟩, .int .i64 over, .int .i64 size, .int .i64 0] 35 := hwA ▸ Blk.new w _ _
  have HBA : Hid (Below w.heap.size w wA) := Lib.hid (hwA ▸ (Below.refl _ w).alloc (Nat.le_refl _) _)
  have E31 : ∀ args w, (callFunc 30 args).run Try.prog w = .ok (.enter 30 args) w := func_enters Try.func30 (by rfl) (by rfl)
  have KX : Hid (∀ wS, Below wA.heap.size wA wS → wS.cell? ⟨w.heap.size, 0, none⟩ = some (.string key) ∧ wS.cell? ⟨w.heap.size, 1, none⟩ = some (.string ⟨#[]⟩) ∧ wS.cell? ⟨w.heap.size, 2, none⟩ = some (.int .i64 over) ∧ wS.cell? ⟨w.heap.size, 3, none⟩ = some (.int .i64 size) ∧ wS.cell? ⟨w.heap.size, 4, none⟩ = some (.int .i64 0)) := Lib.hid (fun wS hS => by
    have hb : Blk wS w.heap.size #[.string key, .string ⟨#[]⟩, .int .i64 over, .int .i64 size, .int .i64 0] 35 := (hS.block _ hX.lt).trans hX
    exact ⟨hb.cell 0, hb.cell 1, hb.cell 2, hb.cell 3, hb.cell 4⟩)
  have NK0 := fun w => num_c key.size 2 2 rfl (by omega) (by omega) (by omega) (by omega) w
  have zNK := ba_beB_size key.size 2
  obtain ⟨SK, hSK⟩ : ∃ S, ba (beB key.size 2 0) = S := ⟨_, rfl⟩
  simp only [hSK] at NK0
  rw [hSK] at zNK ⊢
  have NK : Hid (∀ wS, Below wA.heap.size wA wS → Calls Try.prog 30 #[.int .i64 (key.size : Nat), .int .i64 2] wS fun e w' => e = .returned (.string SK) ∧ Below wA.heap.size wA w') := Lib.hid (fun wS hS => (NK0 wS).mono fun _ _ ⟨e, hb⟩ => ⟨e, hS.trans (hb.mono hS.size)⟩)
  have NO0 := fun w => num_c over 4 4 rfl (by omega) (by omega) (by omega) (by omega) w
  have zNO := ba_beB_size over 4
  obtain ⟨SO, hSO⟩ : ∃ S, ba (beB over 4 0) = S := ⟨_, rfl⟩
  simp only [hSO] at NO0
  rw [hSO] at zNO ⊢
  have NO : Hid (∀ wS, Below wA.heap.size wA wS → Calls Try.prog 30 #[.int .i64 (over : Nat), .int .i64 4] wS fun e w' => e = .returned (.string SO) ∧ Below wA.heap.size wA w') := Lib.hid (fun wS hS => (NO0 wS).mono fun _ _ ⟨e, hb⟩ => ⟨e, hS.trans (hb.mono hS.size)⟩)
  have NS0 := fun w => num_c size 4 4 rfl (by omega) (by omega) (by omega) (by omega) w
  have zNS := ba_beB_size size 4
  obtain ⟨SS, hSS⟩ : ∃ S, ba (beB size 4 0) = S := ⟨_, rfl⟩
  simp only [hSS] at NS0
  rw [hSS] at zNS ⊢
  have NS : Hid (∀ wS, Below wA.heap.size wA wS → Calls Try.prog 30 #[.int .i64 (size : Nat), .int .i64 4] wS fun e w' => e = .returned (.string SS) ∧ Below wA.heap.size wA w') := Lib.hid (fun wS hS => (NS0 wS).mono fun _ _ ⟨e, hb⟩ => ⟨e, hS.trans (hb.mono hS.size)⟩)
  have y1 : (SK ++ key).size = 2 + key.size := by rw [ByteArray.size_append, zNK]
  have e2 : (SK ++ key).size + 1 ≤ 9223372036854775807 := by omega
  go_enter Try.func31, Try.ntmps31
  go_upto_region 1 with fail
  clear hwA
  clear hX
  refine region_qh (C := fun w' => Below wA.heap.size wA w') (by kernel_rfl) (by kernel_rfl) ((Below.refl _ wA).drew) ?_
  refine qh_op (.pointer (some ⟨w.heap.size, 0, none⟩)) rfl (fun wS hSw => by go_simp; try with_reducible rfl) ?_
  simp only [Act.put, List.setIfInBounds_toArray, List.set_cons_zero, List.set_cons_succ]
  refine qh_op (.string key) rfl (fun wS hSw => by obtain ⟨k0, k1, k2, k3, k4⟩ := KX.out wS hSw; go_simp; try with_reducible rfl) ?_
  simp only [Act.put, List.setIfInBounds_toArray, List.set_cons_zero, List.set_cons_succ]
  refine qh_op (.int .i64 key.size) rfl (fun wS hSw => by go_simp; try with_reducible rfl) ?_
  simp only [Act.put, List.setIfInBounds_toArray, List.set_cons_zero, List.set_cons_succ]
  refine qh_call2 (.string SK) rfl 30 _ _ _ rfl (.int .i64 key.size) (.int .i64 2) (by rfl) (by rfl) E31 (fun wS hSw => NK.out wS hSw) ?_
  simp only [Act.put, List.setIfInBounds_toArray, List.set_cons_zero, List.set_cons_succ]
  refine qh_op (.pointer (some ⟨w.heap.size, 0, none⟩)) rfl (fun wS hSw => by go_simp; try with_reducible rfl) ?_
  simp only [Act.put, List.setIfInBounds_toArray, List.set_cons_zero, List.set_cons_succ]
  refine qh_op (.string key) rfl (fun wS hSw => by obtain ⟨k0, k1, k2, k3, k4⟩ := KX.out wS hSw; go_simp; try with_reducible rfl) ?_
  simp only [Act.put, List.setIfInBounds_toArray, List.set_cons_zero, List.set_cons_succ]
  refine qh_add rfl 9 _ _ rfl (SK) (key) (by rfl) (by rfl) (by omega) ?_
  simp only [Act.put, List.setIfInBounds_toArray, List.set_cons_zero, List.set_cons_succ]
  refine qh_op (.string (SK ++ key)) rfl (fun wS hSw => by go_simp; try with_reducible rfl) ?_
  simp only [Act.put, List.setIfInBounds_toArray, List.set_cons_zero, List.set_cons_succ]
  refine qh_nil ⟨?_⟩
  intro wE hE
  obtain ⟨k0, k1, k2, k3, k4⟩ := KX.out wE hE
  have d1 : decide ((0 : Int) < (over : Int)) = true := decide_eq_true (by omega)
  have y2 : (SK ++ key ++ (⟨#[1]⟩ : ByteArray)).size = 2 + key.size + 1 := by rw [ByteArray.size_append, y1]; rfl
  go_upto_region 5 with fail
  refine region_qh (C := fun w' => Below wA.heap.size wA w') (by kernel_rfl) (by kernel_rfl) (hE.drew) ?_
  refine qh_op (.string (SK ++ key)) rfl (fun wS hSw => by go_simp; try with_reducible rfl) ?_
  simp only [Act.put, List.setIfInBounds_toArray, List.set_cons_zero, List.set_cons_succ]
  refine qh_add rfl 9 _ _ rfl (SK ++ key) (⟨#[1]⟩) (by rfl) (by rfl) (by simp only [y1]; show 2 + key.size + 1 ≤ _; omega) ?_
  simp only [Act.put, List.setIfInBounds_toArray, List.set_cons_zero, List.set_cons_succ]
  refine qh_op (.pointer (some ⟨w.heap.size, 2, none⟩)) rfl (fun wS hSw => by go_simp; try with_reducible rfl) ?_
  simp only [Act.put, List.setIfInBounds_toArray, List.set_cons_zero, List.set_cons_succ]
  refine qh_op (.int .i64 over) rfl (fun wS hSw => by obtain ⟨k0, k1, k2, k3, k4⟩ := KX.out wS hSw; go_simp; try with_reducible rfl) ?_
  simp only [Act.put, List.setIfInBounds_toArray, List.set_cons_zero, List.set_cons_succ]
  refine qh_call2 (.string SO) rfl 30 _ _ _ rfl (.int .i64 over) (.int .i64 4) (by rfl) (by rfl) E31 (fun wS hSw => NO.out wS hSw) ?_
  simp only [Act.put, List.setIfInBounds_toArray, List.set_cons_zero, List.set_cons_succ]
  refine qh_add rfl 9 _ _ rfl (SK ++ key ++ ⟨#[1]⟩) (SO) (by rfl) (by rfl) (by rw [y2]; omega) ?_
  simp only [Act.put, List.setIfInBounds_toArray, List.set_cons_zero, List.set_cons_succ]
  refine qh_op (.pointer (some ⟨w.heap.size, 3, none⟩)) rfl (fun wS hSw => by go_simp; try with_reducible rfl) ?_
  simp only [Act.put, List.setIfInBounds_toArray, List.set_cons_zero, List.set_cons_succ]
  refine qh_op (.int .i64 size) rfl (fun wS hSw => by obtain ⟨k0, k1, k2, k3, k4⟩ := KX.out wS hSw; go_simp; try with_reducible rfl) ?_
  simp only [Act.put, List.setIfInBounds_toArray, List.set_cons_zero, List.set_cons_succ]
  refine qh_call2 (.string SS) rfl 30 _ _ _ rfl (.int .i64 size) (.int .i64 4) (by rfl) (by rfl) E31 (fun wS hSw => NS.out wS hSw) ?_
  simp only [Act.put, List.setIfInBounds_toArray, List.set_cons_zero, List.set_cons_succ]
  refine qh_add rfl 9 _ _ rfl (SK ++ key ++ ⟨#[1]⟩ ++ SO) (SS) (by rfl) (by rfl) (by rw [ByteArray.size_append, y2]; omega) ?_
  simp only [Act.put, List.setIfInBounds_toArray, List.set_cons_zero, List.set_cons_succ]
  refine qh_op (.string (SK ++ key ++ ⟨#[1]⟩ ++ SO ++ SS)) rfl (fun wS hSw => by go_simp; try with_reducible rfl) ?_
  simp only [Act.put, List.setIfInBounds_toArray, List.set_cons_zero, List.set_cons_succ]
  refine qh_nil ⟨?_⟩
  intro wF hF
  go_wp2
  go_ret
  exact ⟨rfl, HBA.out.trans (hF.mono HBA.out.size)⟩
set_option maxRecDepth 100000 in
set_option maxHeartbeats 1600000 in
theorem rone_inline (w : World) (key val : ByteArray) (hk : key.size ≤ 120) (hv : val.size ≤ 96) : Calls Try.prog 31 #[.bool true, .agg #[.string key, .string val, .int .i64 0, .int .i64 0, .int .i64 0]] w fun e w' => e = .returned (.string (ba (beB key.size 2 0) ++ key ++ (⟨#[0]⟩ : ByteArray) ++ ba (beB val.size 2 0) ++ val)) ∧ Below w.heap.size w w' := by
  obtain ⟨wA, hwA⟩ : ∃ wA, w.alloc (.cells #[.string key, .string val, .int .i64 0, .int .i64 0, .int .i64 0] 35) = wA := ⟨_, rfl⟩
  have hX : Blk wA w.heap.size #[.string key, .string val, .int .i64 0, .int .i64 0, .int .i64 0] 35 := hwA ▸ Blk.new w _ _
  have HBA : Hid (Below w.heap.size w wA) := Lib.hid (hwA ▸ (Below.refl _ w).alloc (Nat.le_refl _) _)
  have E31 : ∀ args w, (callFunc 30 args).run Try.prog w = .ok (.enter 30 args) w := func_enters Try.func30 (by rfl) (by rfl)
  have KX : Hid (∀ wS, Below wA.heap.size wA wS → wS.cell? ⟨w.heap.size, 0, none⟩ = some (.string key) ∧ wS.cell? ⟨w.heap.size, 1, none⟩ = some (.string val) ∧ wS.cell? ⟨w.heap.size, 2, none⟩ = some (.int .i64 0) ∧ wS.cell? ⟨w.heap.size, 3, none⟩ = some (.int .i64 0) ∧ wS.cell? ⟨w.heap.size, 4, none⟩ = some (.int .i64 0)) := Lib.hid (fun wS hS => by
    have hb : Blk wS w.heap.size #[.string key, .string val, .int .i64 0, .int .i64 0, .int .i64 0] 35 := (hS.block _ hX.lt).trans hX
    exact ⟨hb.cell 0, hb.cell 1, hb.cell 2, hb.cell 3, hb.cell 4⟩)
  have NK0 := fun w => num_c key.size 2 2 rfl (by omega) (by omega) (by omega) (by omega) w
  have zNK := ba_beB_size key.size 2
  obtain ⟨SK, hSK⟩ : ∃ S, ba (beB key.size 2 0) = S := ⟨_, rfl⟩
  simp only [hSK] at NK0
  rw [hSK] at zNK ⊢
  have NK : Hid (∀ wS, Below wA.heap.size wA wS → Calls Try.prog 30 #[.int .i64 (key.size : Nat), .int .i64 2] wS fun e w' => e = .returned (.string SK) ∧ Below wA.heap.size wA w') := Lib.hid (fun wS hS => (NK0 wS).mono fun _ _ ⟨e, hb⟩ => ⟨e, hS.trans (hb.mono hS.size)⟩)
  have NV0 := fun w => num_c val.size 2 2 rfl (by omega) (by omega) (by omega) (by omega) w
  have zNV := ba_beB_size val.size 2
  obtain ⟨SV, hSV⟩ : ∃ S, ba (beB val.size 2 0) = S := ⟨_, rfl⟩
  simp only [hSV] at NV0
  rw [hSV] at zNV ⊢
  have NV : Hid (∀ wS, Below wA.heap.size wA wS → Calls Try.prog 30 #[.int .i64 (val.size : Nat), .int .i64 2] wS fun e w' => e = .returned (.string SV) ∧ Below wA.heap.size wA w') := Lib.hid (fun wS hS => (NV0 wS).mono fun _ _ ⟨e, hb⟩ => ⟨e, hS.trans (hb.mono hS.size)⟩)
  have y1 : (SK ++ key).size = 2 + key.size := by rw [ByteArray.size_append, zNK]
  have e2 : (SK ++ key).size + 1 ≤ 9223372036854775807 := by omega
  go_enter Try.func31, Try.ntmps31
  go_upto_region 1 with fail
  clear hwA
  clear hX
  refine region_qh (C := fun w' => Below wA.heap.size wA w') (by kernel_rfl) (by kernel_rfl) ((Below.refl _ wA).drew) ?_
  refine qh_op (.pointer (some ⟨w.heap.size, 0, none⟩)) rfl (fun wS hSw => by go_simp; try with_reducible rfl) ?_
  simp only [Act.put, List.setIfInBounds_toArray, List.set_cons_zero, List.set_cons_succ]
  refine qh_op (.string key) rfl (fun wS hSw => by obtain ⟨k0, k1, k2, k3, k4⟩ := KX.out wS hSw; go_simp; try with_reducible rfl) ?_
  simp only [Act.put, List.setIfInBounds_toArray, List.set_cons_zero, List.set_cons_succ]
  refine qh_op (.int .i64 key.size) rfl (fun wS hSw => by go_simp; try with_reducible rfl) ?_
  simp only [Act.put, List.setIfInBounds_toArray, List.set_cons_zero, List.set_cons_succ]
  refine qh_call2 (.string SK) rfl 30 _ _ _ rfl (.int .i64 key.size) (.int .i64 2) (by rfl) (by rfl) E31 (fun wS hSw => NK.out wS hSw) ?_
  simp only [Act.put, List.setIfInBounds_toArray, List.set_cons_zero, List.set_cons_succ]
  refine qh_op (.pointer (some ⟨w.heap.size, 0, none⟩)) rfl (fun wS hSw => by go_simp; try with_reducible rfl) ?_
  simp only [Act.put, List.setIfInBounds_toArray, List.set_cons_zero, List.set_cons_succ]
  refine qh_op (.string key) rfl (fun wS hSw => by obtain ⟨k0, k1, k2, k3, k4⟩ := KX.out wS hSw; go_simp; try with_reducible rfl) ?_
  simp only [Act.put, List.setIfInBounds_toArray, List.set_cons_zero, List.set_cons_succ]
  refine qh_add rfl 9 _ _ rfl (SK) (key) (by rfl) (by rfl) (by omega) ?_
  simp only [Act.put, List.setIfInBounds_toArray, List.set_cons_zero, List.set_cons_succ]
  refine qh_op (.string (SK ++ key)) rfl (fun wS hSw => by go_simp; try with_reducible rfl) ?_
  simp only [Act.put, List.setIfInBounds_toArray, List.set_cons_zero, List.set_cons_succ]
  refine qh_nil ⟨?_⟩
  intro wE hE
  obtain ⟨k0, k1, k2, k3, k4⟩ := KX.out wE hE
  have d1 : decide ((0 : Int) < (0 : Int)) = false := decide_eq_false (by omega)
  have y2 : (SK ++ key ++ (⟨#[0]⟩ : ByteArray)).size = 2 + key.size + 1 := by rw [ByteArray.size_append, y1]; rfl
  go_upto_region 6 with fail
  refine region_qh (C := fun w' => Below wA.heap.size wA w') (by kernel_rfl) (by kernel_rfl) (hE.drew) ?_
  refine qh_op (.string (SK ++ key)) rfl (fun wS hSw => by go_simp; try with_reducible rfl) ?_
  simp only [Act.put, List.setIfInBounds_toArray, List.set_cons_zero, List.set_cons_succ]
  refine qh_add rfl 9 _ _ rfl (SK ++ key) (⟨#[0]⟩) (by rfl) (by rfl) (by simp only [y1]; show 2 + key.size + 1 ≤ _; omega) ?_
  simp only [Act.put, List.setIfInBounds_toArray, List.set_cons_zero, List.set_cons_succ]
  refine qh_op (.pointer (some ⟨w.heap.size, 1, none⟩)) rfl (fun wS hSw => by go_simp; try with_reducible rfl) ?_
  simp only [Act.put, List.setIfInBounds_toArray, List.set_cons_zero, List.set_cons_succ]
  refine qh_op (.string val) rfl (fun wS hSw => by obtain ⟨k0, k1, k2, k3, k4⟩ := KX.out wS hSw; go_simp; try with_reducible rfl) ?_
  simp only [Act.put, List.setIfInBounds_toArray, List.set_cons_zero, List.set_cons_succ]
  refine qh_op (.int .i64 val.size) rfl (fun wS hSw => by go_simp; try with_reducible rfl) ?_
  simp only [Act.put, List.setIfInBounds_toArray, List.set_cons_zero, List.set_cons_succ]
  refine qh_call2 (.string SV) rfl 30 _ _ _ rfl (.int .i64 val.size) (.int .i64 2) (by rfl) (by rfl) E31 (fun wS hSw => NV.out wS hSw) ?_
  simp only [Act.put, List.setIfInBounds_toArray, List.set_cons_zero, List.set_cons_succ]
  refine qh_add rfl 9 _ _ rfl (SK ++ key ++ ⟨#[0]⟩) (SV) (by rfl) (by rfl) (by rw [y2]; omega) ?_
  simp only [Act.put, List.setIfInBounds_toArray, List.set_cons_zero, List.set_cons_succ]
  refine qh_op (.pointer (some ⟨w.heap.size, 1, none⟩)) rfl (fun wS hSw => by go_simp; try with_reducible rfl) ?_
  simp only [Act.put, List.setIfInBounds_toArray, List.set_cons_zero, List.set_cons_succ]
  refine qh_op (.string val) rfl (fun wS hSw => by obtain ⟨k0, k1, k2, k3, k4⟩ := KX.out wS hSw; go_simp; try with_reducible rfl) ?_
  simp only [Act.put, List.setIfInBounds_toArray, List.set_cons_zero, List.set_cons_succ]
  refine qh_add rfl 9 _ _ rfl (SK ++ key ++ ⟨#[0]⟩ ++ SV) (val) (by rfl) (by rfl) (by rw [ByteArray.size_append, y2]; omega) ?_
  simp only [Act.put, List.setIfInBounds_toArray, List.set_cons_zero, List.set_cons_succ]
  refine qh_op (.string (SK ++ key ++ ⟨#[0]⟩ ++ SV ++ val)) rfl (fun wS hSw => by go_simp; try with_reducible rfl) ?_
  simp only [Act.put, List.setIfInBounds_toArray, List.set_cons_zero, List.set_cons_succ]
  refine qh_nil ⟨?_⟩
  intro wF hF
  go_wp2
  go_ret
  exact ⟨rfl, HBA.out.trans (hF.mono HBA.out.size)⟩
theorem size_nil {s : ByteArray} (h : s.size = 0) : s = ⟨#[]⟩ := by
  apply ByteArray.ext
  exact Array.eq_empty_of_size_eq_zero h
theorem ba_mid (key : ByteArray) (A B : List UInt8) : ba (A ++ (key.data.toList ++ B)) = ba A ++ key ++ ba B := by
  rw [← ba_append, ← ba_append, ba_data, ByteArray.append_assoc]
theorem ba_cons (x : UInt8) (B : List UInt8) : ba (x :: B) = ba [x] ++ ba B := by rw [ba_append]; rfl
theorem ba_last (val : ByteArray) (A : List UInt8) : ba (A ++ val.data.toList) = ba A ++ val := by rw [← ba_append, ba_data]
/-- a cell's bytes -/
theorem rone_ok (w : World) (leaf : Bool) (c : CV) (h : c.ok leaf = true) : Calls Try.prog 31 #[.bool leaf, c.v] w fun e w' => e = .returned (.string (ba (Node.one leaf c.cl))) ∧ Below w.heap.size w w' := by
  obtain ⟨key, val, over, size, child⟩ := c
  have ek : key.data.toList.length = key.size := by rw [Array.length_toList]; rfl
  have ev : val.data.toList.length = val.size := by rw [Array.length_toList]; rfl
  cases leaf
  · rw [CV.ok_branch] at h
    obtain ⟨h1, h2, h3, h4, rfl, rfl⟩ := h
    obtain ⟨child, rfl⟩ := Int.eq_ofNat_of_zero_le (show 0 ≤ child by omega)
    have hv := size_nil h4
    subst hv
    have e : ba (Node.one false (CV.cl ⟨key, ⟨#[]⟩, 0, 0, child⟩)) = ba (beB key.size 2 0) ++ key ++ ba (beB child 4 0) := by
      unfold Node.one Node.tailOf CV.cl
      simp only [Bool.false_eq_true, if_false, ek, Int.toNat_natCast]
      rw [ba_mid]
    rw [e]
    exact rone_branch w key child h1 (by omega)
  · rw [CV.ok_leaf] at h
    obtain ⟨h1, h2, rfl, h4⟩ := h
    rcases h4 with ⟨rfl, rfl, h5⟩ | ⟨h5, h6, h7, h8, h9⟩
    · have e : ba (Node.one true (CV.cl ⟨key, val, 0, 0, 0⟩)) = ba (beB key.size 2 0) ++ key ++ (⟨#[0]⟩ : ByteArray) ++ ba (beB val.size 2 0) ++ val := by
        unfold Node.one Node.tailOf CV.cl
        simp only [if_true, ek, ev]
        rw [if_neg (by decide), show (⟨#[0]⟩ : ByteArray) = ba [0] from rfl]
        rw [ba_mid, ba_cons, ba_last]
        simp only [ByteArray.append_assoc]
      rw [e]
      exact rone_inline w key val h1 h5
    · obtain ⟨over, rfl⟩ := Int.eq_ofNat_of_zero_le (show 0 ≤ over by omega)
      obtain ⟨size, rfl⟩ := Int.eq_ofNat_of_zero_le (show 0 ≤ size by omega)
      have hv := size_nil h5
      subst hv
      have e : ba (Node.one true (CV.cl ⟨key, ⟨#[]⟩, over, size, 0⟩)) = ba (beB key.size 2 0) ++ key ++ (⟨#[1]⟩ : ByteArray) ++ ba (beB over 4 0) ++ ba (beB size 4 0) := by
        unfold Node.one Node.tailOf CV.cl
        simp only [if_true, ek, Int.toNat_natCast]
        rw [if_pos (by omega), show (⟨#[1]⟩ : ByteArray) = ba [1] from rfl]
        rw [ba_mid, ba_cons, ← ba_append]
        simp only [ByteArray.append_assoc]
      rw [e]
      exact rone_over w key over size h1 (by omega) (by omega)
end Go.Proofs.Ytegmffeokfahjaa
