/-
  Contract of the reference's PackMeta (rollbookref04). No conditions.
-/
import Derived.Test.YtnhnfabgofncaaaPageRight
import Derived.Test.YtnhnfabgofncaaaCrcRef
import Derived.Test.YtnhnfabgofncaaaQStep
namespace Go.Proofs.Ytnhnfabgofncaaa
open Go.RowKit
theorem head_bytes (m : Page.ME) : ba (Page.headM m) = ba [82, 79, 76, 76, 66, 79, 79, 75] ++ ba (beB m.txn 8 0) ++ ba (beB m.root 4 0) ++ ba (beB m.free 4 0) ++ ba (beB m.pages 4 0) ++ ba (beB m.limit 4 0) := by
  simp only [ba_append]
  congr 1
set_option maxRecDepth 4000 in
set_option maxHeartbeats 1600000 in
theorem rpackM_ok (w : World) (m : MV) : Calls Try.prog 20 #[m.val] w fun e w' => e = .returned (.tuple #[.string m.packS, .int .i64 m.packE]) ∧ Below w.heap.size w w' := by
  have RR := fun w => Lib.hid (rrightM_ok w m)
  have hbl : Below w.heap.size w (w.alloc (.cells #[.int .i64 m.txn, .int .i64 m.root, .int .i64 m.free, .int .i64 m.pages, .int .i64 m.limit] 33)) := (Below.refl _ w).alloc (Nat.le_refl _) _
  cases hr : m.right
  · have HP : Hid (m.packS = ⟨#[]⟩ ∧ m.packE = 4) := Lib.hid (by unfold MV.packS MV.packE; rw [hr]; exact ⟨rfl, rfl⟩)
    simp only [hr] at RR
    clear hr
    obtain ⟨txn, root, free, pages, limit⟩ := m
    unfold MV.val at RR ⊢
    simp only at RR hbl ⊢
    go_enter Try.func20, Try.ntmps20
    go_wp2_with (go_at_call 22; refine (RR _).out.mono ?_; rintro _ w2 ⟨rfl, hb2⟩)
    go_ret2
    exact ⟨by rw [HP.out.1, HP.out.2]; rfl, hbl.trans (hb2.mono hbl.size)⟩
  · have hri := (MV.right_iff m).1 hr
    have HP : Hid (m.packS = ba (Page.headM m.me ++ (beB (Crc.on 0 (Page.headM m.me)) 4 0 ++ Page.noughts 92)) ∧ m.packE = 0) := Lib.hid (by unfold MV.packS MV.packE; rw [hr]; exact ⟨rfl, rfl⟩)
    simp only [hr] at RR
    clear hr
    obtain ⟨txn, root, free, pages, limit⟩ := m
    unfold MV.val at RR ⊢
    simp only at RR hbl hri ⊢
    obtain ⟨h1, h2, h3, h4, h5, h6, h7, h8, h9, h10⟩ := hri
    obtain ⟨txn, rfl⟩ := Int.eq_ofNat_of_zero_le (show 0 ≤ txn by omega)
    obtain ⟨root, rfl⟩ := Int.eq_ofNat_of_zero_le (show 0 ≤ root by omega)
    obtain ⟨free, rfl⟩ := Int.eq_ofNat_of_zero_le (show 0 ≤ free by omega)
    obtain ⟨pages, rfl⟩ := Int.eq_ofNat_of_zero_le (show 0 ≤ pages by omega)
    obtain ⟨limit, rfl⟩ := Int.eq_ofNat_of_zero_le (show 0 ≤ limit by omega)
    unfold MV.me at HP
    simp only [Int.toNat_natCast] at HP
    have HH := Lib.hid (head_bytes ⟨txn, root, free, pages, limit⟩)
    simp only at HH
    have hhl := Page.headM_length ⟨txn, root, free, pages, limit⟩
    obtain ⟨H, hH⟩ : ∃ H, Page.headM ⟨txn, root, free, pages, limit⟩ = H := ⟨_, rfl⟩
    rw [hH] at HP HH hhl
    have E30 := func_enters Try.func30 (by kernel_rfl) rfl
    obtain ⟨w1, hw1⟩ : ∃ w1, w.alloc (.cells #[.int .i64 txn, .int .i64 root, .int .i64 free, .int .i64 pages, .int .i64 limit] 33) = w1 := ⟨_, rfl⟩
    rw [hw1] at hbl
    have hsz : w1.heap.size = w.heap.size + 1 := by rw [← hw1]; simp
    have hnew : w1.heap[w.heap.size]? = some (.cells #[.int .i64 txn, .int .i64 root, .int .i64 free, .int .i64 pages, .int .i64 limit] 33 (0, 0)) := by rw [← hw1]; exact heap_alloc_new w _
    have cell : ∀ wS, Below w1.heap.size w1 wS → ∀ i, wS.cell? ⟨w.heap.size, i, none⟩ = (#[.int .i64 txn, .int .i64 root, .int .i64 free, .int .i64 pages, .int .i64 limit] : Array Value)[i]? := fun wS h i => by
      rw [cell_of_row wS w.heap.size i _ 33 (0, 0) ((h.block _ (by omega)).trans hnew)]
    have K0 : ∀ wS, Below w1.heap.size w1 wS → wS.cell? ⟨w.heap.size, 0, none⟩ = some (.int .i64 txn) := fun wS h => cell wS h 0
    have K1 : ∀ wS, Below w1.heap.size w1 wS → wS.cell? ⟨w.heap.size, 1, none⟩ = some (.int .i64 root) := fun wS h => cell wS h 1
    have K2 : ∀ wS, Below w1.heap.size w1 wS → wS.cell? ⟨w.heap.size, 2, none⟩ = some (.int .i64 free) := fun wS h => cell wS h 2
    have K3 : ∀ wS, Below w1.heap.size w1 wS → wS.cell? ⟨w.heap.size, 3, none⟩ = some (.int .i64 pages) := fun wS h => cell wS h 3
    have K4 : ∀ wS, Below w1.heap.size w1 wS → wS.cell? ⟨w.heap.size, 4, none⟩ = some (.int .i64 limit) := fun wS h => cell wS h 4
    have c0 := K0 w1 (Below.refl _ _)
    have c1 := K1 w1 (Below.refl _ _)
    have c2 := K2 w1 (Below.refl _ _)
    have c3 := K3 w1 (Below.refl _ _)
    have c4 := K4 w1 (Below.refl _ _)
    have num : ∀ n k : Nat, n < 2 ^ (8 * k) → n < 2 ^ 63 → 1 ≤ k → k ≤ 8 → Hid (∀ wS, Below w1.heap.size w1 wS → Calls Try.prog 30 #[.int .i64 n, .int .i64 k] wS fun e w' => e = .returned (.string (ba (beB n k 0))) ∧ Below w1.heap.size w1 w') := fun n k h1 h2 h3 h4 =>
      Lib.hid (fun wS hS => (number_ok n k h1 h2 h3 h4 wS).mono fun _ _ ⟨e, hb⟩ => ⟨e, hS.trans (hb.mono hS.size)⟩)
    obtain ⟨n, hn⟩ : ∃ n : Nat, Crc.on 0 H = n := ⟨_, rfl⟩
    have hn32 : n < 2 ^ 32 := by rw [← hn]; exact Page.on_lt _ _
    rw [hn] at HP
    have SC : Hid (∀ wS, Calls Try.prog 27 #[.string (ba H)] wS fun e w' => e = .returned (.int .u32 n) ∧ wS = w') :=
      Lib.hid (fun wS => (rsum_ok (ba H) (by rw [ba_size, hhl]; omega) wS).mono fun _ _ ⟨e, hb⟩ => ⟨by rw [e, data_ba, hn], hb⟩)
    have NC := Lib.hid (fun wS => number_ok n 4 (by omega) (by omega) (by omega) (by omega) wS)
    have ZC := Lib.hid (fun wS => noughts_ok 92 (by omega) wS)
    have HB : Hid (ba (H ++ (beB n 4 0 ++ Page.noughts 92)) = ba H ++ ba (beB n 4 0) ++ ba (Page.noughts 92)) := Lib.hid (by simp only [ba_append, List.append_assoc])
    have x1 : (ba H).size = 32 := by rw [ba_size, hhl]
    have x2 : (ba (beB n 4 0)).size = 4 := by rw [ba_size, beB_length]
    have x3 : (ba (Page.noughts 92)).size = 92 := by rw [ba_size]; simp [Page.noughts]
    have N0c := num txn 8 (by omega) (by omega) (by omega) (by omega)
    have y0 : (ba (beB txn 8 0)).size = 8 := by rw [ba_size, beB_length]
    obtain ⟨N0, g0⟩ : ∃ N, ba (beB txn 8 0) = N := ⟨_, rfl⟩
    rw [g0] at y0 N0c HH
    have N1c := num root 4 (by omega) (by omega) (by omega) (by omega)
    have y1 : (ba (beB root 4 0)).size = 4 := by rw [ba_size, beB_length]
    obtain ⟨N1, g1⟩ : ∃ N, ba (beB root 4 0) = N := ⟨_, rfl⟩
    rw [g1] at y1 N1c HH
    have N2c := num free 4 (by omega) (by omega) (by omega) (by omega)
    have y2 : (ba (beB free 4 0)).size = 4 := by rw [ba_size, beB_length]
    obtain ⟨N2, g2⟩ : ∃ N, ba (beB free 4 0) = N := ⟨_, rfl⟩
    rw [g2] at y2 N2c HH
    have N3c := num pages 4 (by omega) (by omega) (by omega) (by omega)
    have y3 : (ba (beB pages 4 0)).size = 4 := by rw [ba_size, beB_length]
    obtain ⟨N3, g3⟩ : ∃ N, ba (beB pages 4 0) = N := ⟨_, rfl⟩
    rw [g3] at y3 N3c HH
    have N4c := num limit 4 (by omega) (by omega) (by omega) (by omega)
    have y4 : (ba (beB limit 4 0)).size = 4 := by rw [ba_size, beB_length]
    obtain ⟨N4, g4⟩ : ∃ N, ba (beB limit 4 0) = N := ⟨_, rfl⟩
    rw [g4] at y4 N4c HH
    have y8 : (ba [82, 79, 76, 76, 66, 79, 79, 75]).size = 8 := by rw [ba_size]; rfl
    obtain ⟨X, hX⟩ : ∃ X, ba H = X := ⟨_, rfl⟩
    obtain ⟨Y, hY⟩ : ∃ Y, ba (beB n 4 0) = Y := ⟨_, rfl⟩
    obtain ⟨Z, hZ⟩ : ∃ Z, ba (Page.noughts 92) = Z := ⟨_, rfl⟩
    rw [hX] at HH SC HB x1
    rw [show (⟨(beB n 4 0).toArray⟩ : ByteArray) = Y from hY] at NC
    rw [hY] at HB x2
    rw [show (⟨(Page.noughts 92).toArray⟩ : ByteArray) = Z from hZ] at ZC
    rw [hZ] at HB x3
    rw [HB.out] at HP
    have hcv : IntKind.i64.wrap (n : Int) = (n : Int) := IntWalk.i64_in _ (by omega)
    have q1 : ¬ ((9223372036854775807 : Int) < (X.size : Int) + (Y.size : Int)) := by omega
    have q2 : ¬ ((9223372036854775807 : Int) < (X.size : Int) + (Y.size : Int) + (Z.size : Int)) := by omega
    clear num cell hn hH hX hY hZ hhl h1 h2 h3 h4 h5 h6 h7 h8 h9 h10 g0 g1 g2 g3 g4
    go_enter Try.func20, Try.ntmps20
    go_wp2_with (go_at_call 22; refine (RR _).out.mono ?_; rintro _ w2 ⟨rfl, hb2⟩)
    refine region_q (C := fun w' => Below w1.heap.size w1 w') (by kernel_rfl) (by kernel_rfl) hb2.drew ?_
    refine q_op (.pointer (some ⟨w.heap.size, 0, none⟩)) rfl (fun wS hSw => by go_simp; try with_reducible rfl) ?_
    simp only [Act.put, List.setIfInBounds_toArray, List.set_cons_zero, List.set_cons_succ]
    refine q_op (.int .i64 txn) rfl (fun wS hSw => by have h0 := K0 wS hSw; go_simp; try with_reducible rfl) ?_
    simp only [Act.put, List.setIfInBounds_toArray, List.set_cons_zero, List.set_cons_succ]
    refine q_call2 (.string N0) rfl 30 _ _ _ rfl (.int .i64 txn) (.int .i64 (8 : Nat)) (by rfl) (by rfl) E30 (fun wS hSw => N0c.out wS hSw) ?_
    simp only [Act.put, List.setIfInBounds_toArray, List.set_cons_zero, List.set_cons_succ]
    refine q_add rfl 9 _ _ rfl (ba [82, 79, 76, 76, 66, 79, 79, 75]) (N0) (by rfl) (by rfl) (by omega) ?_
    obtain ⟨S1, e1⟩ : ∃ S, ba [82, 79, 76, 76, 66, 79, 79, 75] ++ N0 = S := ⟨_, rfl⟩
    have z1 : S1.size = (ba [82, 79, 76, 76, 66, 79, 79, 75]).size + (N0).size := by rw [← e1, ByteArray.size_append]
    rw [e1]
    have E1 := Lib.hid e1
    clear e1
    simp only [Act.put, List.setIfInBounds_toArray, List.set_cons_zero, List.set_cons_succ]
    refine q_op (.pointer (some ⟨w.heap.size, 1, none⟩)) rfl (fun wS hSw => by go_simp; try with_reducible rfl) ?_
    simp only [Act.put, List.setIfInBounds_toArray, List.set_cons_zero, List.set_cons_succ]
    refine q_op (.int .i64 root) rfl (fun wS hSw => by have h0 := K1 wS hSw; go_simp; try with_reducible rfl) ?_
    simp only [Act.put, List.setIfInBounds_toArray, List.set_cons_zero, List.set_cons_succ]
    refine q_call2 (.string N1) rfl 30 _ _ _ rfl (.int .i64 root) (.int .i64 (4 : Nat)) (by rfl) (by rfl) E30 (fun wS hSw => N1c.out wS hSw) ?_
    simp only [Act.put, List.setIfInBounds_toArray, List.set_cons_zero, List.set_cons_succ]
    refine q_add rfl 9 _ _ rfl (S1) (N1) (by rfl) (by rfl) (by omega) ?_
    obtain ⟨S2, e2⟩ : ∃ S, S1 ++ N1 = S := ⟨_, rfl⟩
    have z2 : S2.size = (S1).size + (N1).size := by rw [← e2, ByteArray.size_append]
    rw [e2]
    have E2 := Lib.hid e2
    clear e2
    simp only [Act.put, List.setIfInBounds_toArray, List.set_cons_zero, List.set_cons_succ]
    refine q_op (.pointer (some ⟨w.heap.size, 2, none⟩)) rfl (fun wS hSw => by go_simp; try with_reducible rfl) ?_
    simp only [Act.put, List.setIfInBounds_toArray, List.set_cons_zero, List.set_cons_succ]
    refine q_op (.int .i64 free) rfl (fun wS hSw => by have h0 := K2 wS hSw; go_simp; try with_reducible rfl) ?_
    simp only [Act.put, List.setIfInBounds_toArray, List.set_cons_zero, List.set_cons_succ]
    refine q_call2 (.string N2) rfl 30 _ _ _ rfl (.int .i64 free) (.int .i64 (4 : Nat)) (by rfl) (by rfl) E30 (fun wS hSw => N2c.out wS hSw) ?_
    simp only [Act.put, List.setIfInBounds_toArray, List.set_cons_zero, List.set_cons_succ]
    refine q_add rfl 9 _ _ rfl (S2) (N2) (by rfl) (by rfl) (by omega) ?_
    obtain ⟨S3, e3⟩ : ∃ S, S2 ++ N2 = S := ⟨_, rfl⟩
    have z3 : S3.size = (S2).size + (N2).size := by rw [← e3, ByteArray.size_append]
    rw [e3]
    have E3 := Lib.hid e3
    clear e3
    simp only [Act.put, List.setIfInBounds_toArray, List.set_cons_zero, List.set_cons_succ]
    refine q_op (.pointer (some ⟨w.heap.size, 3, none⟩)) rfl (fun wS hSw => by go_simp; try with_reducible rfl) ?_
    simp only [Act.put, List.setIfInBounds_toArray, List.set_cons_zero, List.set_cons_succ]
    refine q_op (.int .i64 pages) rfl (fun wS hSw => by have h0 := K3 wS hSw; go_simp; try with_reducible rfl) ?_
    simp only [Act.put, List.setIfInBounds_toArray, List.set_cons_zero, List.set_cons_succ]
    refine q_call2 (.string N3) rfl 30 _ _ _ rfl (.int .i64 pages) (.int .i64 (4 : Nat)) (by rfl) (by rfl) E30 (fun wS hSw => N3c.out wS hSw) ?_
    simp only [Act.put, List.setIfInBounds_toArray, List.set_cons_zero, List.set_cons_succ]
    refine q_add rfl 9 _ _ rfl (S3) (N3) (by rfl) (by rfl) (by omega) ?_
    obtain ⟨S4, e4⟩ : ∃ S, S3 ++ N3 = S := ⟨_, rfl⟩
    have z4 : S4.size = (S3).size + (N3).size := by rw [← e4, ByteArray.size_append]
    rw [e4]
    have E4 := Lib.hid e4
    clear e4
    simp only [Act.put, List.setIfInBounds_toArray, List.set_cons_zero, List.set_cons_succ]
    refine q_op (.pointer (some ⟨w.heap.size, 4, none⟩)) rfl (fun wS hSw => by go_simp; try with_reducible rfl) ?_
    simp only [Act.put, List.setIfInBounds_toArray, List.set_cons_zero, List.set_cons_succ]
    refine q_op (.int .i64 limit) rfl (fun wS hSw => by have h0 := K4 wS hSw; go_simp; try with_reducible rfl) ?_
    simp only [Act.put, List.setIfInBounds_toArray, List.set_cons_zero, List.set_cons_succ]
    refine q_call2 (.string N4) rfl 30 _ _ _ rfl (.int .i64 limit) (.int .i64 (4 : Nat)) (by rfl) (by rfl) E30 (fun wS hSw => N4c.out wS hSw) ?_
    simp only [Act.put, List.setIfInBounds_toArray, List.set_cons_zero, List.set_cons_succ]
    refine q_add rfl 9 _ _ rfl (S4) (N4) (by rfl) (by rfl) (by omega) ?_
    obtain ⟨S5, e5⟩ : ∃ S, S4 ++ N4 = S := ⟨_, rfl⟩
    have z5 : S5.size = (S4).size + (N4).size := by rw [← e5, ByteArray.size_append]
    rw [e5]
    have E5 := Lib.hid e5
    clear e5
    simp only [Act.put, List.setIfInBounds_toArray, List.set_cons_zero, List.set_cons_succ]
    refine q_op (.string S5) rfl (fun wS hSw => by go_simp; try with_reducible rfl) ?_
    simp only [Act.put, List.setIfInBounds_toArray, List.set_cons_zero, List.set_cons_succ]
    refine wpQuiet_nil ?_
    intro w3 hw3
    have HX : Hid (S5 = X) := Lib.hid (by rw [HH.out, E1.out, E2.out, E3.out, E4.out, E5.out])
    obtain rfl := HX.out
    clear HX E1 E2 E3 E4 E5 HH z1 z2 z3 z4 z5 y0 y1 y2 y3 y4 y8
    go_wp2_with (first | (go_at_call 27; refine (SC.out _).mono ?_; rintro _ _ ⟨rfl, rfl⟩) | (go_at_call 30; refine (NC.out _).mono ?_; rintro _ w4 ⟨rfl, hb4⟩) | (go_at_call 29; refine (ZC.out _).mono ?_; rintro _ w5 ⟨rfl, hb5⟩))
    go_ret2
    have B4 := hw3.trans (hb4.mono hw3.size)
    exact ⟨by rw [HP.out.1, HP.out.2]; rfl, hbl.trans ((B4.trans (hb5.mono B4.size)).mono (by omega))⟩
end Go.Proofs.Ytnhnfabgofncaaa
