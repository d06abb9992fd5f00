/-
  Contract of the landed page's PackMeta (package page). No conditions.
-/
import Derived.Test.YtnhnfabgofncaaaPgPack
import Derived.Test.YtnhnfabgofncaaaPagePackM
namespace Go.Proofs.Ytnhnfabgofncaaa
open Go.RowKit
set_option maxRecDepth 4000 in
set_option maxHeartbeats 1600000 in
theorem ppackM_ok (w : World) (m : MV) : Calls Try.prog 17 #[m.val] w fun e w' => e = .returned (.tuple #[.string m.packS, .int .i64 m.packE]) ∧ Below w.heap.size w w' := by
  have RR := fun w => Lib.hid (prightM_ok w m)
  have hbl : Below w.heap.size w (w.alloc (.cells #[.int .i64 m.txn, .int .i64 m.root, .int .i64 m.free, .int .i64 m.pages, .int .i64 m.limit] 33)) := (Below.refl _ w).alloc (Nat.le_refl _) _
  cases hr : m.right
  · have HP : Hid (m.packS = ⟨#[]⟩ ∧ m.packE = 4) := Lib.hid (by unfold MV.packS MV.packE; rw [hr]; exact ⟨rfl, rfl⟩)
    simp only [hr] at RR
    clear hr
    obtain ⟨txn, root, free, pages, limit⟩ := m
    unfold MV.val at RR ⊢
    simp only at RR hbl ⊢
    go_enter Try.func17, Try.ntmps17
    go_wp2_with (go_at_call 21; refine (RR _).out.mono ?_; rintro _ w2 ⟨rfl, hb2⟩)
    go_ret2
    exact ⟨by rw [HP.out.1, HP.out.2]; rfl, hbl.trans (hb2.mono hbl.size)⟩
  · have hri := (MV.right_iff m).1 hr
    have HP : Hid (m.packS = ba (Page.headM m.me ++ (beB (Crc.on 0 (Page.headM m.me)) 4 0 ++ Page.noughts 92)) ∧ m.packE = 0) := Lib.hid (by unfold MV.packS MV.packE; rw [hr]; exact ⟨rfl, rfl⟩)
    simp only [hr] at RR
    clear hr
    obtain ⟨txn, root, free, pages, limit⟩ := m
    unfold MV.val at RR ⊢
    simp only at RR hbl hri ⊢
    obtain ⟨h1, h2, h3, h4, h5, h6, h7, h8, h9, h10⟩ := hri
    obtain ⟨txn, rfl⟩ := Int.eq_ofNat_of_zero_le (show 0 ≤ txn by omega)
    obtain ⟨root, rfl⟩ := Int.eq_ofNat_of_zero_le (show 0 ≤ root by omega)
    obtain ⟨free, rfl⟩ := Int.eq_ofNat_of_zero_le (show 0 ≤ free by omega)
    obtain ⟨pages, rfl⟩ := Int.eq_ofNat_of_zero_le (show 0 ≤ pages by omega)
    obtain ⟨limit, rfl⟩ := Int.eq_ofNat_of_zero_le (show 0 ≤ limit by omega)
    unfold MV.me at HP
    simp only [Int.toNat_natCast] at HP
    have HH := Lib.hid (head_bytes ⟨txn, root, free, pages, limit⟩)
    simp only at HH
    have hhl := Page.headM_length ⟨txn, root, free, pages, limit⟩
    obtain ⟨H, hH⟩ : ∃ H, Page.headM ⟨txn, root, free, pages, limit⟩ = H := ⟨_, rfl⟩
    rw [hH] at HP HH hhl
    obtain ⟨w1, hw1⟩ : ∃ w1, w.alloc (.cells #[.int .i64 txn, .int .i64 root, .int .i64 free, .int .i64 pages, .int .i64 limit] 33) = w1 := ⟨_, rfl⟩
    rw [hw1] at hbl
    have hsz : w1.heap.size = w.heap.size + 1 := by rw [← hw1]; simp
    have hnew : w1.heap[w.heap.size]? = some (.cells #[.int .i64 txn, .int .i64 root, .int .i64 free, .int .i64 pages, .int .i64 limit] 33 (0, 0)) := by rw [← hw1]; exact heap_alloc_new w _
    have cell : ∀ wS, Below w1.heap.size w1 wS → ∀ i, wS.cell? ⟨w.heap.size, i, none⟩ = (#[.int .i64 txn, .int .i64 root, .int .i64 free, .int .i64 pages, .int .i64 limit] : Array Value)[i]? := fun wS h i => by
      rw [cell_of_row wS w.heap.size i _ 33 (0, 0) ((h.block _ (by omega)).trans hnew)]
    have K0 : ∀ wS, Below w1.heap.size w1 wS → wS.cell? ⟨w.heap.size, 0, none⟩ = some (.int .i64 txn) := fun wS h => cell wS h 0
    have K1 : ∀ wS, Below w1.heap.size w1 wS → wS.cell? ⟨w.heap.size, 1, none⟩ = some (.int .i64 root) := fun wS h => cell wS h 1
    have K2 : ∀ wS, Below w1.heap.size w1 wS → wS.cell? ⟨w.heap.size, 2, none⟩ = some (.int .i64 free) := fun wS h => cell wS h 2
    have K3 : ∀ wS, Below w1.heap.size w1 wS → wS.cell? ⟨w.heap.size, 3, none⟩ = some (.int .i64 pages) := fun wS h => cell wS h 3
    have K4 : ∀ wS, Below w1.heap.size w1 wS → wS.cell? ⟨w.heap.size, 4, none⟩ = some (.int .i64 limit) := fun wS h => cell wS h 4
    have c0 := K0 w1 (Below.refl _ _)
    have c1 := K1 w1 (Below.refl _ _)
    have c2 := K2 w1 (Below.refl _ _)
    have c3 := K3 w1 (Below.refl _ _)
    have c4 := K4 w1 (Below.refl _ _)
    obtain ⟨n, hn⟩ : ∃ n : Nat, Crc.on 0 H = n := ⟨_, rfl⟩
    have hn32 : n < 2 ^ 32 := by rw [← hn]; exact Page.on_lt _ _
    rw [hn] at HP
    have HB : Hid (ba (H ++ (beB n 4 0 ++ Page.noughts 92)) = ba H ++ ba (beB n 4 0) ++ ba (Page.noughts 92)) := Lib.hid (by simp only [ba_append, List.append_assoc])
    rw [HB.out] at HP
    have SC : Hid (∀ wS, Calls Try.prog 26 #[.string (ba H)] wS fun e w' => e = .returned (.int .u32 n) ∧ wS = w') :=
      Lib.hid (fun wS => (sum_ok (ba H) (by rw [ba_size, hhl]; omega) wS).mono fun _ _ ⟨e, hb⟩ => ⟨by rw [e, data_ba, hn], hb⟩)
    obtain ⟨X, hX⟩ : ∃ X, ba H = X := ⟨_, rfl⟩
    rw [hX] at HH SC HP
    have hcv : IntKind.i64.wrap (n : Int) = (n : Int) := IntWalk.i64_in _ (by omega)
    obtain ⟨O, hO⟩ : ∃ O : ByteArray, ba [82, 79, 76, 76, 66, 79, 79, 75] = O := ⟨_, rfl⟩
    have z0 : (ba [82, 79, 76, 76, 66, 79, 79, 75]).size = 8 := by rw [ba_size]; rfl
    clear hO
    have C1 := fun w => Lib.hid (lay_ok (ba [82, 79, 76, 76, 66, 79, 79, 75]) txn 8 (by omega) (by omega) (by omega) (by omega) (by omega) w)
    have z1 : (ba [82, 79, 76, 76, 66, 79, 79, 75] ++ ba (beB txn 8 0)).size = 16 := by rw [ByteArray.size_append, z0, ba_size, beB_length]
    obtain ⟨S1, e1⟩ : ∃ S, ba [82, 79, 76, 76, 66, 79, 79, 75] ++ ba (beB txn 8 0) = S := ⟨_, rfl⟩
    rw [e1] at C1 z1 HH
    have C2 := fun w => Lib.hid (lay_ok (S1) root 4 (by omega) (by omega) (by omega) (by omega) (by omega) w)
    have z2 : (S1 ++ ba (beB root 4 0)).size = 20 := by rw [ByteArray.size_append, z1, ba_size, beB_length]
    obtain ⟨S2, e2⟩ : ∃ S, S1 ++ ba (beB root 4 0) = S := ⟨_, rfl⟩
    rw [e2] at C2 z2 HH
    have C3 := fun w => Lib.hid (lay_ok (S2) free 4 (by omega) (by omega) (by omega) (by omega) (by omega) w)
    have z3 : (S2 ++ ba (beB free 4 0)).size = 24 := by rw [ByteArray.size_append, z2, ba_size, beB_length]
    obtain ⟨S3, e3⟩ : ∃ S, S2 ++ ba (beB free 4 0) = S := ⟨_, rfl⟩
    rw [e3] at C3 z3 HH
    have C4 := fun w => Lib.hid (lay_ok (S3) pages 4 (by omega) (by omega) (by omega) (by omega) (by omega) w)
    have z4 : (S3 ++ ba (beB pages 4 0)).size = 28 := by rw [ByteArray.size_append, z3, ba_size, beB_length]
    obtain ⟨S4, e4⟩ : ∃ S, S3 ++ ba (beB pages 4 0) = S := ⟨_, rfl⟩
    rw [e4] at C4 z4 HH
    have C5 := fun w => Lib.hid (lay_ok (S4) limit 4 (by omega) (by omega) (by omega) (by omega) (by omega) w)
    have z5 : (S4 ++ ba (beB limit 4 0)).size = 32 := by rw [ByteArray.size_append, z4, ba_size, beB_length]
    obtain ⟨S5, e5⟩ : ∃ S, S4 ++ ba (beB limit 4 0) = S := ⟨_, rfl⟩
    rw [e5] at C5 z5 HH
    have HX := HH.out
    rw [HX] at SC HP
    have C6 := fun w => Lib.hid (lay_ok S5 n 4 (by omega) (by omega) (by omega) (by omega) (by omega) w)
    have z6 : (S5 ++ ba (beB n 4 0)).size = 36 := by rw [ByteArray.size_append, z5, ba_size, beB_length]
    obtain ⟨S6, e6⟩ : ∃ S, S5 ++ ba (beB n 4 0) = S := ⟨_, rfl⟩
    rw [e6] at C6 z6 HP
    have C7 := fun w => Lib.hid (fill_ok S6 128 (by omega) (by omega) w)
    rw [show 128 - S6.size = 92 by omega] at C7
    obtain ⟨S7, e7⟩ : ∃ S, S6 ++ ba (Page.noughts 92) = S := ⟨_, rfl⟩
    rw [e7] at C7 HP
    clear O h1 h2 h3 h4 h5 h6 h7 h8 h9 h10 hn32 hn hH hX HX HB HH hhl H X cell e1 e2 e3 e4 e5 e6 e7 z0 z1 z2 z3 z4 z5 z6
    go_enter Try.func17, Try.ntmps17
    go_wp2_with (go_at_call 21; refine (RR _).out.mono ?_; rintro _ w2 ⟨rfl, hb2⟩; have k0 := K0 _ hb2)
    refine (C1 _).out.mono ?_
    rintro _ v1 ⟨rfl, hv1⟩
    have B1 := hb2.trans (hv1.mono hb2.size)
    have k1 := K1 v1 B1
    go_wp2_with fail
    refine (C2 _).out.mono ?_
    rintro _ v2 ⟨rfl, hv2⟩
    have B2 := B1.trans (hv2.mono B1.size)
    have k2 := K2 v2 B2
    go_wp2_with fail
    refine (C3 _).out.mono ?_
    rintro _ v3 ⟨rfl, hv3⟩
    have B3 := B2.trans (hv3.mono B2.size)
    have k3 := K3 v3 B3
    go_wp2_with fail
    refine (C4 _).out.mono ?_
    rintro _ v4 ⟨rfl, hv4⟩
    have B4 := B3.trans (hv4.mono B3.size)
    have k4 := K4 v4 B4
    go_wp2_with fail
    refine (C5 _).out.mono ?_
    rintro _ v5 ⟨rfl, hv5⟩
    have B5 := B4.trans (hv5.mono B4.size)
    go_wp2_with fail
    refine (SC.out _).mono ?_
    rintro _ _ ⟨rfl, rfl⟩
    go_wp2_with fail
    refine (C6 _).out.mono ?_
    rintro _ v6 ⟨rfl, hv6⟩
    have B6 := B5.trans (hv6.mono B5.size)
    go_wp2_with fail
    refine (C7 _).out.mono ?_
    rintro _ v7 ⟨rfl, hv7⟩
    have B7 := B6.trans (hv7.mono B6.size)
    go_wp2
    go_ret2
    exact ⟨by rw [HP.out.1, HP.out.2]; rfl, hbl.trans (B7.mono (by omega))⟩
end Go.Proofs.Ytnhnfabgofncaaa
