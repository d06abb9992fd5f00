/-
  Contract of the landed page's withSum (package page): a page's bytes with a sum in its place. No conditions but the numbers' ranges.
-/
import Derived.Test.YtnhnfabgofncaaaPgFill
import Derived.Test.YtnhnfabgofncaaaPageWith
namespace Go.Proofs.Ytnhnfabgofncaaa
open Go.RowKit
theorem beB_zero (k : Nat) : beB 0 k 0 = Page.noughts k := by
  unfold beB Page.noughts
  rw [List.eq_replicate_iff]
  refine ⟨by simp, fun b hb => ?_⟩
  rw [List.mem_map] at hb
  obtain ⟨t, _, rfl⟩ := hb
  rw [Nat.zero_div]
  rfl
set_option maxRecDepth 4000 in
set_option maxHeartbeats 1600000 in
theorem pwith_ok (kind no txn : Nat) (body : ByteArray) (sum : Nat) (hk : kind < 2 ^ 8) (hno : no < 2 ^ 32) (ht : txn < 2 ^ 63) (hb : body.size ≤ 488) (hs : sum < 2 ^ 32) (w : World) :
    Calls Try.prog 25 #[.agg #[.int .i64 kind, .int .i64 no, .int .i64 txn, .string body], .int .u32 sum] w fun e w' => e = .returned (.string (ba (Page.withSum ⟨kind, no, txn, body.data.toList⟩ (beB sum 4 0)))) ∧ Below w.heap.size w w' := by
  obtain ⟨w1, hw1⟩ : ∃ w1, w.alloc (.cells #[.int .i64 kind, .int .i64 no, .int .i64 txn, .string body] 23) = w1 := ⟨_, rfl⟩
  have hsz : w1.heap.size = w.heap.size + 1 := by rw [← hw1]; simp
  have hbel : Below w.heap.size w w1 := by rw [← hw1]; exact (Below.refl _ w).alloc (Nat.le_refl _) _
  have hnew : w1.heap[w.heap.size]? = some (.cells #[.int .i64 kind, .int .i64 no, .int .i64 txn, .string body] 23 (0, 0)) := by rw [← hw1]; exact heap_alloc_new w _
  have cell : ∀ wS, Below w1.heap.size w1 wS → ∀ i, wS.cell? ⟨w.heap.size, i, none⟩ = (#[.int .i64 kind, .int .i64 no, .int .i64 txn, .string body] : Array Value)[i]? := fun wS h i => by
    rw [cell_of_row wS w.heap.size i _ 23 (0, 0) ((h.block _ (by omega)).trans hnew)]
  have K0 : ∀ wS, Below w1.heap.size w1 wS → wS.cell? ⟨w.heap.size, 0, none⟩ = some (.int .i64 kind) := fun wS h => cell wS h 0
  have K1 : ∀ wS, Below w1.heap.size w1 wS → wS.cell? ⟨w.heap.size, 1, none⟩ = some (.int .i64 no) := fun wS h => cell wS h 1
  have K2 : ∀ wS, Below w1.heap.size w1 wS → wS.cell? ⟨w.heap.size, 2, none⟩ = some (.int .i64 txn) := fun wS h => cell wS h 2
  have K3 : ∀ wS, Below w1.heap.size w1 wS → wS.cell? ⟨w.heap.size, 3, none⟩ = some (.string body) := fun wS h => cell wS h 3
  have HW := Lib.hid (with_bytes ⟨kind, no, txn, body.data.toList⟩ (ba (beB sum 4 0)))
  simp only [ba_data, data_ba, Array.length_toList] at HW
  rw [show body.data.size = body.size from rfl, ← beB_zero 1, ← beB_zero 2] at HW
  obtain ⟨X, hX⟩ : ∃ X, ba (Page.withSum ⟨kind, no, txn, body.data.toList⟩ (beB sum 4 0)) = X := ⟨_, rfl⟩
  rw [hX] at HW ⊢
  have hcv : IntKind.i64.wrap (sum : Int) = (sum : Int) := IntWalk.i64_in _ (by omega)
  have z0 : (ba [82, 66]).size = 2 := by rw [ba_size]; rfl
  have C1 := fun w => Lib.hid (lay_ok (ba [82, 66]) kind 1 (by omega) (by omega) (by omega) (by omega) (by omega) w)
  have z1 : (ba [82, 66] ++ ba (beB kind 1 0)).size = 3 := by rw [ByteArray.size_append, z0, ba_size, beB_length]
  obtain ⟨S1, e1⟩ : ∃ S, ba [82, 66] ++ ba (beB kind 1 0) = S := ⟨_, rfl⟩
  rw [e1] at C1 z1 HW
  have C2 := fun w => Lib.hid (lay_ok (S1) 0 1 (by omega) (by omega) (by omega) (by omega) (by omega) w)
  have z2 : (S1 ++ ba (beB 0 1 0)).size = 4 := by rw [ByteArray.size_append, z1, ba_size, beB_length]
  obtain ⟨S2, e2⟩ : ∃ S, S1 ++ ba (beB 0 1 0) = S := ⟨_, rfl⟩
  rw [e2] at C2 z2 HW
  have C3 := fun w => Lib.hid (lay_ok (S2) body.size 2 (by omega) (by omega) (by omega) (by omega) (by omega) w)
  have z3 : (S2 ++ ba (beB body.size 2 0)).size = 6 := by rw [ByteArray.size_append, z2, ba_size, beB_length]
  obtain ⟨S3, e3⟩ : ∃ S, S2 ++ ba (beB body.size 2 0) = S := ⟨_, rfl⟩
  rw [e3] at C3 z3 HW
  have C4 := fun w => Lib.hid (lay_ok (S3) no 4 (by omega) (by omega) (by omega) (by omega) (by omega) w)
  have z4 : (S3 ++ ba (beB no 4 0)).size = 10 := by rw [ByteArray.size_append, z3, ba_size, beB_length]
  obtain ⟨S4, e4⟩ : ∃ S, S3 ++ ba (beB no 4 0) = S := ⟨_, rfl⟩
  rw [e4] at C4 z4 HW
  have C5 := fun w => Lib.hid (lay_ok (S4) txn 8 (by omega) (by omega) (by omega) (by omega) (by omega) w)
  have z5 : (S4 ++ ba (beB txn 8 0)).size = 18 := by rw [ByteArray.size_append, z4, ba_size, beB_length]
  obtain ⟨S5, e5⟩ : ∃ S, S4 ++ ba (beB txn 8 0) = S := ⟨_, rfl⟩
  rw [e5] at C5 z5 HW
  have C6 := fun w => Lib.hid (lay_ok (S5) sum 4 (by omega) (by omega) (by omega) (by omega) (by omega) w)
  have z6 : (S5 ++ ba (beB sum 4 0)).size = 22 := by rw [ByteArray.size_append, z5, ba_size, beB_length]
  obtain ⟨S6, e6⟩ : ∃ S, S5 ++ ba (beB sum 4 0) = S := ⟨_, rfl⟩
  rw [e6] at C6 z6 HW
  have C7 := fun w => Lib.hid (lay_ok (S6) 0 2 (by omega) (by omega) (by omega) (by omega) (by omega) w)
  have z7 : (S6 ++ ba (beB 0 2 0)).size = 24 := by rw [ByteArray.size_append, z6, ba_size, beB_length]
  obtain ⟨S7, e7⟩ : ∃ S, S6 ++ ba (beB 0 2 0) = S := ⟨_, rfl⟩
  rw [e7] at C7 z7 HW
  have z8 : (S7 ++ body).size = 24 + body.size := by rw [ByteArray.size_append, z7]
  have q8 : ¬ ((9223372036854775807 : Int) < (S7.size : Int) + (body.size : Int)) := by omega
  obtain ⟨S8, e8⟩ : ∃ S, S7 ++ body = S := ⟨_, rfl⟩
  rw [e8] at z8 HW

  have C9 := fun w => Lib.hid (fill_ok S8 512 (by omega) (by omega) w)
  rw [show 512 - S8.size = 488 - body.size by omega, ← HW.out] at C9
  clear hk hno ht hb hs cell HW hX
  clear e1 e2 e3 e4 e5 e6 e7 z0 z1 z2 z3 z4 z5 z6
  have c0 := K0 w1 (Below.refl _ _)
  go_enter Try.func25, Try.ntmps25
  go_wp2_with fail
  refine (C1 _).out.mono ?_
  rintro _ w2 ⟨rfl, hb2⟩
  go_wp2_with fail
  have B2 := hb2
  refine (C2 _).out.mono ?_
  rintro _ w3 ⟨rfl, hb3⟩
  have B3 := B2.trans (hb3.mono B2.size)
  have c12 := K3 w3 B3
  go_wp2_with fail
  refine (C3 _).out.mono ?_
  rintro _ w4 ⟨rfl, hb4⟩
  have B4 := B3.trans (hb4.mono B3.size)
  have c13 := K1 w4 B4
  go_wp2_with fail
  refine (C4 _).out.mono ?_
  rintro _ w5 ⟨rfl, hb5⟩
  have B5 := B4.trans (hb5.mono B4.size)
  have c14 := K2 w5 B5
  go_wp2_with fail
  refine (C5 _).out.mono ?_
  rintro _ w6 ⟨rfl, hb6⟩
  have B6 := B5.trans (hb6.mono B5.size)
  go_wp2_with fail
  refine (C6 _).out.mono ?_
  rintro _ w7 ⟨rfl, hb7⟩
  have B7 := B6.trans (hb7.mono B6.size)
  go_wp2_with fail
  refine (C7 _).out.mono ?_
  rintro _ w8 ⟨rfl, hb8⟩
  have B8 := B7.trans (hb8.mono B7.size)
  have c17 := K3 w8 B8
  go_wp2_with fail
  refine (C9 _).out.mono ?_
  rintro _ w9 ⟨rfl, hb9⟩
  have B9 := B8.trans (hb9.mono B8.size)
  go_wp2
  go_ret
  exact ⟨rfl, hbel.trans (B9.mono (by omega))⟩
end Go.Proofs.Ytnhnfabgofncaaa
