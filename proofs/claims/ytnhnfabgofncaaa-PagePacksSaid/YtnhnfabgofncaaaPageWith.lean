/-
  Contract of the reference's With (rollbookref04): a page's bytes with four bytes as sum. No conditions but the numbers' ranges.
-/
import Derived.Test.YtnhnfabgofncaaaPageRef
import Derived.Test.YtnhnfabgofncaaaPageSpec
import Derived.Test.YtnhnfabgofncaaaQStep
namespace Go.Proofs.Ytnhnfabgofncaaa
open Go.RowKit
theorem with_bytes (p : Page.PG) (sum : ByteArray) : ba (Page.withSum p sum.data.toList) = (ba [82, 66] ++ ba (beB p.kind 1 0) ++ ba (Page.noughts 1) ++ ba (beB p.body.length 2 0) ++ ba (beB p.no 4 0) ++ ba (beB p.txn 8 0) ++ sum ++ ba (Page.noughts 2) ++ ba p.body ++ ba (Page.noughts (488 - p.body.length))) := by
  conv => rhs; rw [← ba_data sum]
  simp only [ba_append]
  congr 1
  unfold Page.withSum Page.noughts
  simp [List.replicate]
set_option maxRecDepth 4000 in
set_option maxHeartbeats 1600000 in
theorem with_ok (kind no txn : Nat) (body sum : ByteArray) (hk : kind < 2 ^ 8) (hno : no < 2 ^ 32) (ht : txn < 2 ^ 63) (hb : body.size ≤ 488) (hs : sum.size = 4) (w : World) :
    Calls Try.prog 28 #[.agg #[.int .i64 kind, .int .i64 no, .int .i64 txn, .string body], .string sum] w fun e w' => e = .returned (.string (ba (Page.withSum ⟨kind, no, txn, body.data.toList⟩ sum.data.toList))) ∧ Below w.heap.size w w' := by
  have E29 := func_enters Try.func29 (by kernel_rfl) rfl
  have E30 := func_enters Try.func30 (by kernel_rfl) rfl
  obtain ⟨w1, hw1⟩ : ∃ w1, w.alloc (.cells #[.int .i64 kind, .int .i64 no, .int .i64 txn, .string body] 23) = w1 := ⟨_, rfl⟩
  have hsz : w1.heap.size = w.heap.size + 1 := by rw [← hw1]; simp
  have hbel : Below w.heap.size w w1 := by rw [← hw1]; exact (Below.refl _ w).alloc (Nat.le_refl _) _
  have hnew : w1.heap[w.heap.size]? = some (.cells #[.int .i64 kind, .int .i64 no, .int .i64 txn, .string body] 23 (0, 0)) := by rw [← hw1]; exact heap_alloc_new w _
  have cell : ∀ wS, Below w1.heap.size w1 wS → ∀ i, wS.cell? ⟨w.heap.size, i, none⟩ = (#[.int .i64 kind, .int .i64 no, .int .i64 txn, .string body] : Array Value)[i]? := fun wS h i => by
    rw [cell_of_row wS w.heap.size i _ 23 (0, 0) ((h.block _ (by omega)).trans hnew)]
  have K0 : ∀ wS, Below w1.heap.size w1 wS → wS.cell? ⟨w.heap.size, 0, none⟩ = some (.int .i64 kind) := fun wS h => cell wS h 0
  have K1 : ∀ wS, Below w1.heap.size w1 wS → wS.cell? ⟨w.heap.size, 1, none⟩ = some (.int .i64 no) := fun wS h => cell wS h 1
  have K2 : ∀ wS, Below w1.heap.size w1 wS → wS.cell? ⟨w.heap.size, 2, none⟩ = some (.int .i64 txn) := fun wS h => cell wS h 2
  have K3 : ∀ wS, Below w1.heap.size w1 wS → wS.cell? ⟨w.heap.size, 3, none⟩ = some (.string body) := fun wS h => cell wS h 3
  have num : ∀ n k : Nat, n < 2 ^ (8 * k) → n < 2 ^ 63 → 1 ≤ k → k ≤ 8 → Hid (∀ wS, Below w1.heap.size w1 wS → Calls Try.prog 30 #[.int .i64 n, .int .i64 k] wS fun e w' => e = .returned (.string (ba (beB n k 0))) ∧ Below w1.heap.size w1 w') := fun n k h1 h2 h3 h4 =>
    Lib.hid (fun wS hS => (number_ok n k h1 h2 h3 h4 wS).mono fun _ _ ⟨e, hb⟩ => ⟨e, hS.trans (hb.mono hS.size)⟩)
  have nou : ∀ n : Nat, n ≤ 1048576 → Hid (∀ wS, Below w1.heap.size w1 wS → Calls Try.prog 29 #[.int .i64 n] wS fun e w' => e = .returned (.string (ba (Page.noughts n))) ∧ Below w1.heap.size w1 w') := fun n h =>
    Lib.hid (fun wS hS => (noughts_ok n h wS).mono fun _ _ ⟨e, hb⟩ => ⟨e, hS.trans (hb.mono hS.size)⟩)
  have HW := Lib.hid (with_bytes ⟨kind, no, txn, body.data.toList⟩ sum)
  simp only [ba_data, Array.length_toList] at HW
  rw [show body.data.size = body.size from rfl] at HW
  obtain ⟨r, hr⟩ : ∃ r : Nat, 488 - body.size = r := ⟨_, rfl⟩
  have hr2 : (488 : Int) - (body.size : Int) = (r : Int) := by omega
  have N1c := num kind 1 (by omega) (by omega) (by omega) (by omega)
  have N2c := num body.size 2 (by omega) (by omega) (by omega) (by omega)
  have N3c := num no 4 (by omega) (by omega) (by omega) (by omega)
  have N4c := num txn 8 (by omega) (by omega) (by omega) (by omega)
  have Z1c := nou 1 (by omega)
  have Z2c := nou 2 (by omega)
  have Z3c := nou r (by omega)
  rw [hr] at HW
  have y1 : (ba (beB kind 1 0)).size = 1 := by rw [ba_size, beB_length]
  have y2 : (ba (beB body.size 2 0)).size = 2 := by rw [ba_size, beB_length]
  have y3 : (ba (beB no 4 0)).size = 4 := by rw [ba_size, beB_length]
  have y4 : (ba (beB txn 8 0)).size = 8 := by rw [ba_size, beB_length]
  have y5 : (ba (Page.noughts 1)).size = 1 := by rw [ba_size]; rfl
  have y6 : (ba (Page.noughts 2)).size = 2 := by rw [ba_size]; rfl
  have y7 : (ba (Page.noughts r)).size = r := by rw [ba_size]; simp [Page.noughts]
  have y8 : (ba [82, 66]).size = 2 := by rw [ba_size]; rfl
  obtain ⟨N1, g1⟩ : ∃ N, ba (beB kind 1 0) = N := ⟨_, rfl⟩
  obtain ⟨N2, g2⟩ : ∃ N, ba (beB body.size 2 0) = N := ⟨_, rfl⟩
  obtain ⟨N3, g3⟩ : ∃ N, ba (beB no 4 0) = N := ⟨_, rfl⟩
  obtain ⟨N4, g4⟩ : ∃ N, ba (beB txn 8 0) = N := ⟨_, rfl⟩
  obtain ⟨Z1, g5⟩ : ∃ N, ba (Page.noughts 1) = N := ⟨_, rfl⟩
  obtain ⟨Z2, g6⟩ : ∃ N, ba (Page.noughts 2) = N := ⟨_, rfl⟩
  obtain ⟨Z3, g7⟩ : ∃ N, ba (Page.noughts r) = N := ⟨_, rfl⟩
  rw [g1] at y1 N1c HW
  rw [g2] at y2 N2c HW
  rw [g3] at y3 N3c HW
  rw [g4] at y4 N4c HW
  rw [g5] at y5 Z1c HW
  rw [g6] at y6 Z2c HW
  rw [g7] at y7 Z3c HW
  obtain ⟨X, hX⟩ : ∃ X, ba (Page.withSum ⟨kind, no, txn, body.data.toList⟩ sum.data.toList) = X := ⟨_, rfl⟩
  rw [hX] at HW ⊢
  clear num nou g1 g2 g3 g4 g5 g6 g7 hX hr cell hk hno ht
  go_enter Try.func28, Try.ntmps28
  go_wp2
  refine region_q (C := fun w' => Below w1.heap.size w1 w') (by kernel_rfl) (by kernel_rfl) (Below.refl _ w1).drew ?_
  refine q_op (.pointer (some ⟨w.heap.size, 0, none⟩)) rfl (fun wS hSw => by go_simp; try with_reducible rfl) ?_
  simp only [Act.put, List.setIfInBounds_toArray, List.set_cons_zero, List.set_cons_succ]
  refine q_op (.int .i64 kind) rfl (fun wS hSw => by have h0 := K0 wS hSw; go_simp; try with_reducible rfl) ?_
  simp only [Act.put, List.setIfInBounds_toArray, List.set_cons_zero, List.set_cons_succ]
  refine q_call2 (.string N1) rfl 30 _ _ _ rfl (.int .i64 kind) (.int .i64 1) (by rfl) (by rfl) E30 (fun wS hSw => N1c.out wS hSw) ?_
  simp only [Act.put, List.setIfInBounds_toArray, List.set_cons_zero, List.set_cons_succ]
  refine q_add rfl 9 _ _ rfl (ba [82, 66]) (N1) (by rfl) (by rfl) (by omega) ?_
  obtain ⟨S1, e1⟩ : ∃ S, ba [82, 66] ++ N1 = S := ⟨_, rfl⟩
  have z1 : S1.size = (ba [82, 66]).size + (N1).size := by rw [← e1, ByteArray.size_append]
  rw [e1]
  have E1 := Lib.hid e1
  clear e1
  simp only [Act.put, List.setIfInBounds_toArray, List.set_cons_zero, List.set_cons_succ]
  refine q_call1 (.string Z1) rfl 29 _ _ rfl (.int .i64 1) (by rfl) E29 (fun wS hSw => Z1c.out wS hSw) ?_
  simp only [Act.put, List.setIfInBounds_toArray, List.set_cons_zero, List.set_cons_succ]
  refine q_add rfl 9 _ _ rfl (S1) (Z1) (by rfl) (by rfl) (by omega) ?_
  obtain ⟨S2, e2⟩ : ∃ S, S1 ++ Z1 = S := ⟨_, rfl⟩
  have z2 : S2.size = (S1).size + (Z1).size := by rw [← e2, ByteArray.size_append]
  rw [e2]
  have E2 := Lib.hid e2
  clear e2
  simp only [Act.put, List.setIfInBounds_toArray, List.set_cons_zero, List.set_cons_succ]
  refine q_op (.pointer (some ⟨w.heap.size, 3, none⟩)) rfl (fun wS hSw => by go_simp; try with_reducible rfl) ?_
  simp only [Act.put, List.setIfInBounds_toArray, List.set_cons_zero, List.set_cons_succ]
  refine q_op (.string body) rfl (fun wS hSw => by have h0 := K3 wS hSw; go_simp; try with_reducible rfl) ?_
  simp only [Act.put, List.setIfInBounds_toArray, List.set_cons_zero, List.set_cons_succ]
  refine q_op (.int .i64 body.size) rfl (fun wS hSw => by go_simp; try with_reducible rfl) ?_
  simp only [Act.put, List.setIfInBounds_toArray, List.set_cons_zero, List.set_cons_succ]
  refine q_call2 (.string N2) rfl 30 _ _ _ rfl (.int .i64 body.size) (.int .i64 2) (by rfl) (by rfl) E30 (fun wS hSw => N2c.out wS hSw) ?_
  simp only [Act.put, List.setIfInBounds_toArray, List.set_cons_zero, List.set_cons_succ]
  refine q_add rfl 9 _ _ rfl (S2) (N2) (by rfl) (by rfl) (by omega) ?_
  obtain ⟨S3, e3⟩ : ∃ S, S2 ++ N2 = S := ⟨_, rfl⟩
  have z3 : S3.size = (S2).size + (N2).size := by rw [← e3, ByteArray.size_append]
  rw [e3]
  have E3 := Lib.hid e3
  clear e3
  simp only [Act.put, List.setIfInBounds_toArray, List.set_cons_zero, List.set_cons_succ]
  refine q_op (.pointer (some ⟨w.heap.size, 1, none⟩)) rfl (fun wS hSw => by go_simp; try with_reducible rfl) ?_
  simp only [Act.put, List.setIfInBounds_toArray, List.set_cons_zero, List.set_cons_succ]
  refine q_op (.int .i64 no) rfl (fun wS hSw => by have h0 := K1 wS hSw; go_simp; try with_reducible rfl) ?_
  simp only [Act.put, List.setIfInBounds_toArray, List.set_cons_zero, List.set_cons_succ]
  refine q_call2 (.string N3) rfl 30 _ _ _ rfl (.int .i64 no) (.int .i64 4) (by rfl) (by rfl) E30 (fun wS hSw => N3c.out wS hSw) ?_
  simp only [Act.put, List.setIfInBounds_toArray, List.set_cons_zero, List.set_cons_succ]
  refine q_add rfl 9 _ _ rfl (S3) (N3) (by rfl) (by rfl) (by omega) ?_
  obtain ⟨S4, e4⟩ : ∃ S, S3 ++ N3 = S := ⟨_, rfl⟩
  have z4 : S4.size = (S3).size + (N3).size := by rw [← e4, ByteArray.size_append]
  rw [e4]
  have E4 := Lib.hid e4
  clear e4
  simp only [Act.put, List.setIfInBounds_toArray, List.set_cons_zero, List.set_cons_succ]
  refine q_op (.pointer (some ⟨w.heap.size, 2, none⟩)) rfl (fun wS hSw => by go_simp; try with_reducible rfl) ?_
  simp only [Act.put, List.setIfInBounds_toArray, List.set_cons_zero, List.set_cons_succ]
  refine q_op (.int .i64 txn) rfl (fun wS hSw => by have h0 := K2 wS hSw; go_simp; try with_reducible rfl) ?_
  simp only [Act.put, List.setIfInBounds_toArray, List.set_cons_zero, List.set_cons_succ]
  refine q_call2 (.string N4) rfl 30 _ _ _ rfl (.int .i64 txn) (.int .i64 8) (by rfl) (by rfl) E30 (fun wS hSw => N4c.out wS hSw) ?_
  simp only [Act.put, List.setIfInBounds_toArray, List.set_cons_zero, List.set_cons_succ]
  refine q_add rfl 9 _ _ rfl (S4) (N4) (by rfl) (by rfl) (by omega) ?_
  obtain ⟨S5, e5⟩ : ∃ S, S4 ++ N4 = S := ⟨_, rfl⟩
  have z5 : S5.size = (S4).size + (N4).size := by rw [← e5, ByteArray.size_append]
  rw [e5]
  have E5 := Lib.hid e5
  clear e5
  simp only [Act.put, List.setIfInBounds_toArray, List.set_cons_zero, List.set_cons_succ]
  refine q_op (.string sum) rfl (fun wS hSw => by go_simp; try with_reducible rfl) ?_
  simp only [Act.put, List.setIfInBounds_toArray, List.set_cons_zero, List.set_cons_succ]
  refine q_add rfl 9 _ _ rfl (S5) (sum) (by rfl) (by rfl) (by omega) ?_
  obtain ⟨S6, e6⟩ : ∃ S, S5 ++ sum = S := ⟨_, rfl⟩
  have z6 : S6.size = (S5).size + (sum).size := by rw [← e6, ByteArray.size_append]
  rw [e6]
  have E6 := Lib.hid e6
  clear e6
  simp only [Act.put, List.setIfInBounds_toArray, List.set_cons_zero, List.set_cons_succ]
  refine q_call1 (.string Z2) rfl 29 _ _ rfl (.int .i64 2) (by rfl) E29 (fun wS hSw => Z2c.out wS hSw) ?_
  simp only [Act.put, List.setIfInBounds_toArray, List.set_cons_zero, List.set_cons_succ]
  refine q_add rfl 9 _ _ rfl (S6) (Z2) (by rfl) (by rfl) (by omega) ?_
  obtain ⟨S7, e7⟩ : ∃ S, S6 ++ Z2 = S := ⟨_, rfl⟩
  have z7 : S7.size = (S6).size + (Z2).size := by rw [← e7, ByteArray.size_append]
  rw [e7]
  have E7 := Lib.hid e7
  clear e7
  simp only [Act.put, List.setIfInBounds_toArray, List.set_cons_zero, List.set_cons_succ]
  refine q_op (.pointer (some ⟨w.heap.size, 3, none⟩)) rfl (fun wS hSw => by go_simp; try with_reducible rfl) ?_
  simp only [Act.put, List.setIfInBounds_toArray, List.set_cons_zero, List.set_cons_succ]
  refine q_op (.string body) rfl (fun wS hSw => by have h0 := K3 wS hSw; go_simp; try with_reducible rfl) ?_
  simp only [Act.put, List.setIfInBounds_toArray, List.set_cons_zero, List.set_cons_succ]
  refine q_add rfl 9 _ _ rfl (S7) (body) (by rfl) (by rfl) (by omega) ?_
  obtain ⟨S8, e8⟩ : ∃ S, S7 ++ body = S := ⟨_, rfl⟩
  have z8 : S8.size = (S7).size + (body).size := by rw [← e8, ByteArray.size_append]
  rw [e8]
  have E8 := Lib.hid e8
  clear e8
  simp only [Act.put, List.setIfInBounds_toArray, List.set_cons_zero, List.set_cons_succ]
  refine q_op (.pointer (some ⟨w.heap.size, 3, none⟩)) rfl (fun wS hSw => by go_simp; try with_reducible rfl) ?_
  simp only [Act.put, List.setIfInBounds_toArray, List.set_cons_zero, List.set_cons_succ]
  refine q_op (.string body) rfl (fun wS hSw => by have h0 := K3 wS hSw; go_simp; try with_reducible rfl) ?_
  simp only [Act.put, List.setIfInBounds_toArray, List.set_cons_zero, List.set_cons_succ]
  refine q_op (.int .i64 body.size) rfl (fun wS hSw => by go_simp; try with_reducible rfl) ?_
  simp only [Act.put, List.setIfInBounds_toArray, List.set_cons_zero, List.set_cons_succ]
  refine q_op (.int .i64 r) rfl (fun wS hSw => by go_simp; exact IntWalk.i64_in _ (by omega)) ?_
  simp only [Act.put, List.setIfInBounds_toArray, List.set_cons_zero, List.set_cons_succ]
  refine q_call1 (.string Z3) rfl 29 _ _ rfl (.int .i64 r) (by rfl) E29 (fun wS hSw => Z3c.out wS hSw) ?_
  simp only [Act.put, List.setIfInBounds_toArray, List.set_cons_zero, List.set_cons_succ]
  refine q_add rfl 9 _ _ rfl (S8) (Z3) (by rfl) (by rfl) (by omega) ?_
  obtain ⟨S9, e9⟩ : ∃ S, S8 ++ Z3 = S := ⟨_, rfl⟩
  have z9 : S9.size = (S8).size + (Z3).size := by rw [← e9, ByteArray.size_append]
  rw [e9]
  have E9 := Lib.hid e9
  clear e9
  simp only [Act.put, List.setIfInBounds_toArray, List.set_cons_zero, List.set_cons_succ]
  refine q_op (.string S9) rfl (fun wS hSw => by go_simp; try with_reducible rfl) ?_
  simp only [Act.put, List.setIfInBounds_toArray, List.set_cons_zero, List.set_cons_succ]
  refine wpQuiet_nil ?_
  intro w9 hw9
  go_wp2
  go_ret
  exact ⟨by rw [HW.out, E1.out, E2.out, E3.out, E4.out, E5.out, E6.out, E7.out, E8.out, E9.out]; rfl, hbel.trans (hw9.mono (by omega))⟩
end Go.Proofs.Ytnhnfabgofncaaa
