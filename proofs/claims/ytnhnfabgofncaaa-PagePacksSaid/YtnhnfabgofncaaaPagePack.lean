/-
  Contract of the reference's Pack (rollbookref04). Condition: a body of at most 2000 bytes.
-/
import Derived.Test.YtnhnfabgofncaaaPageWith
import Derived.Test.YtnhnfabgofncaaaPageRight
import Derived.Test.YtnhnfabgofncaaaCrcRef
namespace Go.Proofs.Ytnhnfabgofncaaa
open Go.RowKit
set_option maxRecDepth 4000 in
set_option maxHeartbeats 1600000 in
theorem rpack_ok (w : World) (p : PV) : Calls Try.prog 10 #[p.val] w fun e w' => e = .returned (.tuple #[.string p.packS, .int .i64 p.packE]) ∧ Below w.heap.size w w' := by
  have RR := fun w => Lib.hid (rright_ok w p)
  have hbl : Below w.heap.size w (w.alloc (.cells #[.int .i64 p.kind, .int .i64 p.no, .int .i64 p.txn, .string p.body] 23)) := (Below.refl _ w).alloc (Nat.le_refl _) _
  cases hr : p.right
  · have HP : Hid (p.packS = ⟨#[]⟩ ∧ p.packE = 4) := Lib.hid (by unfold PV.packS PV.packE; rw [hr]; exact ⟨rfl, rfl⟩)
    simp only [hr] at RR
    clear hr
    obtain ⟨kind, no, txn, body⟩ := p
    unfold PV.val at RR ⊢
    simp only at RR hbl ⊢
    go_enter Try.func10, Try.ntmps10
    go_wp2_with (go_at_call 12; refine (RR _).out.mono ?_; rintro _ w2 ⟨rfl, hb2⟩)
    go_ret2
    exact ⟨by rw [HP.out.1, HP.out.2]; rfl, hbl.trans (hb2.mono hbl.size)⟩
  · have hri := (PV.right_iff p).1 hr
    have HP : Hid (p.packS = ba (Page.withSum p.pg (beB (Page.sumOf p.pg) 4 0)) ∧ p.packE = 0) := Lib.hid (by unfold PV.packS PV.packE; rw [hr]; exact ⟨rfl, rfl⟩)
    simp only [hr] at RR
    clear hr
    obtain ⟨kind, no, txn, body⟩ := p
    unfold PV.val at RR ⊢
    simp only at RR hbl hri ⊢
    obtain ⟨h1, h2, h3, h4, h5, h6, h7⟩ := hri
    obtain ⟨kind, rfl⟩ := Int.eq_ofNat_of_zero_le (show 0 ≤ kind by omega)
    obtain ⟨no, rfl⟩ := Int.eq_ofNat_of_zero_le (show 0 ≤ no by omega)
    obtain ⟨txn, rfl⟩ := Int.eq_ofNat_of_zero_le h5
    unfold PV.pg at HP
    simp only [Int.toNat_natCast] at HP
    obtain ⟨pg, hpg⟩ : ∃ pg : Page.PG, (⟨kind, no, txn, body.data.toList⟩ : Page.PG) = pg := ⟨_, rfl⟩
    have E27 := func_enters Try.func27 (by kernel_rfl) rfl
    have E28 := func_enters Try.func28 (by kernel_rfl) rfl
    have E29 := func_enters Try.func29 (by kernel_rfl) rfl
    have E30 := func_enters Try.func30 (by kernel_rfl) rfl
    obtain ⟨w1, hw1⟩ : ∃ w1, w.alloc (.cells #[.int .i64 kind, .int .i64 no, .int .i64 txn, .string body] 23) = w1 := ⟨_, rfl⟩
    rw [hw1] at hbl
    have hsz : w1.heap.size = w.heap.size + 1 := by rw [← hw1]; simp
    have hnew : w1.heap[w.heap.size]? = some (.cells #[.int .i64 kind, .int .i64 no, .int .i64 txn, .string body] 23 (0, 0)) := by rw [← hw1]; exact heap_alloc_new w _
    have cell : ∀ wS, Below w1.heap.size w1 wS → ∀ i, wS.cell? ⟨w.heap.size, i, none⟩ = (#[.int .i64 kind, .int .i64 no, .int .i64 txn, .string body] : Array Value)[i]? := fun wS h i => by
      rw [cell_of_row wS w.heap.size i _ 23 (0, 0) ((h.block _ (by omega)).trans hnew)]
    have K0 : ∀ wS, Below w1.heap.size w1 wS → wS.cell? ⟨w.heap.size, 0, none⟩ = some (.int .i64 kind) := fun wS h => cell wS h 0
    have K1 : ∀ wS, Below w1.heap.size w1 wS → wS.cell? ⟨w.heap.size, 1, none⟩ = some (.int .i64 no) := fun wS h => cell wS h 1
    have K2 : ∀ wS, Below w1.heap.size w1 wS → wS.cell? ⟨w.heap.size, 2, none⟩ = some (.int .i64 txn) := fun wS h => cell wS h 2
    have K3 : ∀ wS, Below w1.heap.size w1 wS → wS.cell? ⟨w.heap.size, 3, none⟩ = some (.string body) := fun wS h => cell wS h 3
    have hb8 : pg.body.length = body.size := by rw [← hpg]; simp only [Array.length_toList]; rfl
    have Z4 : Hid (∀ wS, Below w1.heap.size w1 wS → Calls Try.prog 29 #[.int .i64 (4 : Nat)] wS fun e w' => e = .returned (.string (ba (Page.noughts 4))) ∧ Below w1.heap.size w1 w') :=
      Lib.hid (fun wS hS => (noughts_ok 4 (by omega) wS).mono fun _ _ ⟨e, hb⟩ => ⟨e, hS.trans (hb.mono hS.size)⟩)
    have WC : ∀ sum : List UInt8, sum.length = 4 → Hid (∀ wS, Below w1.heap.size w1 wS → Calls Try.prog 28 #[.agg #[.int .i64 kind, .int .i64 no, .int .i64 txn, .string body], .string (ba sum)] wS fun e w' => e = .returned (.string (ba (Page.withSum pg sum))) ∧ Below w1.heap.size w1 w') := fun sum hs =>
      Lib.hid (fun wS hS => (with_ok kind no txn body (ba sum) (by omega) (by omega) (by omega) h7 (by rw [ba_size]; exact hs) wS).mono fun _ _ ⟨e, hb⟩ => ⟨by rw [e, hpg, data_ba], hS.trans (hb.mono hS.size)⟩)
    have WC0 := WC (Page.noughts 4) (by simp [Page.noughts])
    obtain ⟨n, hn⟩ : ∃ n : Nat, Page.sumOf pg = n := ⟨_, rfl⟩
    have hn32 : n < 2 ^ 32 := by rw [← hn]; exact Page.on_lt _ _
    have SC : Hid (∀ wS, Below w1.heap.size w1 wS → Calls Try.prog 27 #[.string (ba (Page.withSum pg (Page.noughts 4)))] wS fun e w' => e = .returned (.int .u32 n) ∧ Below w1.heap.size w1 w') :=
      Lib.hid (fun wS hS => (rsum_ok (ba (Page.withSum pg (Page.noughts 4))) (by rw [ba_size, Page.withSum_length _ _ (by simp [Page.noughts]) (by omega)]; omega) wS).mono fun _ _ ⟨e, hb⟩ => ⟨by rw [e, data_ba, ← hn]; rfl, hb ▸ hS⟩)
    have NC : Hid (∀ wS, Below w1.heap.size w1 wS → Calls Try.prog 30 #[.int .i64 n, .int .i64 (4 : Nat)] wS fun e w' => e = .returned (.string (ba (beB n 4 0))) ∧ Below w1.heap.size w1 w') :=
      Lib.hid (fun wS hS => (number_ok n 4 (by omega) (by omega) (by omega) (by omega) wS).mono fun _ _ ⟨e, hb⟩ => ⟨e, hS.trans (hb.mono hS.size)⟩)
    have WC1 := WC (beB n 4 0) (beB_length _ _ _)
    rw [hpg, hn] at HP
    obtain ⟨A0, a0⟩ : ∃ A, ba (Page.noughts 4) = A := ⟨_, rfl⟩
    obtain ⟨A1, a1⟩ : ∃ A, ba (Page.withSum pg (Page.noughts 4)) = A := ⟨_, rfl⟩
    obtain ⟨A2, a2⟩ : ∃ A, ba (beB n 4 0) = A := ⟨_, rfl⟩
    obtain ⟨A3, a3⟩ : ∃ A, ba (Page.withSum pg (beB n 4 0)) = A := ⟨_, rfl⟩
    rw [a0] at Z4 WC0
    rw [a1] at WC0 SC
    rw [a2] at NC WC1
    rw [a3] at WC1 HP
    have hcv : IntKind.i64.wrap (n : Int) = (n : Int) := IntWalk.i64_in _ (by omega)
    have c0 := K0 w1 (Below.refl _ _)
    have c1 := K1 w1 (Below.refl _ _)
    have c2 := K2 w1 (Below.refl _ _)
    have c3 := K3 w1 (Below.refl _ _)
    clear WC a0 a1 a2 a3 hn hpg cell h1 h2 h3 h4 h5 h6
    go_enter Try.func10, Try.ntmps10
    go_wp2_with (go_at_call 12; refine (RR _).out.mono ?_; rintro _ w2 ⟨rfl, hb2⟩)
    refine region_q (C := fun w' => Below w1.heap.size w1 w') (by kernel_rfl) (by kernel_rfl) hb2.drew ?_
    refine q_op (.agg #[.int .i64 kind, .int .i64 no, .int .i64 txn, .string body]) rfl (fun wS hSw => by have k0 := K0 wS hSw; have k1 := K1 wS hSw; have k2 := K2 wS hSw; have k3 := K3 wS hSw; go_simp; try with_reducible rfl) ?_
    simp only [Act.put, List.setIfInBounds_toArray, List.set_cons_zero, List.set_cons_succ]
    refine q_call1 (.string A0) rfl 29 _ _ rfl (.int .i64 (4 : Nat)) (by rfl) E29 (fun wS hSw => Z4.out wS hSw) ?_
    simp only [Act.put, List.setIfInBounds_toArray, List.set_cons_zero, List.set_cons_succ]
    refine q_call2 (.string A1) rfl 28 _ _ _ rfl (.agg #[.int .i64 kind, .int .i64 no, .int .i64 txn, .string body]) (.string A0) (by rfl) (by rfl) E28 (fun wS hSw => WC0.out wS hSw) ?_
    simp only [Act.put, List.setIfInBounds_toArray, List.set_cons_zero, List.set_cons_succ]
    refine q_call1 (.int .u32 n) rfl 27 _ _ rfl (.string A1) (by rfl) E27 (fun wS hSw => SC.out wS hSw) ?_
    simp only [Act.put, List.setIfInBounds_toArray, List.set_cons_zero, List.set_cons_succ]
    refine q_op (.int .u32 n) rfl (fun wS hSw => by go_simp; try with_reducible rfl) ?_
    simp only [Act.put, List.setIfInBounds_toArray, List.set_cons_zero, List.set_cons_succ]
    refine wpQuiet_nil ?_
    intro w3 hw3
    go_wp2_with fail
    refine region_q (C := fun w' => Below w1.heap.size w1 w') (by kernel_rfl) (by kernel_rfl) hw3.drew ?_
    refine q_op (.agg #[.int .i64 kind, .int .i64 no, .int .i64 txn, .string body]) rfl (fun wS hSw => by have k0 := K0 wS hSw; have k1 := K1 wS hSw; have k2 := K2 wS hSw; have k3 := K3 wS hSw; go_simp; try with_reducible rfl) ?_
    simp only [Act.put, List.setIfInBounds_toArray, List.set_cons_zero, List.set_cons_succ]
    refine q_op (.int .u32 n) rfl (fun wS hSw => by go_simp; try with_reducible rfl) ?_
    simp only [Act.put, List.setIfInBounds_toArray, List.set_cons_zero, List.set_cons_succ]
    refine q_op (.int .i64 n) rfl (fun wS hSw => by go_simp; try with_reducible rfl) ?_
    simp only [Act.put, List.setIfInBounds_toArray, List.set_cons_zero, List.set_cons_succ]
    refine q_call2 (.string A2) rfl 30 _ _ _ rfl (.int .i64 n) (.int .i64 (4 : Nat)) (by rfl) (by rfl) E30 (fun wS hSw => NC.out wS hSw) ?_
    simp only [Act.put, List.setIfInBounds_toArray, List.set_cons_zero, List.set_cons_succ]
    refine q_call2 (.string A3) rfl 28 _ _ _ rfl (.agg #[.int .i64 kind, .int .i64 no, .int .i64 txn, .string body]) (.string A2) (by rfl) (by rfl) E28 (fun wS hSw => WC1.out wS hSw) ?_
    simp only [Act.put, List.setIfInBounds_toArray, List.set_cons_zero, List.set_cons_succ]
    refine q_op (.string A3) rfl (fun wS hSw => by go_simp; try with_reducible rfl) ?_
    simp only [Act.put, List.setIfInBounds_toArray, List.set_cons_zero, List.set_cons_succ]
    refine q_op (.int .i64 0) rfl (fun wS hSw => by go_simp; try with_reducible rfl) ?_
    simp only [Act.put, List.setIfInBounds_toArray, List.set_cons_zero, List.set_cons_succ]
    refine wpQuiet_nil ?_
    intro w4 hw4
    go_wp2
    go_ret2
    exact ⟨by rw [HP.out.1, HP.out.2]; rfl, hbl.trans (hw4.mono (by omega))⟩
end Go.Proofs.Ytnhnfabgofncaaa
