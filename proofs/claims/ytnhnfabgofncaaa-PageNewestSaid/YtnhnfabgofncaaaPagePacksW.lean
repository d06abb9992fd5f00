/-
  P4.1 (a page that may be has its bytes, and is read from them as it was), of any functions that answer as the list says: the statement's function returns true at every page. No conditions but those typed.
-/
import Derived.Test.YtnhnfabgofncaaaPageReadsW
namespace Go.Proofs.Ytnhnfabgofncaaa
open Go.RowKit
theorem unpack_pack (p : PV) (h : p.right = true) : unpackP p.packS = p ∧ unpackE p.packS = 0 := by
  obtain ⟨h1, h2⟩ := p.right_pg h
  have hs : p.packS.data.toList = Page.packed p.pg := by unfold PV.packS; rw [h]; exact data_ba _
  unfold unpackP unpackE
  rw [hs, Page.read_packed _ h1]
  exact ⟨h2, rfl⟩
set_option maxRecDepth 4000 in
set_option maxHeartbeats 1600000 in
theorem packs_any (K : PageKit 11 9 13 21 17 18 23) (w : World) (p : PV) : Calls Try.prog 3 #[p.val] w fun e w' => e = .returned (.bool true) ∧ Below w.heap.size w w' := by
  have AW := fun w => Lib.hid (pawake_ok K w)
  by_cases hb : 2000 < p.body.size
  · have d1 : decide ((2000 : Int) < (p.body.size : Int)) = true := decide_eq_true (by omega)
    obtain ⟨kind, no, txn, body⟩ := p
    unfold PV.val
    simp only at d1 ⊢
    clear hb
    go_enter Try.func3, Try.ntmps3
    go_wp2_with fail
    refine (AW _).out.mono ?_
    rintro _ w1 ⟨rfl, hb1⟩
    obtain ⟨l1, hb1', c0, c1, c2, c3⟩ := kept4 hb1
    go_wp2
    go_ret
    exact ⟨rfl, hb1'⟩
  have d1 : decide ((2000 : Int) < (p.body.size : Int)) = false := decide_eq_false (by omega)
  have PC := fun w => K.pack w p (by omega)
  have QC := fun w => refPage.pack w p (by omega)
  have RC := fun w => K.right w p
  have TC := fun w => refPage.right w p
  have UC := fun w => K.unpack w p.packS (by have := p.packS_size; omega)
  have HUP := Lib.hid (unpack_pack p)
  have HNE : Hid (p.right = false → p.packS = ⟨#[]⟩ ∧ p.packE = 4) := Lib.hid (fun h => by unfold PV.packS PV.packE; rw [h]; exact ⟨rfl, rfl⟩)
  have HYE : Hid (p.right = true → p.packE = 0) := Lib.hid (fun h => by unfold PV.packE; rw [h]; rfl)
  obtain ⟨S, hS⟩ : ∃ S, p.packS = S := ⟨_, rfl⟩
  obtain ⟨e, he⟩ : ∃ e, p.packE = e := ⟨_, rfl⟩
  obtain ⟨r, hr⟩ : ∃ r, p.right = r := ⟨_, rfl⟩
  simp only [hS, he] at PC QC
  simp only [hr] at RC TC
  rw [hS] at UC
  rw [hS, he, hr] at HNE
  rw [he, hr] at HYE
  rw [hS, hr] at HUP
  obtain ⟨kind, no, txn, body⟩ := p
  unfold PV.val at PC QC RC TC ⊢
  simp only at PC QC RC TC d1 ⊢
  have PC := fun w => Lib.hid (PC w)
  have QC := fun w => Lib.hid (QC w)
  have E11 := func_enters Try.func11 (by kernel_rfl) rfl
  have E12 := func_enters Try.func12 (by kernel_rfl) rfl
  obtain ⟨w1, hw1⟩ : ∃ w1, w.alloc (.cells #[.int .i64 kind, .int .i64 no, .int .i64 txn, .string body] 23) = w1 := ⟨_, rfl⟩
  have hbl : Below w.heap.size w w1 := by rw [← hw1]; exact (Below.refl _ w).alloc (Nat.le_refl _) _
  have hsz : w1.heap.size = w.heap.size + 1 := by rw [← hw1]; simp
  have hnew : w1.heap[w.heap.size]? = some (.cells #[.int .i64 kind, .int .i64 no, .int .i64 txn, .string body] 23 (0, 0)) := by rw [← hw1]; exact heap_alloc_new w _
  have cell : ∀ wS, Below w1.heap.size w1 wS → ∀ i, wS.cell? ⟨w.heap.size, i, none⟩ = (#[.int .i64 kind, .int .i64 no, .int .i64 txn, .string body] : Array Value)[i]? := fun wS h i => by
    rw [cell_of_row wS w.heap.size i _ 23 (0, 0) ((h.block _ (by omega)).trans hnew)]
  have K0 : ∀ wS, Below w1.heap.size w1 wS → wS.cell? ⟨w.heap.size, 0, none⟩ = some (.int .i64 kind) := fun wS h => cell wS h 0
  have K1 : ∀ wS, Below w1.heap.size w1 wS → wS.cell? ⟨w.heap.size, 1, none⟩ = some (.int .i64 no) := fun wS h => cell wS h 1
  have K2 : ∀ wS, Below w1.heap.size w1 wS → wS.cell? ⟨w.heap.size, 2, none⟩ = some (.int .i64 txn) := fun wS h => cell wS h 2
  have K3 : ∀ wS, Below w1.heap.size w1 wS → wS.cell? ⟨w.heap.size, 3, none⟩ = some (.string body) := fun wS h => cell wS h 3
  have E11c : Hid (∀ wS, Below w1.heap.size w1 wS → Calls Try.prog 11 #[.agg #[.int .i64 kind, .int .i64 no, .int .i64 txn, .string body]] wS fun e w' => e = .returned (.bool r) ∧ Below w1.heap.size w1 w') := Lib.hid (fun wS hS => (RC wS).mono fun _ _ ⟨e, hb⟩ => ⟨e, hS.trans (hb.mono hS.size)⟩)
  have E12c : Hid (∀ wS, Below w1.heap.size w1 wS → Calls Try.prog 12 #[.agg #[.int .i64 kind, .int .i64 no, .int .i64 txn, .string body]] wS fun e w' => e = .returned (.bool r) ∧ Below w1.heap.size w1 w') := Lib.hid (fun wS hS => (TC wS).mono fun _ _ ⟨e, hb⟩ => ⟨e, hS.trans (hb.mono hS.size)⟩)
  clear RC TC cell hb hS he hr
  have q0 : (S.toList == S.toList) = true := by simp
  have q3 : (r == r) = true := by simp
  by_cases hrr : r = false
  · obtain ⟨z1, z2⟩ := HNE.out hrr
    have q1 : (e == 0) = false := by rw [z2]; rfl
    have q2 : S.toList.isEmpty = true := by rw [z1, ByteArray.toList_eq]; rfl
    clear UC HUP HNE HYE z1 z2 hrr
    go_enter Try.func3, Try.ntmps3
    go_wp2_with fail
    refine (AW _).out.mono ?_
    rintro _ w2 ⟨rfl, hb2⟩
    have c0 := K0 w2 hb2
    have c1 := K1 w2 hb2
    have c2 := K2 w2 hb2
    have c3 := K3 w2 hb2
    go_wp2_with fail
    refine (PC _).out.mono ?_
    rintro _ w3 ⟨rfl, hb3⟩
    have B3 := hb2.trans (hb3.mono hb2.size)
    clear c0 c1 c2 c3
    have c0 := K0 w3 B3
    have c1 := K1 w3 B3
    have c2 := K2 w3 B3
    have c3 := K3 w3 B3
    go_wp2_with fail
    refine (QC _).out.mono ?_
    rintro _ w4 ⟨rfl, hb4⟩
    have B4 := B3.trans (hb4.mono B3.size)
    go_wp2_with fail
    refine region_q (C := fun w' => Below w1.heap.size w1 w') (by kernel_rfl) (by kernel_rfl) B4.drew ?_
    refine q_op (.string S) rfl (fun wS hSw => by go_simp; try with_reducible rfl) ?_
    simp only [Act.put, List.setIfInBounds_toArray, List.set_cons_zero, List.set_cons_succ]
    refine q_op (.string S) rfl (fun wS hSw => by go_simp; try with_reducible rfl) ?_
    simp only [Act.put, List.setIfInBounds_toArray, List.set_cons_zero, List.set_cons_succ]
    refine q_op (.bool false) rfl (fun wS hSw => by go_simp; try with_reducible rfl) ?_
    simp only [Act.put, List.setIfInBounds_toArray, List.set_cons_zero, List.set_cons_succ]
    refine q_op (.bool false) rfl (fun wS hSw => by go_simp; try with_reducible rfl) ?_
    simp only [Act.put, List.setIfInBounds_toArray, List.set_cons_zero, List.set_cons_succ]
    refine q_opw (.int .i64 e) (by rfl) (fun wS hSw => by go_simp; try with_reducible rfl) ?_
    simp only [Act.put, List.setIfInBounds_toArray, List.set_cons_zero, List.set_cons_succ]
    refine q_opw (.int .i64 e) (by rfl) (fun wS hSw => by go_simp; try with_reducible rfl) ?_
    simp only [Act.put, List.setIfInBounds_toArray, List.set_cons_zero, List.set_cons_succ]
    refine q_opw (.bool false) (by rfl) (fun wS hSw => by go_simp; try with_reducible rfl) ?_
    simp only [Act.put, List.setIfInBounds_toArray, List.set_cons_zero, List.set_cons_succ]
    refine q_op (.bool false) rfl (fun wS hSw => by go_simp; try with_reducible rfl) ?_
    simp only [Act.put, List.setIfInBounds_toArray, List.set_cons_zero, List.set_cons_succ]
    refine q_op (.bool false) rfl (fun wS hSw => by go_simp; try with_reducible rfl) ?_
    simp only [Act.put, List.setIfInBounds_toArray, List.set_cons_zero, List.set_cons_succ]
    refine q_opw (.agg #[.int .i64 kind, .int .i64 no, .int .i64 txn, .string body]) (by rfl) (fun wS hSw => by have k0 := K0 wS hSw; have k1 := K1 wS hSw; have k2 := K2 wS hSw; have k3 := K3 wS hSw; go_simp; try with_reducible rfl) ?_
    simp only [Act.put, List.setIfInBounds_toArray, List.set_cons_zero, List.set_cons_succ]
    refine q_call1w (.bool r) (by rfl) 11 _ _ rfl (.agg #[.int .i64 kind, .int .i64 no, .int .i64 txn, .string body]) (by rfl) E11 (fun wS hSw => E11c.out wS hSw) ?_
    simp only [Act.put, List.setIfInBounds_toArray, List.set_cons_zero, List.set_cons_succ]
    refine q_opw (.agg #[.int .i64 kind, .int .i64 no, .int .i64 txn, .string body]) (by rfl) (fun wS hSw => by have k0 := K0 wS hSw; have k1 := K1 wS hSw; have k2 := K2 wS hSw; have k3 := K3 wS hSw; go_simp; try with_reducible rfl) ?_
    simp only [Act.put, List.setIfInBounds_toArray, List.set_cons_zero, List.set_cons_succ]
    refine q_call1w (.bool r) (by rfl) 12 _ _ rfl (.agg #[.int .i64 kind, .int .i64 no, .int .i64 txn, .string body]) (by rfl) E12 (fun wS hSw => E12c.out wS hSw) ?_
    simp only [Act.put, List.setIfInBounds_toArray, List.set_cons_zero, List.set_cons_succ]
    refine q_opw (.bool false) (by rfl) (fun wS hSw => by go_simp; try with_reducible rfl) ?_
    simp only [Act.put, List.setIfInBounds_toArray, List.set_cons_zero, List.set_cons_succ]
    refine q_op (.bool false) rfl (fun wS hSw => by go_simp; try with_reducible rfl) ?_
    simp only [Act.put, List.setIfInBounds_toArray, List.set_cons_zero, List.set_cons_succ]
    refine wpQuiet_nil ?_
    intro w5 hw5
    go_wp2
    go_ret
    exact ⟨rfl, hbl.trans (hw5.mono (by omega))⟩
  · have hrt : r = true := by simpa using hrr
    have q1 : (e == 0) = true := by rw [HYE.out hrt]; rfl
    obtain ⟨u1, u2⟩ := HUP.out hrt
    rw [u1, u2] at UC
    unfold PV.val at UC
    simp only at UC
    have UC := fun w => Lib.hid (UC w)
    clear HUP HNE HYE u1 u2 hrt hrr
    go_enter Try.func3, Try.ntmps3
    go_wp2_with fail
    refine (AW _).out.mono ?_
    rintro _ w2 ⟨rfl, hb2⟩
    have c0 := K0 w2 hb2
    have c1 := K1 w2 hb2
    have c2 := K2 w2 hb2
    have c3 := K3 w2 hb2
    go_wp2_with fail
    refine (PC _).out.mono ?_
    rintro _ w3 ⟨rfl, hb3⟩
    have B3 := hb2.trans (hb3.mono hb2.size)
    clear c0 c1 c2 c3
    have c0 := K0 w3 B3
    have c1 := K1 w3 B3
    have c2 := K2 w3 B3
    have c3 := K3 w3 B3
    go_wp2_with fail
    refine (QC _).out.mono ?_
    rintro _ w4 ⟨rfl, hb4⟩
    have B4 := B3.trans (hb4.mono B3.size)
    go_wp2_with fail
    refine region_q (C := fun w' => Below w1.heap.size w1 w') (by kernel_rfl) (by kernel_rfl) B4.drew ?_
    refine q_op (.string S) rfl (fun wS hSw => by go_simp; try with_reducible rfl) ?_
    simp only [Act.put, List.setIfInBounds_toArray, List.set_cons_zero, List.set_cons_succ]
    refine q_op (.string S) rfl (fun wS hSw => by go_simp; try with_reducible rfl) ?_
    simp only [Act.put, List.setIfInBounds_toArray, List.set_cons_zero, List.set_cons_succ]
    refine q_op (.bool false) rfl (fun wS hSw => by go_simp; try with_reducible rfl) ?_
    simp only [Act.put, List.setIfInBounds_toArray, List.set_cons_zero, List.set_cons_succ]
    refine q_op (.bool false) rfl (fun wS hSw => by go_simp; try with_reducible rfl) ?_
    simp only [Act.put, List.setIfInBounds_toArray, List.set_cons_zero, List.set_cons_succ]
    refine q_opw (.int .i64 e) (by rfl) (fun wS hSw => by go_simp; try with_reducible rfl) ?_
    simp only [Act.put, List.setIfInBounds_toArray, List.set_cons_zero, List.set_cons_succ]
    refine q_opw (.int .i64 e) (by rfl) (fun wS hSw => by go_simp; try with_reducible rfl) ?_
    simp only [Act.put, List.setIfInBounds_toArray, List.set_cons_zero, List.set_cons_succ]
    refine q_opw (.bool false) (by rfl) (fun wS hSw => by go_simp; try with_reducible rfl) ?_
    simp only [Act.put, List.setIfInBounds_toArray, List.set_cons_zero, List.set_cons_succ]
    refine q_op (.bool false) rfl (fun wS hSw => by go_simp; try with_reducible rfl) ?_
    simp only [Act.put, List.setIfInBounds_toArray, List.set_cons_zero, List.set_cons_succ]
    refine q_op (.bool false) rfl (fun wS hSw => by go_simp; try with_reducible rfl) ?_
    simp only [Act.put, List.setIfInBounds_toArray, List.set_cons_zero, List.set_cons_succ]
    refine q_opw (.agg #[.int .i64 kind, .int .i64 no, .int .i64 txn, .string body]) (by rfl) (fun wS hSw => by have k0 := K0 wS hSw; have k1 := K1 wS hSw; have k2 := K2 wS hSw; have k3 := K3 wS hSw; go_simp; try with_reducible rfl) ?_
    simp only [Act.put, List.setIfInBounds_toArray, List.set_cons_zero, List.set_cons_succ]
    refine q_call1w (.bool r) (by rfl) 11 _ _ rfl (.agg #[.int .i64 kind, .int .i64 no, .int .i64 txn, .string body]) (by rfl) E11 (fun wS hSw => E11c.out wS hSw) ?_
    simp only [Act.put, List.setIfInBounds_toArray, List.set_cons_zero, List.set_cons_succ]
    refine q_opw (.agg #[.int .i64 kind, .int .i64 no, .int .i64 txn, .string body]) (by rfl) (fun wS hSw => by have k0 := K0 wS hSw; have k1 := K1 wS hSw; have k2 := K2 wS hSw; have k3 := K3 wS hSw; go_simp; try with_reducible rfl) ?_
    simp only [Act.put, List.setIfInBounds_toArray, List.set_cons_zero, List.set_cons_succ]
    refine q_call1w (.bool r) (by rfl) 12 _ _ rfl (.agg #[.int .i64 kind, .int .i64 no, .int .i64 txn, .string body]) (by rfl) E12 (fun wS hSw => E12c.out wS hSw) ?_
    simp only [Act.put, List.setIfInBounds_toArray, List.set_cons_zero, List.set_cons_succ]
    refine q_opw (.bool false) (by rfl) (fun wS hSw => by go_simp; try with_reducible rfl) ?_
    simp only [Act.put, List.setIfInBounds_toArray, List.set_cons_zero, List.set_cons_succ]
    refine q_op (.bool false) rfl (fun wS hSw => by go_simp; try with_reducible rfl) ?_
    simp only [Act.put, List.setIfInBounds_toArray, List.set_cons_zero, List.set_cons_succ]
    refine wpQuiet_nil ?_
    intro w5 hw5
    go_wp2_with fail
    refine (UC _).out.mono ?_
    rintro _ w6 ⟨rfl, hb6⟩
    have B6 := hw5.trans (hb6.mono hw5.size)
    have c0 := K0 w6 B6
    have c1 := K1 w6 B6
    have c2 := K2 w6 B6
    have c3 := K3 w6 B6
    have l6 : w.heap.size < w6.heap.size := by have := B6.size; omega
    go_wp2
    go_ret
    exact ⟨rfl, (hbl.trans (B6.mono (by omega))).alloc (by omega) _⟩
end Go.Proofs.Ytnhnfabgofncaaa
