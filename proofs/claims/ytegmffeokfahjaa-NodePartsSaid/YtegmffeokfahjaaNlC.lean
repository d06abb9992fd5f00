/-
  Contracts of the landed functions of chapter 6: Right, Bytes. Conditions: lists and texts of at most 600.
-/
import Derived.Test.YtegmffeokfahjaaNlA
import Derived.Test.YtegmffeokfahjaaQStep
import Derived.Deep.RegionHeld3
import Derived.Laws.Cover1
import Derived.Deep.CutRange
import Derived.Deep.DeepCutAuto
namespace Go.Proofs.Ytegmffeokfahjaa
open Go.RowKit
/-- the cells l lie one behind the other from a place on -/
def RowAt (w : World) (b off : Nat) (l : List CV) : Prop := b < w.heap.size ∧ ∀ k (_ : k < l.length), w.cell? ⟨b, off + k * 5, none⟩ = some (.string l[k].key) ∧ w.cell? ⟨b, off + k * 5 + 1, none⟩ = some (.string l[k].val) ∧ w.cell? ⟨b, off + k * 5 + 2, none⟩ = some (.int .i64 l[k].over) ∧ w.cell? ⟨b, off + k * 5 + 3, none⟩ = some (.int .i64 l[k].size) ∧ w.cell? ⟨b, off + k * 5 + 4, none⟩ = some (.int .i64 l[k].child)
theorem RowAt.below {w w' : World} {b off : Nat} {l : List CV} (h : RowAt w b off l) (hb : Below w.heap.size w w') : RowAt w' b off l := by
  obtain ⟨hlt, hr⟩ := h
  refine ⟨Nat.lt_of_lt_of_le hlt hb.size, fun k hk => ?_⟩
  obtain ⟨c0, c1, c2, c3, c4⟩ := hr k hk
  exact ⟨(hb.cell (p := ⟨b, off + k * 5, none⟩) hlt).trans c0, (hb.cell (p := ⟨b, off + k * 5 + 1, none⟩) hlt).trans c1, (hb.cell (p := ⟨b, off + k * 5 + 2, none⟩) hlt).trans c2, (hb.cell (p := ⟨b, off + k * 5 + 3, none⟩) hlt).trans c3, (hb.cell (p := ⟨b, off + k * 5 + 4, none⟩) hlt).trans c4⟩
theorem CellsAt.row {w : World} {A : Option Addr} {len cap : Nat} {l : List CV} (h : CellsAt w (.slice A len cap) l) (h0 : 0 < l.length) : ∃ b off, A = some ⟨b, off, none⟩ ∧ RowAt w b off l := by
  obtain ⟨b, off, hA, hlt, _⟩ := h.get 0 h0
  refine ⟨b, off, hA, hlt, fun k hk => ?_⟩
  obtain ⟨b', off', hA', _, hr⟩ := h.get k hk
  rw [hA] at hA'
  injection hA' with e
  injection e with e1 e2
  subst e1 e2
  exact hr
theorem cmpL_less (a b : List UInt8) : Op.bytesLess a b = decide (cmpL a b < 0) := by
  induction a generalizing b with
  | nil => cases b <;> simp [cmpL, Op.bytesLess]
  | cons x a ih =>
    cases b with
    | nil => simp [cmpL, Op.bytesLess]
    | cons y b =>
      by_cases h1 : x < y
      · simp only [cmpL, if_pos h1]
        simp [Op.bytesLess, h1]
      · by_cases h2 : y < x
        · have hne : ¬ x = y := by
            rintro rfl
            rw [UInt8.lt_iff_toNat_lt] at h2
            omega
          simp only [cmpL, if_neg h1, if_pos h2]
          simp [Op.bytesLess, h1, hne]
        · have e : x = y := by
            rw [UInt8.lt_iff_toNat_lt] at h1 h2
            apply UInt8.toNat_inj.1
            omega
          subst e
          have hc : cmpL (x :: a) (x :: b) = cmpL a b := by simp only [cmpL, if_neg h1]
          have hb : Op.bytesLess (x :: a) (x :: b) = Op.bytesLess a b := by simp [Op.bytesLess, h1]
          rw [hc, hb, ih]
theorem cmp_less (a b : ByteArray) : Op.bytesLess a.toList b.toList = decide (cmpL a.data.toList b.data.toList < 0) := by
  rw [ByteArray.toList_eq a, ByteArray.toList_eq b, cmpL_less]
theorem less_not (a b : ByteArray) (h : cmpL a.data.toList b.data.toList ≠ 0) : Op.bytesLess b.toList a.toList = !Op.bytesLess a.toList b.toList := by
  rw [cmp_less, cmp_less, cmpL_swap a.data.toList b.data.toList, ← decide_not]
  exact decide_eq_decide.2 (by omega)
set_option maxRecDepth 100000 in
set_option maxHeartbeats 3200000 in
theorem lright_none_true (w : World) (A : Option Addr) (cap : Nat) : Calls Try.prog 13 #[.bool true, .slice A 0 cap] w fun e w' => e = .returned (.bool true) ∧ Below w.heap.size w w' := by
  go_enter Try.func13, Try.ntmps13
  go_wp2
  go_loopw [23] (fun ii wr => ii = .int .i64 0 ∧ Below w.heap.size w wr) (fun _ _ => 0)
  case atStart => exact ⟨rfl, Below.refl _ _⟩
  case round =>
    obtain ⟨rfl, hBr⟩ := hrel
    go_wp2
    go_ret
    exact ⟨rfl, hBr⟩
set_option maxRecDepth 100000 in
set_option maxHeartbeats 3200000 in
theorem lright_none_false (w : World) (A : Option Addr) (cap : Nat) : Calls Try.prog 13 #[.bool false, .slice A 0 cap] w fun e w' => e = .returned (.bool false) ∧ Below w.heap.size w w' := by
  go_enter Try.func13, Try.ntmps13
  go_wp2
  go_ret
  exact ⟨rfl, Below.refl _ _⟩
set_option maxRecDepth 100000 in
set_option maxHeartbeats 3200000 in
theorem lright_true (w : World) (b off cap : Nat) (l : List CV) (hrow : RowAt w b off l) (hb : Bnd l) (h0 : 0 < l.length) : Calls Try.prog 13 #[.bool true, .slice (some ⟨b, off, none⟩) l.length cap] w fun e w' => e = .returned (.bool (Node.right true l)) ∧ Below w.heap.size w w' := by
  have HRW := Lib.hid hrow
  have HB := Lib.hid hb
  obtain ⟨R, hR⟩ : ∃ R, Node.right true l = R := ⟨_, rfl⟩
  have HR := Lib.hid hR
  have HFO : Hid (Node.firstOk true l = true) := Lib.hid (rfl)
  rw [hR]
  have hl6 : l.length ≤ 600 := hb.1
  have E32 : ∀ args w, (callFunc 32 args).run Try.prog w = .ok (.enter 32 args) w := func_enters Try.func32 (by rfl) (by rfl)
  clear hrow hb hR
  go_enter Try.func13, Try.ntmps13
  go_wp2
  go_loopw [23] (fun ii wr => ∃ k : Nat, k ≤ l.length ∧ ii = .int .i64 k ∧ Hid (∀ j, j < k → Node.FineAt true l j) ∧ Below w.heap.size w wr) (fun ii _ => l.length - (intOf ii).toNat)
  case atStart => exact ⟨0, by omega, rfl, Lib.hid (fun j hj => by omega), Below.refl _ _⟩
  case round =>
    obtain ⟨k, hk, rfl, HF, hBr⟩ := hrel
    by_cases hkl : k < l.length
    · have t1 : decide (k < l.length) = true := decide_eq_true hkl
      obtain ⟨hlt, hrw⟩ := HRW.out.below hBr
      obtain ⟨c0, c1, c2, c3, c4⟩ := hrw k hkl
      have LC0 := fun w => lcell_ok w true l[k]
      obtain ⟨z, hz⟩ : ∃ z, l[k].ok true = z := ⟨_, rfl⟩
      have HZ := Lib.hid hz
      simp only [hz] at LC0
      obtain ⟨⟨key, val, over, size, child⟩, hx⟩ : ∃ x, l[k] = x := ⟨_, rfl⟩
      have HKey : Hid (l[k].key = key) := Lib.hid (by rw [hx])
      simp only [hx] at c0 c1 c2 c3 c4 LC0
      unfold CV.v at LC0
      simp only at LC0
      obtain ⟨wA, hwA⟩ : ∃ wA, wr.alloc (.cells #[.string key, .string val, .int .i64 over, .int .i64 size, .int .i64 child] 35) = wA := ⟨_, rfl⟩
      have hX : Blk wA wr.heap.size #[.string key, .string val, .int .i64 over, .int .i64 size, .int .i64 child] 35 := hwA ▸ Blk.new wr _ _
      have hBA0 : Below wr.heap.size wr wA := hwA ▸ (Below.refl _ wr).alloc (Nat.le_refl _) _
      have HBA : Hid (Below w.heap.size w wA) := Lib.hid (hBr.trans (hBA0.mono hBr.size))
      have KX : Hid (∀ wS, Below wA.heap.size wA wS → wS.cell? ⟨wr.heap.size, 0, none⟩ = some (.string key) ∧ wS.cell? ⟨wr.heap.size, 1, none⟩ = some (.string val) ∧ wS.cell? ⟨wr.heap.size, 2, none⟩ = some (.int .i64 over) ∧ wS.cell? ⟨wr.heap.size, 3, none⟩ = some (.int .i64 size) ∧ wS.cell? ⟨wr.heap.size, 4, none⟩ = some (.int .i64 child)) := Lib.hid (fun wS hS => by
        have hb : Blk wS wr.heap.size #[.string key, .string val, .int .i64 over, .int .i64 size, .int .i64 child] 35 := (hS.block _ hX.lt).trans hX
        exact ⟨hb.cell 0, hb.cell 1, hb.cell 2, hb.cell 3, hb.cell 4⟩)
      have LC : Hid (∀ wS, Below wA.heap.size wA wS → Calls Try.prog 32 #[.bool true, .agg #[.string key, .string val, .int .i64 over, .int .i64 size, .int .i64 child]] wS fun e w' => e = .returned (.bool z) ∧ Below wA.heap.size wA w') := Lib.hid (fun wS hS => (LC0 wS).mono fun _ _ ⟨e, hb⟩ => ⟨e, hS.trans (hb.mono hS.size)⟩)
      have i0 : (0 : Int) ≤ (k : Int) := by omega
      have i1 : (k : Int) < (l.length : Int) := by omega
      clear hx hz LC0
      cases z
      · have HRR : Hid (R = false) := Lib.hid (by rw [← HR.out]; exact Node.right_not true l k hkl (fun h => by have := (h hkl).1; rw [HZ.out] at this; cases this))
        clear hrw hBr hX hBA0
        go_upto_region 6 with fail
        clear hwA
        refine region_qh (C := fun w' => Below wA.heap.size wA w') (by kernel_rfl) (by kernel_rfl) ((Below.refl _ wA).drew) ?_
        refine qh_op (.bool true) rfl (fun wS hSw => by go_simp; try with_reducible rfl) ?_
        simp only [Act.put, List.setIfInBounds_toArray, List.set_cons_zero, List.set_cons_succ]
        refine qh_op (.agg #[.string key, .string val, .int .i64 over, .int .i64 size, .int .i64 child]) rfl (fun wS hSw => by obtain ⟨k0, k1, k2, k3, k4⟩ := KX.out wS hSw; go_simp; try with_reducible rfl) ?_
        simp only [Act.put, List.setIfInBounds_toArray, List.set_cons_zero, List.set_cons_succ]
        refine qh_call2 (.bool false) rfl 32 _ _ _ rfl (.bool true) (.agg #[.string key, .string val, .int .i64 over, .int .i64 size, .int .i64 child]) (by rfl) (by rfl) E32 (fun wS hSw => LC.out wS hSw) ?_
        simp only [Act.put, List.setIfInBounds_toArray, List.set_cons_zero, List.set_cons_succ]
        refine qh_op (.bool true) rfl (fun wS hSw => by go_simp; try with_reducible rfl) ?_
        simp only [Act.put, List.setIfInBounds_toArray, List.set_cons_zero, List.set_cons_succ]
        refine qh_op (.bool true) rfl (fun wS hSw => by go_simp; try with_reducible rfl) ?_
        simp only [Act.put, List.setIfInBounds_toArray, List.set_cons_zero, List.set_cons_succ]
        refine qh_skip (by rfl) ?_
        simp only [Act.put, List.setIfInBounds_toArray, List.set_cons_zero, List.set_cons_succ]
        refine qh_skip (by rfl) ?_
        simp only [Act.put, List.setIfInBounds_toArray, List.set_cons_zero, List.set_cons_succ]
        refine qh_skip (by rfl) ?_
        simp only [Act.put, List.setIfInBounds_toArray, List.set_cons_zero, List.set_cons_succ]
        refine qh_skip (by rfl) ?_
        simp only [Act.put, List.setIfInBounds_toArray, List.set_cons_zero, List.set_cons_succ]
        refine qh_skip (by rfl) ?_
        simp only [Act.put, List.setIfInBounds_toArray, List.set_cons_zero, List.set_cons_succ]
        refine qh_skip (by rfl) ?_
        simp only [Act.put, List.setIfInBounds_toArray, List.set_cons_zero, List.set_cons_succ]
        refine qh_skip (by rfl) ?_
        simp only [Act.put, List.setIfInBounds_toArray, List.set_cons_zero, List.set_cons_succ]
        refine qh_skip (by rfl) ?_
        simp only [Act.put, List.setIfInBounds_toArray, List.set_cons_zero, List.set_cons_succ]
        refine qh_skip (by rfl) ?_
        simp only [Act.put, List.setIfInBounds_toArray, List.set_cons_zero, List.set_cons_succ]
        refine qh_skip (by rfl) ?_
        simp only [Act.put, List.setIfInBounds_toArray, List.set_cons_zero, List.set_cons_succ]
        refine qh_skip (by rfl) ?_
        simp only [Act.put, List.setIfInBounds_toArray, List.set_cons_zero, List.set_cons_succ]
        refine qh_skip (by rfl) ?_
        simp only [Act.put, List.setIfInBounds_toArray, List.set_cons_zero, List.set_cons_succ]
        refine qh_skip (by rfl) ?_
        simp only [Act.put, List.setIfInBounds_toArray, List.set_cons_zero, List.set_cons_succ]
        refine qh_op (.bool true) rfl (fun wS hSw => by go_simp; try with_reducible rfl) ?_
        simp only [Act.put, List.setIfInBounds_toArray, List.set_cons_zero, List.set_cons_succ]
        refine qh_nil ⟨?_⟩
        intro wE hE
        go_wp2
        go_ret
        exact ⟨by rw [HRR.out]; rfl, HBA.out.trans (hE.mono HBA.out.size)⟩
      · by_cases hk0 : 0 < k
        · obtain ⟨j, rfl⟩ : ∃ j, k = j + 1 := ⟨k - 1, by omega⟩
          have d1 : decide ((0 : Int) < ((j + 1 : Nat) : Int)) = true := decide_eq_true (by omega)
          have d2 : decide ((0 : Int) < (j : Int) + 1) = true := decide_eq_true (by omega)
          have KR0 := (hrw j (by omega)).1
          obtain ⟨kj, hkj⟩ : ∃ x, l[j].key = x := ⟨_, rfl⟩
          rw [hkj] at KR0
          have KR : Hid (∀ wS, Below wA.heap.size wA wS → wS.cell? ⟨b, off + j * 5, none⟩ = some (.string kj)) := Lib.hid (fun wS hS => (hS.cell (p := ⟨b, off + j * 5, none⟩) (Nat.lt_of_lt_of_le hlt hBA0.size)).trans ((hBA0.cell (p := ⟨b, off + j * 5, none⟩) hlt).trans KR0))
          obtain ⟨y, hy⟩ : ∃ y, (!Op.bytesLess kj.toList key.toList) = y := ⟨_, rfl⟩
          have HY : Hid (y = decide (¬ cmpL l[j].key.data.toList l[j + 1].key.data.toList < 0)) := Lib.hid (by rw [hkj, HKey.out, ← hy, cmp_less, decide_not])
          have leq1 : (Op.bytesLess key.toList kj.toList || (key.toList == kj.toList)) = y := by
            rw [← hy, cmp_less, cmp_less, cmpL_swap kj.data.toList key.data.toList]
            by_cases he : key = kj
            · subst he
              rw [beq_str_true rfl, cmpL_self]
              rfl
            · rw [beq_str_false he, Bool.or_false, ← decide_not]
              have hne : cmpL kj.data.toList key.data.toList ≠ 0 := fun h => he (by
                have := cmpL_eq h
                apply ByteArray.ext
                apply Array.ext'
                exact this.symm)
              exact decide_eq_decide.2 (by omega)
          have m1 : IntKind.i64.wrap (((j + 1 : Nat) : Int) - 1) = j := by rw [IntWalk.i64_in _ (by omega)]; omega
          have m2 : IntKind.i64.wrap ((j : Int) + 1 - 1) = j := by rw [IntWalk.i64_in _ (by omega)]; omega
          have m3 : IntKind.i64.wrap (j : Int) = j := IntWalk.i64_in _ (by omega)
          have j0 : (0 : Int) ≤ (j : Int) := by omega
          have j1 : (j : Int) < (l.length : Int) := by omega
          have HBRS := Lib.hid hBr
          clear hrw hBr hX hBA0 hkj KR0
          cases y
          · have HF2 : Hid (∀ i, i < j + 1 + 1 → Node.FineAt true l i) := Lib.hid (fun i hi => by
              by_cases e : i = j + 1
              · subst e
                intro h
                refine ⟨HZ.out, fun _ => ?_⟩
                have := HY.out
                simp only [Nat.add_sub_cancel]
                exact Decidable.of_not_not (of_decide_eq_false this.symm)
              · exact HF.out i (by omega))
            go_upto_region 6 with fail
            clear hwA
            refine region_qh (C := fun w' => Below wA.heap.size wA w') (by kernel_rfl) (by kernel_rfl) ((Below.refl _ wA).drew) ?_
            refine qh_op (.bool true) rfl (fun wS hSw => by go_simp; try with_reducible rfl) ?_
            simp only [Act.put, List.setIfInBounds_toArray, List.set_cons_zero, List.set_cons_succ]
            refine qh_op (.agg #[.string key, .string val, .int .i64 over, .int .i64 size, .int .i64 child]) rfl (fun wS hSw => by obtain ⟨k0, k1, k2, k3, k4⟩ := KX.out wS hSw; go_simp; try with_reducible rfl) ?_
            simp only [Act.put, List.setIfInBounds_toArray, List.set_cons_zero, List.set_cons_succ]
            refine qh_call2 (.bool true) rfl 32 _ _ _ rfl (.bool true) (.agg #[.string key, .string val, .int .i64 over, .int .i64 size, .int .i64 child]) (by rfl) (by rfl) E32 (fun wS hSw => LC.out wS hSw) ?_
            simp only [Act.put, List.setIfInBounds_toArray, List.set_cons_zero, List.set_cons_succ]
            refine qh_op (.bool false) rfl (fun wS hSw => by go_simp; try with_reducible rfl) ?_
            simp only [Act.put, List.setIfInBounds_toArray, List.set_cons_zero, List.set_cons_succ]
            refine qh_op (.bool false) rfl (fun wS hSw => by go_simp; try with_reducible rfl) ?_
            simp only [Act.put, List.setIfInBounds_toArray, List.set_cons_zero, List.set_cons_succ]
            refine qh_opw (.int .i64 ((j + 1 : Nat) : Int)) (by rfl) (fun wS hSw => by go_simp; try with_reducible rfl) ?_
            simp only [Act.put, List.setIfInBounds_toArray, List.set_cons_zero, List.set_cons_succ]
            refine qh_opw (.bool true) (by rfl) (fun wS hSw => by go_simp; try with_reducible rfl) ?_
            simp only [Act.put, List.setIfInBounds_toArray, List.set_cons_zero, List.set_cons_succ]
            refine qh_opw (.bool true) (by rfl) (fun wS hSw => by go_simp; try with_reducible rfl) ?_
            simp only [Act.put, List.setIfInBounds_toArray, List.set_cons_zero, List.set_cons_succ]
            refine qh_opw (.pointer (some ⟨wr.heap.size, 0, none⟩)) (by rfl) (fun wS hSw => by go_simp; try with_reducible rfl) ?_
            simp only [Act.put, List.setIfInBounds_toArray, List.set_cons_zero, List.set_cons_succ]
            refine qh_opw (.string key) (by rfl) (fun wS hSw => by obtain ⟨k0, k1, k2, k3, k4⟩ := KX.out wS hSw; go_simp; try with_reducible rfl) ?_
            simp only [Act.put, List.setIfInBounds_toArray, List.set_cons_zero, List.set_cons_succ]
            refine qh_opw (.slice (some ⟨b, off, none⟩) l.length cap) (by rfl) (fun wS hSw => by go_simp; try with_reducible rfl) ?_
            simp only [Act.put, List.setIfInBounds_toArray, List.set_cons_zero, List.set_cons_succ]
            refine qh_opw (.int .i64 ((j + 1 : Nat) : Int)) (by rfl) (fun wS hSw => by go_simp; try with_reducible rfl) ?_
            simp only [Act.put, List.setIfInBounds_toArray, List.set_cons_zero, List.set_cons_succ]
            refine qh_opw (.int .i64 (j : Int)) (by rfl) (fun wS hSw => by go_simp; try with_reducible rfl) ?_
            simp only [Act.put, List.setIfInBounds_toArray, List.set_cons_zero, List.set_cons_succ]
            refine qh_opw (.pointer (some ⟨b, off + j * 5, none⟩)) (by rfl) (fun wS hSw => by go_simp; try with_reducible rfl) ?_
            simp only [Act.put, List.setIfInBounds_toArray, List.set_cons_zero, List.set_cons_succ]
            refine qh_opw (.pointer (some ⟨b, off + j * 5, none⟩)) (by rfl) (fun wS hSw => by go_simp; try with_reducible rfl) ?_
            simp only [Act.put, List.setIfInBounds_toArray, List.set_cons_zero, List.set_cons_succ]
            refine qh_opw (.string kj) (by rfl) (fun wS hSw => by have kj0 := KR.out wS hSw; go_simp; try with_reducible rfl) ?_
            simp only [Act.put, List.setIfInBounds_toArray, List.set_cons_zero, List.set_cons_succ]
            refine qh_opw (.bool false) (by rfl) (fun wS hSw => by go_simp; try with_reducible rfl) ?_
            simp only [Act.put, List.setIfInBounds_toArray, List.set_cons_zero, List.set_cons_succ]
            refine qh_opw (.bool false) (by rfl) (fun wS hSw => by go_simp; try with_reducible rfl) ?_
            simp only [Act.put, List.setIfInBounds_toArray, List.set_cons_zero, List.set_cons_succ]
            refine qh_op (.bool false) rfl (fun wS hSw => by go_simp; try with_reducible rfl) ?_
            simp only [Act.put, List.setIfInBounds_toArray, List.set_cons_zero, List.set_cons_succ]
            refine qh_nil ⟨?_⟩
            intro wE hE
            go_wp2
            go_roundw
            case rel => exact ⟨j + 1 + 1, by omega, by go_num, HF2, HBA.out.trans (hE.mono HBA.out.size)⟩
            case measure => simp [intOf]; omega
          · have HRR : Hid (R = false) := Lib.hid (by rw [← HR.out]; exact Node.right_not true l (j + 1) hkl (fun h => by have := (h hkl).2 (by omega); simp only [Nat.add_sub_cancel] at this; have h2 := HY.out; exact of_decide_eq_true h2.symm this))
            go_upto_region 6 with fail
            clear hwA
            refine region_qh (C := fun w' => Below wA.heap.size wA w') (by kernel_rfl) (by kernel_rfl) ((Below.refl _ wA).drew) ?_
            refine qh_op (.bool true) rfl (fun wS hSw => by go_simp; try with_reducible rfl) ?_
            simp only [Act.put, List.setIfInBounds_toArray, List.set_cons_zero, List.set_cons_succ]
            refine qh_op (.agg #[.string key, .string val, .int .i64 over, .int .i64 size, .int .i64 child]) rfl (fun wS hSw => by obtain ⟨k0, k1, k2, k3, k4⟩ := KX.out wS hSw; go_simp; try with_reducible rfl) ?_
            simp only [Act.put, List.setIfInBounds_toArray, List.set_cons_zero, List.set_cons_succ]
            refine qh_call2 (.bool true) rfl 32 _ _ _ rfl (.bool true) (.agg #[.string key, .string val, .int .i64 over, .int .i64 size, .int .i64 child]) (by rfl) (by rfl) E32 (fun wS hSw => LC.out wS hSw) ?_
            simp only [Act.put, List.setIfInBounds_toArray, List.set_cons_zero, List.set_cons_succ]
            refine qh_op (.bool false) rfl (fun wS hSw => by go_simp; try with_reducible rfl) ?_
            simp only [Act.put, List.setIfInBounds_toArray, List.set_cons_zero, List.set_cons_succ]
            refine qh_op (.bool false) rfl (fun wS hSw => by go_simp; try with_reducible rfl) ?_
            simp only [Act.put, List.setIfInBounds_toArray, List.set_cons_zero, List.set_cons_succ]
            refine qh_opw (.int .i64 ((j + 1 : Nat) : Int)) (by rfl) (fun wS hSw => by go_simp; try with_reducible rfl) ?_
            simp only [Act.put, List.setIfInBounds_toArray, List.set_cons_zero, List.set_cons_succ]
            refine qh_opw (.bool true) (by rfl) (fun wS hSw => by go_simp; try with_reducible rfl) ?_
            simp only [Act.put, List.setIfInBounds_toArray, List.set_cons_zero, List.set_cons_succ]
            refine qh_opw (.bool true) (by rfl) (fun wS hSw => by go_simp; try with_reducible rfl) ?_
            simp only [Act.put, List.setIfInBounds_toArray, List.set_cons_zero, List.set_cons_succ]
            refine qh_opw (.pointer (some ⟨wr.heap.size, 0, none⟩)) (by rfl) (fun wS hSw => by go_simp; try with_reducible rfl) ?_
            simp only [Act.put, List.setIfInBounds_toArray, List.set_cons_zero, List.set_cons_succ]
            refine qh_opw (.string key) (by rfl) (fun wS hSw => by obtain ⟨k0, k1, k2, k3, k4⟩ := KX.out wS hSw; go_simp; try with_reducible rfl) ?_
            simp only [Act.put, List.setIfInBounds_toArray, List.set_cons_zero, List.set_cons_succ]
            refine qh_opw (.slice (some ⟨b, off, none⟩) l.length cap) (by rfl) (fun wS hSw => by go_simp; try with_reducible rfl) ?_
            simp only [Act.put, List.setIfInBounds_toArray, List.set_cons_zero, List.set_cons_succ]
            refine qh_opw (.int .i64 ((j + 1 : Nat) : Int)) (by rfl) (fun wS hSw => by go_simp; try with_reducible rfl) ?_
            simp only [Act.put, List.setIfInBounds_toArray, List.set_cons_zero, List.set_cons_succ]
            refine qh_opw (.int .i64 (j : Int)) (by rfl) (fun wS hSw => by go_simp; try with_reducible rfl) ?_
            simp only [Act.put, List.setIfInBounds_toArray, List.set_cons_zero, List.set_cons_succ]
            refine qh_opw (.pointer (some ⟨b, off + j * 5, none⟩)) (by rfl) (fun wS hSw => by go_simp; try with_reducible rfl) ?_
            simp only [Act.put, List.setIfInBounds_toArray, List.set_cons_zero, List.set_cons_succ]
            refine qh_opw (.pointer (some ⟨b, off + j * 5, none⟩)) (by rfl) (fun wS hSw => by go_simp; try with_reducible rfl) ?_
            simp only [Act.put, List.setIfInBounds_toArray, List.set_cons_zero, List.set_cons_succ]
            refine qh_opw (.string kj) (by rfl) (fun wS hSw => by have kj0 := KR.out wS hSw; go_simp; try with_reducible rfl) ?_
            simp only [Act.put, List.setIfInBounds_toArray, List.set_cons_zero, List.set_cons_succ]
            refine qh_opw (.bool true) (by rfl) (fun wS hSw => by go_simp; try with_reducible rfl) ?_
            simp only [Act.put, List.setIfInBounds_toArray, List.set_cons_zero, List.set_cons_succ]
            refine qh_opw (.bool true) (by rfl) (fun wS hSw => by go_simp; try with_reducible rfl) ?_
            simp only [Act.put, List.setIfInBounds_toArray, List.set_cons_zero, List.set_cons_succ]
            refine qh_op (.bool true) rfl (fun wS hSw => by go_simp; try with_reducible rfl) ?_
            simp only [Act.put, List.setIfInBounds_toArray, List.set_cons_zero, List.set_cons_succ]
            refine qh_nil ⟨?_⟩
            intro wE hE
            go_wp2
            go_ret
            exact ⟨by rw [HRR.out]; rfl, HBA.out.trans (hE.mono HBA.out.size)⟩
        · obtain rfl : k = 0 := by omega
          simp only [Nat.zero_mul, Nat.add_zero] at c0 c1 c2 c3 c4
          have HF2 : Hid (∀ i, i < 0 + 1 → Node.FineAt true l i) := Lib.hid (fun i hi => by
            obtain rfl : i = 0 := by omega
            intro h
            exact ⟨HZ.out, fun h0 => absurd h0 (by omega)⟩)
          clear hrw hBr hX hBA0
          go_upto_region 6 with fail
          clear hwA
          refine region_qh (C := fun w' => Below wA.heap.size wA w') (by kernel_rfl) (by kernel_rfl) ((Below.refl _ wA).drew) ?_
          refine qh_op (.bool true) rfl (fun wS hSw => by go_simp; try with_reducible rfl) ?_
          simp only [Act.put, List.setIfInBounds_toArray, List.set_cons_zero, List.set_cons_succ]
          refine qh_op (.agg #[.string key, .string val, .int .i64 over, .int .i64 size, .int .i64 child]) rfl (fun wS hSw => by obtain ⟨k0, k1, k2, k3, k4⟩ := KX.out wS hSw; go_simp; try with_reducible rfl) ?_
          simp only [Act.put, List.setIfInBounds_toArray, List.set_cons_zero, List.set_cons_succ]
          refine qh_call2 (.bool true) rfl 32 _ _ _ rfl (.bool true) (.agg #[.string key, .string val, .int .i64 over, .int .i64 size, .int .i64 child]) (by rfl) (by rfl) E32 (fun wS hSw => LC.out wS hSw) ?_
          simp only [Act.put, List.setIfInBounds_toArray, List.set_cons_zero, List.set_cons_succ]
          refine qh_op (.bool false) rfl (fun wS hSw => by go_simp; try with_reducible rfl) ?_
          simp only [Act.put, List.setIfInBounds_toArray, List.set_cons_zero, List.set_cons_succ]
          refine qh_op (.bool false) rfl (fun wS hSw => by go_simp; try with_reducible rfl) ?_
          simp only [Act.put, List.setIfInBounds_toArray, List.set_cons_zero, List.set_cons_succ]
          refine qh_opw (.int .i64 (0 : Nat)) (by rfl) (fun wS hSw => by go_simp; try with_reducible rfl) ?_
          simp only [Act.put, List.setIfInBounds_toArray, List.set_cons_zero, List.set_cons_succ]
          refine qh_opw (.bool false) (by rfl) (fun wS hSw => by go_simp; try with_reducible rfl) ?_
          simp only [Act.put, List.setIfInBounds_toArray, List.set_cons_zero, List.set_cons_succ]
          refine qh_opw (.bool false) (by rfl) (fun wS hSw => by go_simp; try with_reducible rfl) ?_
          simp only [Act.put, List.setIfInBounds_toArray, List.set_cons_zero, List.set_cons_succ]
          refine qh_skip (by rfl) ?_
          simp only [Act.put, List.setIfInBounds_toArray, List.set_cons_zero, List.set_cons_succ]
          refine qh_skip (by rfl) ?_
          simp only [Act.put, List.setIfInBounds_toArray, List.set_cons_zero, List.set_cons_succ]
          refine qh_skip (by rfl) ?_
          simp only [Act.put, List.setIfInBounds_toArray, List.set_cons_zero, List.set_cons_succ]
          refine qh_skip (by rfl) ?_
          simp only [Act.put, List.setIfInBounds_toArray, List.set_cons_zero, List.set_cons_succ]
          refine qh_skip (by rfl) ?_
          simp only [Act.put, List.setIfInBounds_toArray, List.set_cons_zero, List.set_cons_succ]
          refine qh_skip (by rfl) ?_
          simp only [Act.put, List.setIfInBounds_toArray, List.set_cons_zero, List.set_cons_succ]
          refine qh_skip (by rfl) ?_
          simp only [Act.put, List.setIfInBounds_toArray, List.set_cons_zero, List.set_cons_succ]
          refine qh_skip (by rfl) ?_
          simp only [Act.put, List.setIfInBounds_toArray, List.set_cons_zero, List.set_cons_succ]
          refine qh_skip (by rfl) ?_
          simp only [Act.put, List.setIfInBounds_toArray, List.set_cons_zero, List.set_cons_succ]
          refine qh_opw (.bool false) (by rfl) (fun wS hSw => by go_simp; try with_reducible rfl) ?_
          simp only [Act.put, List.setIfInBounds_toArray, List.set_cons_zero, List.set_cons_succ]
          refine qh_op (.bool false) rfl (fun wS hSw => by go_simp; try with_reducible rfl) ?_
          simp only [Act.put, List.setIfInBounds_toArray, List.set_cons_zero, List.set_cons_succ]
          refine qh_nil ⟨?_⟩
          intro wE hE
          go_wp2
          go_roundw
          case rel => exact ⟨0 + 1, by omega, by go_num, HF2, HBA.out.trans (hE.mono HBA.out.size)⟩
          case measure => simp [intOf]; omega
    · obtain rfl : k = l.length := by omega
      have t1 : decide (l.length < l.length) = false := decide_eq_false (by omega)
      have HRR : Hid (R = true) := Lib.hid (by rw [← HR.out, Node.right_by true l HF.out, HFO.out])
      have HBr := Lib.hid hBr
      clear hBr
      go_wp2
      go_ret
      exact ⟨by rw [HRR.out]; rfl, HBr.out⟩
set_option maxRecDepth 100000 in
set_option maxHeartbeats 3200000 in
theorem lright_false (w : World) (b off cap : Nat) (l : List CV) (hrow : RowAt w b off l) (hb : Bnd l) (h0 : 0 < l.length) (hk0 : ∀ (h : 0 < l.length), l[0].key.size = 0) : Calls Try.prog 13 #[.bool false, .slice (some ⟨b, off, none⟩) l.length cap] w fun e w' => e = .returned (.bool (Node.right false l)) ∧ Below w.heap.size w w' := by
  have HRW := Lib.hid hrow
  have HB := Lib.hid hb
  obtain ⟨R, hR⟩ : ∃ R, Node.right false l = R := ⟨_, rfl⟩
  have HR := Lib.hid hR
  have HFO : Hid (Node.firstOk false l = true) := Lib.hid (by rw [Node.firstOk_at l h0]; exact decide_eq_true (hk0 h0))
  rw [hR]
  have hl6 : l.length ≤ 600 := hb.1
  have E32 : ∀ args w, (callFunc 32 args).run Try.prog w = .ok (.enter 32 args) w := func_enters Try.func32 (by rfl) (by rfl)
  have d0 : ((l.length : Int) == 0) = false := by rw [beq_eq_false_iff_ne]; omega
  obtain ⟨key0, hkey0⟩ : ∃ x, (l[0]'h0).key = x := ⟨_, rfl⟩
  have p0 := (hrow.2 0 h0).1
  rw [hkey0, Nat.zero_mul, Nat.add_zero] at p0
  have plt := hrow.1
  have hks := hk0 h0
  rw [hkey0] at hks
  obtain ⟨f1, f2, f3, f4⟩ := empty_iff key0 true (decide_eq_true hks)
  have i00 : (0 : Int) < (l.length : Int) := by omega
  clear hkey0 hks hk0
  clear hrow hb hR
  go_enter Try.func13, Try.ntmps13
  go_wp2
  go_loopw [23] (fun ii wr => ∃ k : Nat, k ≤ l.length ∧ ii = .int .i64 k ∧ Hid (∀ j, j < k → Node.FineAt false l j) ∧ Below w.heap.size w wr) (fun ii _ => l.length - (intOf ii).toNat)
  case atStart => exact ⟨0, by omega, rfl, Lib.hid (fun j hj => by omega), Below.refl _ _⟩
  case round =>
    obtain ⟨k, hk, rfl, HF, hBr⟩ := hrel
    by_cases hkl : k < l.length
    · have t1 : decide (k < l.length) = true := decide_eq_true hkl
      obtain ⟨hlt, hrw⟩ := HRW.out.below hBr
      obtain ⟨c0, c1, c2, c3, c4⟩ := hrw k hkl
      have LC0 := fun w => lcell_ok w false l[k]
      obtain ⟨z, hz⟩ : ∃ z, l[k].ok false = z := ⟨_, rfl⟩
      have HZ := Lib.hid hz
      simp only [hz] at LC0
      obtain ⟨⟨key, val, over, size, child⟩, hx⟩ : ∃ x, l[k] = x := ⟨_, rfl⟩
      have HKey : Hid (l[k].key = key) := Lib.hid (by rw [hx])
      simp only [hx] at c0 c1 c2 c3 c4 LC0
      unfold CV.v at LC0
      simp only at LC0
      obtain ⟨wA, hwA⟩ : ∃ wA, wr.alloc (.cells #[.string key, .string val, .int .i64 over, .int .i64 size, .int .i64 child] 35) = wA := ⟨_, rfl⟩
      have hX : Blk wA wr.heap.size #[.string key, .string val, .int .i64 over, .int .i64 size, .int .i64 child] 35 := hwA ▸ Blk.new wr _ _
      have hBA0 : Below wr.heap.size wr wA := hwA ▸ (Below.refl _ wr).alloc (Nat.le_refl _) _
      have HBA : Hid (Below w.heap.size w wA) := Lib.hid (hBr.trans (hBA0.mono hBr.size))
      have KX : Hid (∀ wS, Below wA.heap.size wA wS → wS.cell? ⟨wr.heap.size, 0, none⟩ = some (.string key) ∧ wS.cell? ⟨wr.heap.size, 1, none⟩ = some (.string val) ∧ wS.cell? ⟨wr.heap.size, 2, none⟩ = some (.int .i64 over) ∧ wS.cell? ⟨wr.heap.size, 3, none⟩ = some (.int .i64 size) ∧ wS.cell? ⟨wr.heap.size, 4, none⟩ = some (.int .i64 child)) := Lib.hid (fun wS hS => by
        have hb : Blk wS wr.heap.size #[.string key, .string val, .int .i64 over, .int .i64 size, .int .i64 child] 35 := (hS.block _ hX.lt).trans hX
        exact ⟨hb.cell 0, hb.cell 1, hb.cell 2, hb.cell 3, hb.cell 4⟩)
      have LC : Hid (∀ wS, Below wA.heap.size wA wS → Calls Try.prog 32 #[.bool false, .agg #[.string key, .string val, .int .i64 over, .int .i64 size, .int .i64 child]] wS fun e w' => e = .returned (.bool z) ∧ Below wA.heap.size wA w') := Lib.hid (fun wS hS => (LC0 wS).mono fun _ _ ⟨e, hb⟩ => ⟨e, hS.trans (hb.mono hS.size)⟩)
      have i0 : (0 : Int) ≤ (k : Int) := by omega
      have i1 : (k : Int) < (l.length : Int) := by omega
      clear hx hz LC0
      cases z
      · have HRR : Hid (R = false) := Lib.hid (by rw [← HR.out]; exact Node.right_not false l k hkl (fun h => by have := (h hkl).1; rw [HZ.out] at this; cases this))
        clear hrw hBr hX hBA0
        go_upto_region 6 with fail
        clear hwA
        refine region_qh (C := fun w' => Below wA.heap.size wA w') (by kernel_rfl) (by kernel_rfl) ((Below.refl _ wA).drew) ?_
        refine qh_op (.bool false) rfl (fun wS hSw => by go_simp; try with_reducible rfl) ?_
        simp only [Act.put, List.setIfInBounds_toArray, List.set_cons_zero, List.set_cons_succ]
        refine qh_op (.agg #[.string key, .string val, .int .i64 over, .int .i64 size, .int .i64 child]) rfl (fun wS hSw => by obtain ⟨k0, k1, k2, k3, k4⟩ := KX.out wS hSw; go_simp; try with_reducible rfl) ?_
        simp only [Act.put, List.setIfInBounds_toArray, List.set_cons_zero, List.set_cons_succ]
        refine qh_call2 (.bool false) rfl 32 _ _ _ rfl (.bool false) (.agg #[.string key, .string val, .int .i64 over, .int .i64 size, .int .i64 child]) (by rfl) (by rfl) E32 (fun wS hSw => LC.out wS hSw) ?_
        simp only [Act.put, List.setIfInBounds_toArray, List.set_cons_zero, List.set_cons_succ]
        refine qh_op (.bool true) rfl (fun wS hSw => by go_simp; try with_reducible rfl) ?_
        simp only [Act.put, List.setIfInBounds_toArray, List.set_cons_zero, List.set_cons_succ]
        refine qh_op (.bool true) rfl (fun wS hSw => by go_simp; try with_reducible rfl) ?_
        simp only [Act.put, List.setIfInBounds_toArray, List.set_cons_zero, List.set_cons_succ]
        refine qh_skip (by rfl) ?_
        simp only [Act.put, List.setIfInBounds_toArray, List.set_cons_zero, List.set_cons_succ]
        refine qh_skip (by rfl) ?_
        simp only [Act.put, List.setIfInBounds_toArray, List.set_cons_zero, List.set_cons_succ]
        refine qh_skip (by rfl) ?_
        simp only [Act.put, List.setIfInBounds_toArray, List.set_cons_zero, List.set_cons_succ]
        refine qh_skip (by rfl) ?_
        simp only [Act.put, List.setIfInBounds_toArray, List.set_cons_zero, List.set_cons_succ]
        refine qh_skip (by rfl) ?_
        simp only [Act.put, List.setIfInBounds_toArray, List.set_cons_zero, List.set_cons_succ]
        refine qh_skip (by rfl) ?_
        simp only [Act.put, List.setIfInBounds_toArray, List.set_cons_zero, List.set_cons_succ]
        refine qh_skip (by rfl) ?_
        simp only [Act.put, List.setIfInBounds_toArray, List.set_cons_zero, List.set_cons_succ]
        refine qh_skip (by rfl) ?_
        simp only [Act.put, List.setIfInBounds_toArray, List.set_cons_zero, List.set_cons_succ]
        refine qh_skip (by rfl) ?_
        simp only [Act.put, List.setIfInBounds_toArray, List.set_cons_zero, List.set_cons_succ]
        refine qh_skip (by rfl) ?_
        simp only [Act.put, List.setIfInBounds_toArray, List.set_cons_zero, List.set_cons_succ]
        refine qh_skip (by rfl) ?_
        simp only [Act.put, List.setIfInBounds_toArray, List.set_cons_zero, List.set_cons_succ]
        refine qh_skip (by rfl) ?_
        simp only [Act.put, List.setIfInBounds_toArray, List.set_cons_zero, List.set_cons_succ]
        refine qh_skip (by rfl) ?_
        simp only [Act.put, List.setIfInBounds_toArray, List.set_cons_zero, List.set_cons_succ]
        refine qh_op (.bool true) rfl (fun wS hSw => by go_simp; try with_reducible rfl) ?_
        simp only [Act.put, List.setIfInBounds_toArray, List.set_cons_zero, List.set_cons_succ]
        refine qh_nil ⟨?_⟩
        intro wE hE
        go_wp2
        go_ret
        exact ⟨by rw [HRR.out]; rfl, HBA.out.trans (hE.mono HBA.out.size)⟩
      · by_cases hk0 : 0 < k
        · obtain ⟨j, rfl⟩ : ∃ j, k = j + 1 := ⟨k - 1, by omega⟩
          have d1 : decide ((0 : Int) < ((j + 1 : Nat) : Int)) = true := decide_eq_true (by omega)
          have d2 : decide ((0 : Int) < (j : Int) + 1) = true := decide_eq_true (by omega)
          have KR0 := (hrw j (by omega)).1
          obtain ⟨kj, hkj⟩ : ∃ x, l[j].key = x := ⟨_, rfl⟩
          rw [hkj] at KR0
          have KR : Hid (∀ wS, Below wA.heap.size wA wS → wS.cell? ⟨b, off + j * 5, none⟩ = some (.string kj)) := Lib.hid (fun wS hS => (hS.cell (p := ⟨b, off + j * 5, none⟩) (Nat.lt_of_lt_of_le hlt hBA0.size)).trans ((hBA0.cell (p := ⟨b, off + j * 5, none⟩) hlt).trans KR0))
          obtain ⟨y, hy⟩ : ∃ y, (!Op.bytesLess kj.toList key.toList) = y := ⟨_, rfl⟩
          have HY : Hid (y = decide (¬ cmpL l[j].key.data.toList l[j + 1].key.data.toList < 0)) := Lib.hid (by rw [hkj, HKey.out, ← hy, cmp_less, decide_not])
          have leq1 : (Op.bytesLess key.toList kj.toList || (key.toList == kj.toList)) = y := by
            rw [← hy, cmp_less, cmp_less, cmpL_swap kj.data.toList key.data.toList]
            by_cases he : key = kj
            · subst he
              rw [beq_str_true rfl, cmpL_self]
              rfl
            · rw [beq_str_false he, Bool.or_false, ← decide_not]
              have hne : cmpL kj.data.toList key.data.toList ≠ 0 := fun h => he (by
                have := cmpL_eq h
                apply ByteArray.ext
                apply Array.ext'
                exact this.symm)
              exact decide_eq_decide.2 (by omega)
          have m1 : IntKind.i64.wrap (((j + 1 : Nat) : Int) - 1) = j := by rw [IntWalk.i64_in _ (by omega)]; omega
          have m2 : IntKind.i64.wrap ((j : Int) + 1 - 1) = j := by rw [IntWalk.i64_in _ (by omega)]; omega
          have m3 : IntKind.i64.wrap (j : Int) = j := IntWalk.i64_in _ (by omega)
          have j0 : (0 : Int) ≤ (j : Int) := by omega
          have j1 : (j : Int) < (l.length : Int) := by omega
          have HBRS := Lib.hid hBr
          clear hrw hBr hX hBA0 hkj KR0
          cases y
          · have HF2 : Hid (∀ i, i < j + 1 + 1 → Node.FineAt false l i) := Lib.hid (fun i hi => by
              by_cases e : i = j + 1
              · subst e
                intro h
                refine ⟨HZ.out, fun _ => ?_⟩
                have := HY.out
                simp only [Nat.add_sub_cancel]
                exact Decidable.of_not_not (of_decide_eq_false this.symm)
              · exact HF.out i (by omega))
            go_upto_region 6 with fail
            clear hwA
            refine region_qh (C := fun w' => Below wA.heap.size wA w') (by kernel_rfl) (by kernel_rfl) ((Below.refl _ wA).drew) ?_
            refine qh_op (.bool false) rfl (fun wS hSw => by go_simp; try with_reducible rfl) ?_
            simp only [Act.put, List.setIfInBounds_toArray, List.set_cons_zero, List.set_cons_succ]
            refine qh_op (.agg #[.string key, .string val, .int .i64 over, .int .i64 size, .int .i64 child]) rfl (fun wS hSw => by obtain ⟨k0, k1, k2, k3, k4⟩ := KX.out wS hSw; go_simp; try with_reducible rfl) ?_
            simp only [Act.put, List.setIfInBounds_toArray, List.set_cons_zero, List.set_cons_succ]
            refine qh_call2 (.bool true) rfl 32 _ _ _ rfl (.bool false) (.agg #[.string key, .string val, .int .i64 over, .int .i64 size, .int .i64 child]) (by rfl) (by rfl) E32 (fun wS hSw => LC.out wS hSw) ?_
            simp only [Act.put, List.setIfInBounds_toArray, List.set_cons_zero, List.set_cons_succ]
            refine qh_op (.bool false) rfl (fun wS hSw => by go_simp; try with_reducible rfl) ?_
            simp only [Act.put, List.setIfInBounds_toArray, List.set_cons_zero, List.set_cons_succ]
            refine qh_op (.bool false) rfl (fun wS hSw => by go_simp; try with_reducible rfl) ?_
            simp only [Act.put, List.setIfInBounds_toArray, List.set_cons_zero, List.set_cons_succ]
            refine qh_opw (.int .i64 ((j + 1 : Nat) : Int)) (by rfl) (fun wS hSw => by go_simp; try with_reducible rfl) ?_
            simp only [Act.put, List.setIfInBounds_toArray, List.set_cons_zero, List.set_cons_succ]
            refine qh_opw (.bool true) (by rfl) (fun wS hSw => by go_simp; try with_reducible rfl) ?_
            simp only [Act.put, List.setIfInBounds_toArray, List.set_cons_zero, List.set_cons_succ]
            refine qh_opw (.bool true) (by rfl) (fun wS hSw => by go_simp; try with_reducible rfl) ?_
            simp only [Act.put, List.setIfInBounds_toArray, List.set_cons_zero, List.set_cons_succ]
            refine qh_opw (.pointer (some ⟨wr.heap.size, 0, none⟩)) (by rfl) (fun wS hSw => by go_simp; try with_reducible rfl) ?_
            simp only [Act.put, List.setIfInBounds_toArray, List.set_cons_zero, List.set_cons_succ]
            refine qh_opw (.string key) (by rfl) (fun wS hSw => by obtain ⟨k0, k1, k2, k3, k4⟩ := KX.out wS hSw; go_simp; try with_reducible rfl) ?_
            simp only [Act.put, List.setIfInBounds_toArray, List.set_cons_zero, List.set_cons_succ]
            refine qh_opw (.slice (some ⟨b, off, none⟩) l.length cap) (by rfl) (fun wS hSw => by go_simp; try with_reducible rfl) ?_
            simp only [Act.put, List.setIfInBounds_toArray, List.set_cons_zero, List.set_cons_succ]
            refine qh_opw (.int .i64 ((j + 1 : Nat) : Int)) (by rfl) (fun wS hSw => by go_simp; try with_reducible rfl) ?_
            simp only [Act.put, List.setIfInBounds_toArray, List.set_cons_zero, List.set_cons_succ]
            refine qh_opw (.int .i64 (j : Int)) (by rfl) (fun wS hSw => by go_simp; try with_reducible rfl) ?_
            simp only [Act.put, List.setIfInBounds_toArray, List.set_cons_zero, List.set_cons_succ]
            refine qh_opw (.pointer (some ⟨b, off + j * 5, none⟩)) (by rfl) (fun wS hSw => by go_simp; try with_reducible rfl) ?_
            simp only [Act.put, List.setIfInBounds_toArray, List.set_cons_zero, List.set_cons_succ]
            refine qh_opw (.pointer (some ⟨b, off + j * 5, none⟩)) (by rfl) (fun wS hSw => by go_simp; try with_reducible rfl) ?_
            simp only [Act.put, List.setIfInBounds_toArray, List.set_cons_zero, List.set_cons_succ]
            refine qh_opw (.string kj) (by rfl) (fun wS hSw => by have kj0 := KR.out wS hSw; go_simp; try with_reducible rfl) ?_
            simp only [Act.put, List.setIfInBounds_toArray, List.set_cons_zero, List.set_cons_succ]
            refine qh_opw (.bool false) (by rfl) (fun wS hSw => by go_simp; try with_reducible rfl) ?_
            simp only [Act.put, List.setIfInBounds_toArray, List.set_cons_zero, List.set_cons_succ]
            refine qh_opw (.bool false) (by rfl) (fun wS hSw => by go_simp; try with_reducible rfl) ?_
            simp only [Act.put, List.setIfInBounds_toArray, List.set_cons_zero, List.set_cons_succ]
            refine qh_op (.bool false) rfl (fun wS hSw => by go_simp; try with_reducible rfl) ?_
            simp only [Act.put, List.setIfInBounds_toArray, List.set_cons_zero, List.set_cons_succ]
            refine qh_nil ⟨?_⟩
            intro wE hE
            go_wp2
            go_roundw
            case rel => exact ⟨j + 1 + 1, by omega, by go_num, HF2, HBA.out.trans (hE.mono HBA.out.size)⟩
            case measure => simp [intOf]; omega
          · have HRR : Hid (R = false) := Lib.hid (by rw [← HR.out]; exact Node.right_not false l (j + 1) hkl (fun h => by have := (h hkl).2 (by omega); simp only [Nat.add_sub_cancel] at this; have h2 := HY.out; exact of_decide_eq_true h2.symm this))
            go_upto_region 6 with fail
            clear hwA
            refine region_qh (C := fun w' => Below wA.heap.size wA w') (by kernel_rfl) (by kernel_rfl) ((Below.refl _ wA).drew) ?_
            refine qh_op (.bool false) rfl (fun wS hSw => by go_simp; try with_reducible rfl) ?_
            simp only [Act.put, List.setIfInBounds_toArray, List.set_cons_zero, List.set_cons_succ]
            refine qh_op (.agg #[.string key, .string val, .int .i64 over, .int .i64 size, .int .i64 child]) rfl (fun wS hSw => by obtain ⟨k0, k1, k2, k3, k4⟩ := KX.out wS hSw; go_simp; try with_reducible rfl) ?_
            simp only [Act.put, List.setIfInBounds_toArray, List.set_cons_zero, List.set_cons_succ]
            refine qh_call2 (.bool true) rfl 32 _ _ _ rfl (.bool false) (.agg #[.string key, .string val, .int .i64 over, .int .i64 size, .int .i64 child]) (by rfl) (by rfl) E32 (fun wS hSw => LC.out wS hSw) ?_
            simp only [Act.put, List.setIfInBounds_toArray, List.set_cons_zero, List.set_cons_succ]
            refine qh_op (.bool false) rfl (fun wS hSw => by go_simp; try with_reducible rfl) ?_
            simp only [Act.put, List.setIfInBounds_toArray, List.set_cons_zero, List.set_cons_succ]
            refine qh_op (.bool false) rfl (fun wS hSw => by go_simp; try with_reducible rfl) ?_
            simp only [Act.put, List.setIfInBounds_toArray, List.set_cons_zero, List.set_cons_succ]
            refine qh_opw (.int .i64 ((j + 1 : Nat) : Int)) (by rfl) (fun wS hSw => by go_simp; try with_reducible rfl) ?_
            simp only [Act.put, List.setIfInBounds_toArray, List.set_cons_zero, List.set_cons_succ]
            refine qh_opw (.bool true) (by rfl) (fun wS hSw => by go_simp; try with_reducible rfl) ?_
            simp only [Act.put, List.setIfInBounds_toArray, List.set_cons_zero, List.set_cons_succ]
            refine qh_opw (.bool true) (by rfl) (fun wS hSw => by go_simp; try with_reducible rfl) ?_
            simp only [Act.put, List.setIfInBounds_toArray, List.set_cons_zero, List.set_cons_succ]
            refine qh_opw (.pointer (some ⟨wr.heap.size, 0, none⟩)) (by rfl) (fun wS hSw => by go_simp; try with_reducible rfl) ?_
            simp only [Act.put, List.setIfInBounds_toArray, List.set_cons_zero, List.set_cons_succ]
            refine qh_opw (.string key) (by rfl) (fun wS hSw => by obtain ⟨k0, k1, k2, k3, k4⟩ := KX.out wS hSw; go_simp; try with_reducible rfl) ?_
            simp only [Act.put, List.setIfInBounds_toArray, List.set_cons_zero, List.set_cons_succ]
            refine qh_opw (.slice (some ⟨b, off, none⟩) l.length cap) (by rfl) (fun wS hSw => by go_simp; try with_reducible rfl) ?_
            simp only [Act.put, List.setIfInBounds_toArray, List.set_cons_zero, List.set_cons_succ]
            refine qh_opw (.int .i64 ((j + 1 : Nat) : Int)) (by rfl) (fun wS hSw => by go_simp; try with_reducible rfl) ?_
            simp only [Act.put, List.setIfInBounds_toArray, List.set_cons_zero, List.set_cons_succ]
            refine qh_opw (.int .i64 (j : Int)) (by rfl) (fun wS hSw => by go_simp; try with_reducible rfl) ?_
            simp only [Act.put, List.setIfInBounds_toArray, List.set_cons_zero, List.set_cons_succ]
            refine qh_opw (.pointer (some ⟨b, off + j * 5, none⟩)) (by rfl) (fun wS hSw => by go_simp; try with_reducible rfl) ?_
            simp only [Act.put, List.setIfInBounds_toArray, List.set_cons_zero, List.set_cons_succ]
            refine qh_opw (.pointer (some ⟨b, off + j * 5, none⟩)) (by rfl) (fun wS hSw => by go_simp; try with_reducible rfl) ?_
            simp only [Act.put, List.setIfInBounds_toArray, List.set_cons_zero, List.set_cons_succ]
            refine qh_opw (.string kj) (by rfl) (fun wS hSw => by have kj0 := KR.out wS hSw; go_simp; try with_reducible rfl) ?_
            simp only [Act.put, List.setIfInBounds_toArray, List.set_cons_zero, List.set_cons_succ]
            refine qh_opw (.bool true) (by rfl) (fun wS hSw => by go_simp; try with_reducible rfl) ?_
            simp only [Act.put, List.setIfInBounds_toArray, List.set_cons_zero, List.set_cons_succ]
            refine qh_opw (.bool true) (by rfl) (fun wS hSw => by go_simp; try with_reducible rfl) ?_
            simp only [Act.put, List.setIfInBounds_toArray, List.set_cons_zero, List.set_cons_succ]
            refine qh_op (.bool true) rfl (fun wS hSw => by go_simp; try with_reducible rfl) ?_
            simp only [Act.put, List.setIfInBounds_toArray, List.set_cons_zero, List.set_cons_succ]
            refine qh_nil ⟨?_⟩
            intro wE hE
            go_wp2
            go_ret
            exact ⟨by rw [HRR.out]; rfl, HBA.out.trans (hE.mono HBA.out.size)⟩
        · obtain rfl : k = 0 := by omega
          simp only [Nat.zero_mul, Nat.add_zero] at c0 c1 c2 c3 c4
          have HF2 : Hid (∀ i, i < 0 + 1 → Node.FineAt false l i) := Lib.hid (fun i hi => by
            obtain rfl : i = 0 := by omega
            intro h
            exact ⟨HZ.out, fun h0 => absurd h0 (by omega)⟩)
          clear hrw hBr hX hBA0
          go_upto_region 6 with fail
          clear hwA
          refine region_qh (C := fun w' => Below wA.heap.size wA w') (by kernel_rfl) (by kernel_rfl) ((Below.refl _ wA).drew) ?_
          refine qh_op (.bool false) rfl (fun wS hSw => by go_simp; try with_reducible rfl) ?_
          simp only [Act.put, List.setIfInBounds_toArray, List.set_cons_zero, List.set_cons_succ]
          refine qh_op (.agg #[.string key, .string val, .int .i64 over, .int .i64 size, .int .i64 child]) rfl (fun wS hSw => by obtain ⟨k0, k1, k2, k3, k4⟩ := KX.out wS hSw; go_simp; try with_reducible rfl) ?_
          simp only [Act.put, List.setIfInBounds_toArray, List.set_cons_zero, List.set_cons_succ]
          refine qh_call2 (.bool true) rfl 32 _ _ _ rfl (.bool false) (.agg #[.string key, .string val, .int .i64 over, .int .i64 size, .int .i64 child]) (by rfl) (by rfl) E32 (fun wS hSw => LC.out wS hSw) ?_
          simp only [Act.put, List.setIfInBounds_toArray, List.set_cons_zero, List.set_cons_succ]
          refine qh_op (.bool false) rfl (fun wS hSw => by go_simp; try with_reducible rfl) ?_
          simp only [Act.put, List.setIfInBounds_toArray, List.set_cons_zero, List.set_cons_succ]
          refine qh_op (.bool false) rfl (fun wS hSw => by go_simp; try with_reducible rfl) ?_
          simp only [Act.put, List.setIfInBounds_toArray, List.set_cons_zero, List.set_cons_succ]
          refine qh_opw (.int .i64 (0 : Nat)) (by rfl) (fun wS hSw => by go_simp; try with_reducible rfl) ?_
          simp only [Act.put, List.setIfInBounds_toArray, List.set_cons_zero, List.set_cons_succ]
          refine qh_opw (.bool false) (by rfl) (fun wS hSw => by go_simp; try with_reducible rfl) ?_
          simp only [Act.put, List.setIfInBounds_toArray, List.set_cons_zero, List.set_cons_succ]
          refine qh_opw (.bool false) (by rfl) (fun wS hSw => by go_simp; try with_reducible rfl) ?_
          simp only [Act.put, List.setIfInBounds_toArray, List.set_cons_zero, List.set_cons_succ]
          refine qh_skip (by rfl) ?_
          simp only [Act.put, List.setIfInBounds_toArray, List.set_cons_zero, List.set_cons_succ]
          refine qh_skip (by rfl) ?_
          simp only [Act.put, List.setIfInBounds_toArray, List.set_cons_zero, List.set_cons_succ]
          refine qh_skip (by rfl) ?_
          simp only [Act.put, List.setIfInBounds_toArray, List.set_cons_zero, List.set_cons_succ]
          refine qh_skip (by rfl) ?_
          simp only [Act.put, List.setIfInBounds_toArray, List.set_cons_zero, List.set_cons_succ]
          refine qh_skip (by rfl) ?_
          simp only [Act.put, List.setIfInBounds_toArray, List.set_cons_zero, List.set_cons_succ]
          refine qh_skip (by rfl) ?_
          simp only [Act.put, List.setIfInBounds_toArray, List.set_cons_zero, List.set_cons_succ]
          refine qh_skip (by rfl) ?_
          simp only [Act.put, List.setIfInBounds_toArray, List.set_cons_zero, List.set_cons_succ]
          refine qh_skip (by rfl) ?_
          simp only [Act.put, List.setIfInBounds_toArray, List.set_cons_zero, List.set_cons_succ]
          refine qh_skip (by rfl) ?_
          simp only [Act.put, List.setIfInBounds_toArray, List.set_cons_zero, List.set_cons_succ]
          refine qh_opw (.bool false) (by rfl) (fun wS hSw => by go_simp; try with_reducible rfl) ?_
          simp only [Act.put, List.setIfInBounds_toArray, List.set_cons_zero, List.set_cons_succ]
          refine qh_op (.bool false) rfl (fun wS hSw => by go_simp; try with_reducible rfl) ?_
          simp only [Act.put, List.setIfInBounds_toArray, List.set_cons_zero, List.set_cons_succ]
          refine qh_nil ⟨?_⟩
          intro wE hE
          go_wp2
          go_roundw
          case rel => exact ⟨0 + 1, by omega, by go_num, HF2, HBA.out.trans (hE.mono HBA.out.size)⟩
          case measure => simp [intOf]; omega
    · obtain rfl : k = l.length := by omega
      have t1 : decide (l.length < l.length) = false := decide_eq_false (by omega)
      have HRR : Hid (R = true) := Lib.hid (by rw [← HR.out, Node.right_by false l HF.out, HFO.out])
      have HBr := Lib.hid hBr
      clear hBr
      go_wp2
      go_ret
      exact ⟨by rw [HRR.out]; rfl, HBr.out⟩
set_option maxRecDepth 100000 in
set_option maxHeartbeats 3200000 in
theorem lright_key (w : World) (b off cap : Nat) (l : List CV) (hrow : RowAt w b off l) (hl6 : l.length ≤ 600) (h0 : 0 < l.length) (hk0 : l[0].key.size ≠ 0) : Calls Try.prog 13 #[.bool false, .slice (some ⟨b, off, none⟩) l.length cap] w fun e w' => e = .returned (.bool false) ∧ Below w.heap.size w w' := by
  have d0 : ((l.length : Int) == 0) = false := by rw [beq_eq_false_iff_ne]; omega
  obtain ⟨key0, hkey0⟩ : ∃ x, l[0].key = x := ⟨_, rfl⟩
  have p0 := (hrow.2 0 h0).1
  rw [hkey0, Nat.zero_mul, Nat.add_zero] at p0
  have plt := hrow.1
  rw [hkey0] at hk0
  obtain ⟨f1, f2, f3, f4⟩ := empty_iff key0 false (decide_eq_false hk0)
  have i00 : (0 : Int) < (l.length : Int) := by omega
  clear hkey0 hk0 hrow
  go_enter Try.func13, Try.ntmps13
  go_wp2
  go_ret
  exact ⟨rfl, Below.refl _ _⟩
theorem lright_ok (w : World) (leaf : Bool) (v : Value) (l : List CV) (hc : CellsAt w v l) (hb : Bnd l) : Calls Try.prog 13 #[.bool leaf, v] w fun e w' => e = .returned (.bool (Node.right leaf l)) ∧ Below w.heap.size w w' := by
  obtain ⟨A, cap, rfl, _, _⟩ := hc.form
  by_cases h0 : 0 < l.length
  · obtain ⟨b, off, rfl, hrow⟩ := hc.row h0
    cases leaf
    · by_cases hk0 : l[0].key.size = 0
      · exact lright_false w b off cap l hrow hb h0 (fun _ => hk0)
      · have e : Node.right false l = false := Node.right_first false l (by rw [Node.firstOk_at l h0]; exact decide_eq_false hk0)
        rw [e]
        exact lright_key w b off cap l hrow hb.1 h0 hk0
    · exact lright_true w b off cap l hrow hb h0
  · have hl : l = [] := List.length_eq_zero_iff.1 (by omega)
    subst hl
    cases leaf
    · exact lright_none_false w A cap
    · exact lright_none_true w A cap
set_option maxRecDepth 100000 in
set_option maxHeartbeats 3200000 in
theorem lbytes_ok (w : World) (leaf : Bool) (v : Value) (l : List CV) (hc : CellsAt w v l) (hb : Bnd l) : Calls Try.prog 15 #[.bool leaf, v] w fun e w' => e = .returned (.int .i64 (Node.bytesN leaf l)) ∧ Below w.heap.size w w' := by
  have RC := Lib.hid (lright_ok w leaf v l hc hb)
  have CC := Lib.hid (fun w1 (h : Below w.heap.size w w1) => lsizes_ok w1 leaf v l (hc.below h) hb)
  have hbd := countV_bnd leaf l hb l.length (Nat.le_refl _)
  rw [List.take_length, Node.countV_sum] at hbd
  have hl6 := hb.1
  have hcs := Node.countV_sum leaf l
  obtain ⟨n, hn⟩ : ∃ n, (Node.szs leaf l).sum = n := ⟨_, rfl⟩
  simp only [hn] at CC
  rw [hn] at hbd hcs
  have m1 : IntKind.i64.wrap (2 + (n : Int)) = 2 + n := IntWalk.i64_in _ (by omega)
  have HR : Hid (Node.bytesN leaf l = if Node.right leaf l then (2 + (n : Int)) else 0) := Lib.hid (by unfold Node.bytesN; rw [hcs]; rfl)
  clear hc hb hbd hcs hn
  cases hr : Node.right leaf l
  · rw [hr] at RC HR
    clear hr
    go_enter Try.func15, Try.ntmps15
    go_wp2_with fail
    refine RC.out.mono ?_
    rintro _ w1 ⟨rfl, hb1⟩
    go_wp2
    go_ret
    exact ⟨by rw [HR.out]; rfl, hb1⟩
  · rw [hr] at RC HR
    clear hr
    go_enter Try.func15, Try.ntmps15
    go_wp2_with fail
    refine RC.out.mono ?_
    rintro _ w1 ⟨rfl, hb1⟩
    go_wp2_with fail
    refine (CC.out _ hb1).mono ?_
    rintro _ w2 ⟨rfl, hb2⟩
    go_wp2
    go_ret
    exact ⟨by rw [HR.out]; rfl, hb1.trans (hb2.mono hb1.size)⟩
end Go.Proofs.Ytegmffeokfahjaa
