/-
  Contracts of the reference (rollbookref08): Sorted. Conditions: lists of at most 600.
-/
import Derived.Test.YtjgndgcegenikaaFrRefB
namespace Go.Proofs.Ytjgndgcegenikaa
open Go.RowKit
theorem fvs_one (M : List FP) : ∀ u ∈ fvs M, u.oneCell' = true := by
  intro u hu
  unfold fvs at hu
  rw [List.mem_flatMap] at hu
  obtain ⟨c, _, hc⟩ := hu
  unfold fcells at hc
  simp only [List.mem_cons, List.not_mem_nil, or_false] at hc
  rcases hc with rfl | rfl <;> rfl
theorem fvs_append (L M : List FP) : fvs (L ++ M) = fvs L ++ fvs M := by unfold fvs; rw [List.flatMap_append]
theorem wpList_append_frees {P : Program} (w : World) {ops : Array Oper} {rest : List Oper} {o : Oper} {a : Act} {Q : Exit → Act → World → Prop} (hgd : o.guard = none) (s x : Operand) (t : TypeId)
    (ho : o.op = .call { callee := .builtin .append, args := #[s, x], argTypes := #[t, t] })
    (base : Nat) (ht : P.underlying t = some (.slice 31)) (hi : (P.info? 31).map (fun i => (i.zero, i.size, i.bytes)) = some (some (.agg #[.int .i64 0, .int .i64 0]), 2, 16))
    (v : Value) (L : List FP) (hs : a.eval s = v) (hown : OwnF w base v L) (ad : Addr) (n c : Nat) (M : List FP) (hM : FreesAt w (.slice (some ad) n c) M) (hx : a.eval x = .slice (some ad) n c)
    (hlen : L.length + M.length ≤ 65536) (hbase : base ≤ w.heap.size)
    (h : ∀ v' w', OwnF w' base v' (L ++ M) → Below base w w' → wpList P ops Q rest (a.put o.dst v') w') : wpList P ops Q (o :: rest) a w := by
  obtain ⟨i, hi, hz, hsize, hby⟩ := info_parts hi
  have hn : n = M.length := by
    obtain ⟨A, cap, hv, _⟩ := hM
    injection hv
  subst hn
  refine wpList_append_own (w := w) hgd s x t ho base 31 i _ 2 16 ht hi hz hsize hby rfl (by omega) v L.length (fvs L) hs hown ad M.length c (fvs M) hx (by rw [fvs_length]; omega) ?_ (fvs_one M) (by simp only [maxLen]; omega) (by omega) hbase ?_
  · intro j u hu
    have hj : j < (fvs M).length := (List.getElem?_eq_some_iff.1 hu).1
    rw [fvs_length] at hj
    have hk : j / 2 < M.length := by omega
    obtain ⟨b, off, hA, hlt, c0, c1⟩ := hM.get (j / 2) hk
    injection hA with hA
    subst hA
    have h3 := fvs_get M (j / 2) hk (j % 2) (by omega)
    rw [show j / 2 * 2 + j % 2 = j by omega] at h3
    rw [hu] at h3
    have hadd : (⟨b, off, none⟩ : Addr).add j = ⟨b, off + j, none⟩ := by unfold Addr.add; split <;> simp_all
    rw [hadd]
    rcases (show j % 2 = 0 ∨ j % 2 = 1 by omega) with hm | hm
    · rw [hm] at h3
      rw [show off + j = off + j / 2 * 2 by omega, c0]
      exact h3.symm
    · rw [hm] at h3
      rw [show off + j = off + j / 2 * 2 + 1 by omega, c1]
      exact h3.symm
  · intro v' w' h1 h2 _
    refine h v' w' ?_ ((Below.refl base w).grown h2 hbase (fun k hk => (World.ownsRow.lt hown k hk).1))
    unfold OwnF
    rw [fvs_append, List.length_append]
    exact h1
theorem fsliced_some (a : Addr) (i j cap : Nat) : ∃ ad c, sliced (some a) i j cap 2 = .slice (some ad) (j - i) c := by
  unfold sliced
  split
  · exact ⟨a, _, rfl⟩
  · exact ⟨a.add (i * 2), _, rfl⟩
theorem fsize2 : ∀ w, (sizeOf (Try.prog.elem 27)).run Try.prog w = .ok 2 w := fun w => by kernel_rfl
theorem fundE : Try.prog.underlying 27 = some (.slice (Try.prog.elem 27)) := by kernel_rfl
theorem fcut_lo (w : World) (A : Option Addr) (len cap i : Nat) (h : i ≤ len) : (Instr.slice 27 (.slice A len cap) (some (.int .i64 i)) none none).run Try.prog w = .ok (sliced A i len cap 2) w := by
  rw [run_slice_l w 27 A len cap fundE .i64 i (by omega) (by omega), fsize2]
  rfl
theorem fcut_hi (w : World) (A : Option Addr) (len cap i : Nat) (h : i ≤ cap) : (Instr.slice 27 (.slice A len cap) none (some (.int .i64 i)) none).run Try.prog w = .ok (sliced A 0 i cap 2) w := by
  rw [run_slice_h w 27 A len cap fundE .i64 i (by omega) (by omega), fsize2]
  rfl
/-- a part of a list of free pages -/
theorem FreesAt.cut {w : World} {A : Option Addr} {len cap : Nat} {l : List FP} (h : FreesAt w (.slice A len cap) l) (i j : Nat) (hij : i ≤ j) (hj : j ≤ l.length) : FreesAt w (sliced A i j cap 2) ((l.take j).drop i) := by
  have h0 := h
  obtain ⟨A', cap', hv, h1, h2, _⟩ := h
  injection hv with e1 e2 e3
  subst e1 e3
  have hl : ((l.take j).drop i).length = j - i := by rw [List.length_drop, List.length_take]; omega
  refine ⟨if cap = i then A else A.map (·.add (i * 2)), cap - i, by rw [hl]; rfl, by omega, by omega, fun k hk => ?_⟩
  rw [hl] at hk
  obtain ⟨b, off, hA, hlt, c0, c1⟩ := h0.get (i + k) (by omega)
  rw [if_neg (by omega), hA]
  refine ⟨b, off + i * 2, by simp [Addr.add], hlt, ?_, ?_⟩
  · rw [show off + i * 2 + k * 2 = off + (i + k) * 2 by omega, c0]
    simp only [List.getElem_drop, List.getElem_take]
  · rw [show off + i * 2 + k * 2 + 1 = off + (i + k) * 2 + 1 by omega, c1]
    simp only [List.getElem_drop, List.getElem_take]
namespace Fr
/-- where one more is put -/
def place (f : FP) : List FP → Nat
  | [] => 0
  | g :: l => if less g f then place f l + 1 else 0
theorem place_le (f : FP) (l : List FP) : place f l ≤ l.length := by
  induction l with
  | nil => exact Nat.le_refl _
  | cons g l ih => unfold place; split <;> simp <;> omega
theorem insert_place (f : FP) (l : List FP) : insertF f l = l.take (place f l) ++ (f :: l.drop (place f l)) := by
  induction l with
  | nil => rfl
  | cons g l ih =>
    unfold insertF place
    split
    · rw [ih]; rfl
    · rfl
theorem place_is (f : FP) (l : List FP) (k : Nat) (hk : k ≤ l.length) (h1 : ∀ j (h : j < l.length), j < k → less l[j] f = true) (h2 : ∀ h : k < l.length, less l[k] f = false) : place f l = k := by
  induction l generalizing k with
  | nil => simp at hk; subst hk; rfl
  | cons g l ih =>
    unfold place
    cases k with
    | zero => rw [if_neg (by have := h2 (by simp); simpa using this)]
    | succ k =>
      have h0 : less g f = true := h1 0 (by simp) (by omega)
      rw [if_pos h0, ih k (by simpa using hk) (fun j h hj => h1 (j + 1) (by simpa using h) (by omega)) (fun h => h2 (by simpa using h))]
theorem sorted_take (l : List FP) (k : Nat) (h : k < l.length) : sorted (l.take (k + 1)) = insertF l[k] (sorted (l.take k)) := by
  rw [List.take_succ_eq_append_getElem h, sorted_snoc]
theorem sorted_length (l : List FP) (k : Nat) (hk : k ≤ l.length) : (sorted (l.take k)).length = k := by
  induction k with
  | zero => rw [List.take_zero]; rfl
  | succ k ih => rw [sorted_take l k (by omega), insert_length, ih (by omega)]
end Fr
set_option maxRecDepth 100000 in
set_option maxHeartbeats 12800000 in
theorem frsorted_ok (w : World) (v : Value) (l : List FP) (hc : FreesAt w v l) (hl : l.length ≤ 600) : Calls Try.prog 21 #[v] w fun e w' => ∃ V, e = .returned V ∧ FreesAt w' V (Fr.sorted l) ∧ Below w.heap.size w w' := by
  have HC := Lib.hid hc
  obtain ⟨A, cap, rfl, _, _⟩ := hc.form
  have E30 : ∀ args w, (callFunc 31 args).run Try.prog w = .ok (.enter 31 args) w := fun args w => by kernel_rfl
  have HOWN : Hid (OwnF (w.alloc (.cells #[] 31)) w.heap.size (.slice (some ⟨w.heap.size, 0, none⟩) 0 0) []) := Lib.hid (World.ownsRow_made (size := 2) w #[] 0 (Nat.le_refl _) (by simp [maxLen]) rfl)
  have HBA := Lib.hid ((Below.refl _ w).alloc (Nat.le_refl _) (.cells #[] 31))
  clear hc
  go_enter Try.func21, Try.ntmps21
  go_wp2
  go_loopw [3, 4] (fun oo ii wr => ∃ k : Nat, k ≤ l.length ∧ ii = .int .i64 k ∧ Hid (∃ g c, oo = .slice (some ⟨g, 0, none⟩) k c) ∧ OwnF wr w.heap.size oo (Fr.sorted (l.take k)) ∧ Below w.heap.size w wr) (fun _ ii _ => l.length - (intOf ii).toNat)
  case atStart => exact ⟨0, by omega, rfl, Lib.hid ⟨_, _, rfl⟩, HOWN.out, HBA.out⟩
  case round =>
    obtain ⟨k, hk, rfl, HSome, hown, hBr⟩ := hrel
    by_cases hkl : k < l.length
    · have t1 : decide (k < l.length) = true := decide_eq_true hkl
      have hml := Fr.sorted_length l k hk
      have hst := Fr.sorted_take l k hkl
      obtain ⟨O, hO⟩ : ∃ O, Fr.sorted (l.take k) = O := ⟨_, rfl⟩
      rw [hO] at hown hml hst
      have HST := Lib.hid hst
      have HMK := Lib.hid hml
      have hfo := OwnF.cells hown (by omega)
      have HFO := Lib.hid hfo
      obtain ⟨A3', c3', hv3, _, _⟩ := hfo.form
      obtain ⟨g3, c3, hv3'⟩ := HSome.out
      subst hv3'
      have hcap3 : k ≤ c3 := by
        obtain ⟨_, _, q1, q2, _⟩ := hfo
        injection q1 with _ q3 q4
        omega
      have HBr := Lib.hid hBr
      obtain ⟨⟨tk, pk⟩, hxk⟩ : ∃ x, l[k] = x := ⟨_, rfl⟩
      have HXK := Lib.hid hxk
      have HOW := Lib.hid hown
      have i0 : (0 : Int) ≤ (k : Int) := by omega
      have i1 : (k : Int) < (l.length : Int) := by omega
      clear hst hml hO hfo hown hBr hxk hv3
      obtain ⟨w0, rfl⟩ : ∃ w0 : World, w0 = wr := ⟨_, rfl⟩
      go_wp2
      go_loopw [5] (fun jj wr2 => ∃ j : Nat, j ≤ k ∧ jj = .int .i64 j ∧ Hid (∀ a (h : a < O.length), a < j → Fr.less O[a] (tk, pk) = true) ∧ Below w0.heap.size w0 wr2) (fun jj _ => k - (intOf jj).toNat)
      case atStart => exact ⟨0, by omega, rfl, Lib.hid (fun a h ha => by omega), Below.refl _ _⟩
      case round =>
        obtain ⟨j, hj, rfl, HLs, hBj⟩ := hrel
        obtain ⟨wo, rfl⟩ : ∃ wo : World, wo = wr := ⟨_, rfl⟩
        have HBj := Lib.hid hBj
        obtain ⟨b, off, hA, hbl, c0, c1⟩ := (HC.out.below (HBr.out.trans (hBj.mono HBr.out.size))).get k hkl
        rw [HXK.out] at c0 c1
        simp only at c0 c1
        subst hA
        have KI : Hid (∀ wS, Below wo.heap.size wo wS → wS.cell? ⟨b, off + k * 2, none⟩ = some (.int .i64 tk) ∧ wS.cell? ⟨b, off + k * 2 + 1, none⟩ = some (.int .i64 pk)) := Lib.hid (fun wS hS => ⟨(hS.cell (p := ⟨b, off + k * 2, none⟩) hbl).trans c0, (hS.cell (p := ⟨b, off + k * 2 + 1, none⟩) hbl).trans c1⟩)
        have HB0 := Lib.hid (HBr.out.trans (hBj.mono HBr.out.size))
        by_cases hjk : j < k
        · have t2 : decide (j < k) = true := decide_eq_true hjk
          have hjO : j < O.length := by rw [HMK.out]; exact hjk
          obtain ⟨bo, oo, hAo, hbo, o0, o1⟩ := (HFO.out.below hBj).get j hjO
          injection hAo with h
          injection h with h1 h2
          subst h1 h2
          have LC0 := fun w => frless_ok w O[j] (tk, pk)
          obtain ⟨z, hz⟩ : ∃ z, Fr.less O[j] (tk, pk) = z := ⟨_, rfl⟩
          simp only [hz] at LC0
          have HZ := Lib.hid hz
          obtain ⟨⟨tj, pj⟩, hxj⟩ : ∃ x, O[j] = x := ⟨_, rfl⟩
          rw [hxj] at o0 o1
          simp only [hxj] at LC0
          unfold fv at LC0
          simp only at o0 o1 LC0
          have KO : Hid (∀ wS, Below wo.heap.size wo wS → wS.cell? ⟨g3, 0 + j * 2, none⟩ = some (.int .i64 tj) ∧ wS.cell? ⟨g3, 0 + j * 2 + 1, none⟩ = some (.int .i64 pj)) := Lib.hid (fun wS hS => ⟨(hS.cell (p := ⟨g3, 0 + j * 2, none⟩) hbo).trans o0, (hS.cell (p := ⟨g3, 0 + j * 2 + 1, none⟩) hbo).trans o1⟩)
          simp only [Nat.zero_add] at KO
          have LC : Hid (∀ wS, Below wo.heap.size wo wS → Calls Try.prog 31 #[.agg #[.int .i64 tj, .int .i64 pj], .agg #[.int .i64 tk, .int .i64 pk]] wS fun e w' => e = .returned (.bool z) ∧ Below wo.heap.size wo w') := Lib.hid (fun wS hS => (LC0 wS).mono fun _ _ ⟨e, hb⟩ => ⟨e, hS.trans (hb.mono hS.size)⟩)
          have j0 : (0 : Int) ≤ (j : Int) := by omega
          have j1 : (j : Int) < (k : Int) := by omega
          cases z
          · have HPL : Hid (Fr.place (tk, pk) O = j) := Lib.hid (Fr.place_is _ O j (by omega) HLs.out (fun _ => HZ.out))
            clear hz hxj o0 o1 c0 c1 LC0 hjk hBj
            go_upto_region 6 with fail
            refine region_qh (C := fun w' => Below wo.heap.size wo w') (by kernel_rfl) (by kernel_rfl) ((Below.refl _ wo).drew) ?_
            refine qh_op (.int .i64 j) rfl (fun wS hSw => by go_simp; try with_reducible rfl) ?_
            simp only [Act.put, List.setIfInBounds_toArray, List.set_cons_zero, List.set_cons_succ]
            refine qh_op (.slice (some ⟨g3, 0, none⟩) k c3) rfl (fun wS hSw => by go_simp; try with_reducible rfl) ?_
            simp only [Act.put, List.setIfInBounds_toArray, List.set_cons_zero, List.set_cons_succ]
            refine qh_op (.int .i64 k) rfl (fun wS hSw => by go_simp; try with_reducible rfl) ?_
            simp only [Act.put, List.setIfInBounds_toArray, List.set_cons_zero, List.set_cons_succ]
            refine qh_op (.bool true) rfl (fun wS hSw => by go_simp; try with_reducible rfl) ?_
            simp only [Act.put, List.setIfInBounds_toArray, List.set_cons_zero, List.set_cons_succ]
            refine qh_op (.bool true) rfl (fun wS hSw => by go_simp; try with_reducible rfl) ?_
            simp only [Act.put, List.setIfInBounds_toArray, List.set_cons_zero, List.set_cons_succ]
            refine qh_opw (.slice (some ⟨g3, 0, none⟩) k c3) (by rfl) (fun wS hSw => by go_simp; try with_reducible rfl) ?_
            simp only [Act.put, List.setIfInBounds_toArray, List.set_cons_zero, List.set_cons_succ]
            refine qh_opw (.int .i64 j) (by rfl) (fun wS hSw => by go_simp; try with_reducible rfl) ?_
            simp only [Act.put, List.setIfInBounds_toArray, List.set_cons_zero, List.set_cons_succ]
            refine qh_opw (.pointer (some ⟨g3, j * 2, none⟩)) (by rfl) (fun wS hSw => by go_simp; try with_reducible rfl) ?_
            simp only [Act.put, List.setIfInBounds_toArray, List.set_cons_zero, List.set_cons_succ]
            refine qh_opw (.agg #[.int .i64 tj, .int .i64 pj]) (by rfl) (fun wS hSw => by obtain ⟨ko0, ko1⟩ := KO.out wS hSw; go_simp; try with_reducible rfl) ?_
            simp only [Act.put, List.setIfInBounds_toArray, List.set_cons_zero, List.set_cons_succ]
            refine qh_opw (.slice (some ⟨b, off, none⟩) l.length cap) (by rfl) (fun wS hSw => by go_simp; try with_reducible rfl) ?_
            simp only [Act.put, List.setIfInBounds_toArray, List.set_cons_zero, List.set_cons_succ]
            refine qh_opw (.int .i64 k) (by rfl) (fun wS hSw => by go_simp; try with_reducible rfl) ?_
            simp only [Act.put, List.setIfInBounds_toArray, List.set_cons_zero, List.set_cons_succ]
            refine qh_opw (.pointer (some ⟨b, off + k * 2, none⟩)) (by rfl) (fun wS hSw => by go_simp; try with_reducible rfl) ?_
            simp only [Act.put, List.setIfInBounds_toArray, List.set_cons_zero, List.set_cons_succ]
            refine qh_opw (.agg #[.int .i64 tk, .int .i64 pk]) (by rfl) (fun wS hSw => by obtain ⟨ki0, ki1⟩ := KI.out wS hSw; go_simp; try with_reducible rfl) ?_
            simp only [Act.put, List.setIfInBounds_toArray, List.set_cons_zero, List.set_cons_succ]
            refine qh_call2w (.bool false) (by rfl) 31 _ _ _ rfl (.agg #[.int .i64 tj, .int .i64 pj]) (.agg #[.int .i64 tk, .int .i64 pk]) (by rfl) (by rfl) E30 (fun wS hSw => LC.out wS hSw) ?_
            simp only [Act.put, List.setIfInBounds_toArray, List.set_cons_zero, List.set_cons_succ]
            refine qh_op (.bool false) rfl (fun wS hSw => by go_simp; try with_reducible rfl) ?_
            simp only [Act.put, List.setIfInBounds_toArray, List.set_cons_zero, List.set_cons_succ]
            refine qh_nil ⟨?_⟩
            intro wE hE
            have hE2 := HBj.out.trans (hE.mono HBj.out.size)
            have HBE := Lib.hid (HBr.out.trans (hE2.mono HBr.out.size))
            have hkO : O.length = k := HMK.out
            obtain ⟨ad1, q1, hv1⟩ := fsliced_some ⟨g3, 0, none⟩ 0 j c3
            rw [Nat.sub_zero] at hv1
            obtain ⟨ad2, q2, hv2⟩ := fsliced_some ⟨g3, 0, none⟩ j k c3
            have s1 := fun w => fcut_hi w (some ⟨g3, 0, none⟩) k c3 j (by omega)
            have s2 := fun w => fcut_lo w (some ⟨g3, 0, none⟩) k c3 j (by omega)
            simp only [hv1] at s1
            simp only [hv2] at s2
            have MC1 : Hid (∀ wx, Below w0.heap.size w0 wx → FreesAt wx (.slice (some ad1) j q1) ((O.take j).drop 0)) := Lib.hid (fun wx hb => hv1 ▸ (HFO.out.below hb).cut 0 j (Nat.zero_le _) (by omega))
            have MC2 : Hid (∀ wx, Below w0.heap.size w0 wx → FreesAt wx (.slice (some ad2) (k - j) q2) ((O.take O.length).drop j)) := Lib.hid (fun wx hb => by
              have := (HFO.out.below hb).cut j O.length (by omega) (Nat.le_refl _)
              rw [hkO] at this ⊢
              rw [← hv2]
              exact this)
            have y1 : (0 : Int) ≤ (j : Int) := by omega
            have y2 : (j : Int) ≤ (c3 : Int) := by omega
            have y3 : (j : Int) ≤ (k : Int) := by omega
            have hM1 := MC1.out (wE.alloc (.cells #[] 31)) (hE2.alloc hE2.size _)
            have own0 : OwnF (wE.alloc (.cells #[] 31)) wE.heap.size (.slice (some ⟨wE.heap.size, 0, none⟩) 0 0) [] := World.ownsRow_made (size := 2) wE #[] 0 (Nat.le_refl _) (by simp [maxLen]) rfl
            have hge0 : wE.heap.size ≤ (wE.alloc (.cells #[] 31)).heap.size := by simp
            have n1 : ([] : List FP).length + ((O.take j).drop 0).length ≤ 65536 := by simp; omega
            have n2 : (([] : List FP) ++ (O.take j).drop 0).length + 1 ≤ 4294967296 := by simp; omega
            have n3 : ((([] : List FP) ++ (O.take j).drop 0) ++ [((tk, pk) : FP)]).length + ((O.take O.length).drop j).length ≤ 65536 := by simp; omega
            have hb06 : Below wE.heap.size wE (wE.alloc (.cells #[] 31)) := (Below.refl _ wE).alloc (Nat.le_refl _) _
            have GETK : Hid (∀ wx, Below wE.heap.size wE wx → wx.cell? ⟨b, off + k * 2, none⟩ = some (.int .i64 tk) ∧ wx.cell? ⟨b, off + k * 2 + 1, none⟩ = some (.int .i64 pk)) := Lib.hid (fun wx hb => KI.out wx (hE.trans (hb.mono hE.size)))
            have HALL : Hid (((([] : List FP) ++ (O.take j).drop 0) ++ [((tk, pk) : FP)]) ++ (O.take O.length).drop j = Fr.sorted (l.take (k + 1))) := Lib.hid (by
              rw [HST.out, HXK.out, Fr.insert_place, HPL.out]
              simp)
            have HE2 := Lib.hid hE2
            clear hv1 hv2 hE2 hkO
            go_wp2_with (at_builtin; first
              | (refine wpList_append_frees _ rfl (.tmp 32) (.tmp 35) 27 rfl _ undF freeInfo _ _ rfl own0 ad1 _ q1 _ hM1 rfl n1 hge0 ?_; intro W1 w8 own1 hb8; have hb68 := hb06.trans hb8; obtain ⟨x0, x1⟩ := GETK.out w8 hb68; have hge1 := hb68.size)
              | (refine wpList_append_free _ rfl (.tmp 37) (.tmp 42) 27 rfl _ undF freeInfo _ _ rfl own1 (tk, pk) rfl n2 hge1 ?_; intro W2 w9 own2 hb9; have hb69 := hb68.trans hb9; have hge2 := hb69.size; have hM2 := MC2.out w9 (HE2.out.trans (hb69.mono HE2.out.size)))
              | (refine wpList_append_frees _ rfl (.tmp 44) (.tmp 47) 27 rfl _ undF freeInfo _ _ rfl own2 ad2 _ q2 _ hM2 rfl n3 hge2 ?_; intro W3 w10 own3 hb10; have hb610 := hb69.trans hb10))
            rw [HALL.out] at own3
            have hown4 : OwnF w10 w.heap.size W3 (Fr.sorted (l.take (k + 1))) := ⟨own3.1, own3.2.imp id (fun ⟨g, c, cur, z1, z2, rest⟩ => ⟨g, c, cur, z1, Nat.le_trans HBE.out.size z2, rest⟩)⟩
            have hsl := Fr.sorted_length l (k + 1) (by omega)
            have HSM : Hid (∃ g c, W3 = .slice (some ⟨g, 0, none⟩) (k + 1) c) := Lib.hid (by
              rcases own3.2 with ⟨_, h0⟩ | ⟨g, c, cur, z1, _⟩
              · omega
              · rw [hsl] at z1
                exact ⟨g, c, z1⟩)
            go_roundw
            case rel => exact ⟨k + 1, by omega, by go_num, HSM, hown4, HBE.out.trans (hb610.mono HBE.out.size)⟩
            case measure => simp [intOf]; omega
          · have HLs2 : Hid (∀ a (h : a < O.length), a < j + 1 → Fr.less O[a] (tk, pk) = true) := Lib.hid (fun a h ha => by
              by_cases e : a = j
              · subst e; exact HZ.out
              · exact HLs.out a h (by omega))
            clear hz hxj o0 o1 c0 c1 LC0 hBj
            go_upto_region 6 with fail
            refine region_qh (C := fun w' => Below wo.heap.size wo w') (by kernel_rfl) (by kernel_rfl) ((Below.refl _ wo).drew) ?_
            refine qh_op (.int .i64 j) rfl (fun wS hSw => by go_simp; try with_reducible rfl) ?_
            simp only [Act.put, List.setIfInBounds_toArray, List.set_cons_zero, List.set_cons_succ]
            refine qh_op (.slice (some ⟨g3, 0, none⟩) k c3) rfl (fun wS hSw => by go_simp; try with_reducible rfl) ?_
            simp only [Act.put, List.setIfInBounds_toArray, List.set_cons_zero, List.set_cons_succ]
            refine qh_op (.int .i64 k) rfl (fun wS hSw => by go_simp; try with_reducible rfl) ?_
            simp only [Act.put, List.setIfInBounds_toArray, List.set_cons_zero, List.set_cons_succ]
            refine qh_op (.bool true) rfl (fun wS hSw => by go_simp; try with_reducible rfl) ?_
            simp only [Act.put, List.setIfInBounds_toArray, List.set_cons_zero, List.set_cons_succ]
            refine qh_op (.bool true) rfl (fun wS hSw => by go_simp; try with_reducible rfl) ?_
            simp only [Act.put, List.setIfInBounds_toArray, List.set_cons_zero, List.set_cons_succ]
            refine qh_opw (.slice (some ⟨g3, 0, none⟩) k c3) (by rfl) (fun wS hSw => by go_simp; try with_reducible rfl) ?_
            simp only [Act.put, List.setIfInBounds_toArray, List.set_cons_zero, List.set_cons_succ]
            refine qh_opw (.int .i64 j) (by rfl) (fun wS hSw => by go_simp; try with_reducible rfl) ?_
            simp only [Act.put, List.setIfInBounds_toArray, List.set_cons_zero, List.set_cons_succ]
            refine qh_opw (.pointer (some ⟨g3, j * 2, none⟩)) (by rfl) (fun wS hSw => by go_simp; try with_reducible rfl) ?_
            simp only [Act.put, List.setIfInBounds_toArray, List.set_cons_zero, List.set_cons_succ]
            refine qh_opw (.agg #[.int .i64 tj, .int .i64 pj]) (by rfl) (fun wS hSw => by obtain ⟨ko0, ko1⟩ := KO.out wS hSw; go_simp; try with_reducible rfl) ?_
            simp only [Act.put, List.setIfInBounds_toArray, List.set_cons_zero, List.set_cons_succ]
            refine qh_opw (.slice (some ⟨b, off, none⟩) l.length cap) (by rfl) (fun wS hSw => by go_simp; try with_reducible rfl) ?_
            simp only [Act.put, List.setIfInBounds_toArray, List.set_cons_zero, List.set_cons_succ]
            refine qh_opw (.int .i64 k) (by rfl) (fun wS hSw => by go_simp; try with_reducible rfl) ?_
            simp only [Act.put, List.setIfInBounds_toArray, List.set_cons_zero, List.set_cons_succ]
            refine qh_opw (.pointer (some ⟨b, off + k * 2, none⟩)) (by rfl) (fun wS hSw => by go_simp; try with_reducible rfl) ?_
            simp only [Act.put, List.setIfInBounds_toArray, List.set_cons_zero, List.set_cons_succ]
            refine qh_opw (.agg #[.int .i64 tk, .int .i64 pk]) (by rfl) (fun wS hSw => by obtain ⟨ki0, ki1⟩ := KI.out wS hSw; go_simp; try with_reducible rfl) ?_
            simp only [Act.put, List.setIfInBounds_toArray, List.set_cons_zero, List.set_cons_succ]
            refine qh_call2w (.bool true) (by rfl) 31 _ _ _ rfl (.agg #[.int .i64 tj, .int .i64 pj]) (.agg #[.int .i64 tk, .int .i64 pk]) (by rfl) (by rfl) E30 (fun wS hSw => LC.out wS hSw) ?_
            simp only [Act.put, List.setIfInBounds_toArray, List.set_cons_zero, List.set_cons_succ]
            refine qh_op (.bool true) rfl (fun wS hSw => by go_simp; try with_reducible rfl) ?_
            simp only [Act.put, List.setIfInBounds_toArray, List.set_cons_zero, List.set_cons_succ]
            refine qh_nil ⟨?_⟩
            intro wE hE
            go_wp2
            go_roundw
            case rel => exact ⟨j + 1, by omega, by go_num, HLs2, HBj.out.trans (hE.mono HBj.out.size)⟩
            case measure => simp [intOf]; omega
        · obtain rfl : j = k := by omega
          have t2 : decide (j < j) = false := decide_eq_false (by omega)
          have HPL : Hid (Fr.place (tk, pk) O = j) := Lib.hid (Fr.place_is _ O j (by rw [HMK.out]; exact Nat.le_refl _) HLs.out (fun h => by rw [HMK.out] at h; omega))
          clear c0 c1 hBj
          go_upto_region 6 with fail
          refine region_qh (C := fun w' => Below wo.heap.size wo w') (by kernel_rfl) (by kernel_rfl) ((Below.refl _ wo).drew) ?_
          refine qh_op (.int .i64 j) rfl (fun wS hSw => by go_simp; try with_reducible rfl) ?_
          simp only [Act.put, List.setIfInBounds_toArray, List.set_cons_zero, List.set_cons_succ]
          refine qh_op (.slice (some ⟨g3, 0, none⟩) j c3) rfl (fun wS hSw => by go_simp; try with_reducible rfl) ?_
          simp only [Act.put, List.setIfInBounds_toArray, List.set_cons_zero, List.set_cons_succ]
          refine qh_op (.int .i64 j) rfl (fun wS hSw => by go_simp; try with_reducible rfl) ?_
          simp only [Act.put, List.setIfInBounds_toArray, List.set_cons_zero, List.set_cons_succ]
          refine qh_op (.bool false) rfl (fun wS hSw => by go_simp; try with_reducible rfl) ?_
          simp only [Act.put, List.setIfInBounds_toArray, List.set_cons_zero, List.set_cons_succ]
          refine qh_op (.bool false) rfl (fun wS hSw => by go_simp; try with_reducible rfl) ?_
          simp only [Act.put, List.setIfInBounds_toArray, List.set_cons_zero, List.set_cons_succ]
          refine qh_skip (by rfl) ?_
          simp only [Act.put, List.setIfInBounds_toArray, List.set_cons_zero, List.set_cons_succ]
          refine qh_skip (by rfl) ?_
          simp only [Act.put, List.setIfInBounds_toArray, List.set_cons_zero, List.set_cons_succ]
          refine qh_skip (by rfl) ?_
          simp only [Act.put, List.setIfInBounds_toArray, List.set_cons_zero, List.set_cons_succ]
          refine qh_skip (by rfl) ?_
          simp only [Act.put, List.setIfInBounds_toArray, List.set_cons_zero, List.set_cons_succ]
          refine qh_skip (by rfl) ?_
          simp only [Act.put, List.setIfInBounds_toArray, List.set_cons_zero, List.set_cons_succ]
          refine qh_skip (by rfl) ?_
          simp only [Act.put, List.setIfInBounds_toArray, List.set_cons_zero, List.set_cons_succ]
          refine qh_skip (by rfl) ?_
          simp only [Act.put, List.setIfInBounds_toArray, List.set_cons_zero, List.set_cons_succ]
          refine qh_skip (by rfl) ?_
          simp only [Act.put, List.setIfInBounds_toArray, List.set_cons_zero, List.set_cons_succ]
          refine qh_skip (by rfl) ?_
          simp only [Act.put, List.setIfInBounds_toArray, List.set_cons_zero, List.set_cons_succ]
          refine qh_op (.bool false) rfl (fun wS hSw => by go_simp; try with_reducible rfl) ?_
          simp only [Act.put, List.setIfInBounds_toArray, List.set_cons_zero, List.set_cons_succ]
          refine qh_nil ⟨?_⟩
          intro wE hE
          have hE2 := HBj.out.trans (hE.mono HBj.out.size)
          have HBE := Lib.hid (HBr.out.trans (hE2.mono HBr.out.size))
          have hkO : O.length = j := HMK.out
          obtain ⟨ad1, q1, hv1⟩ := fsliced_some ⟨g3, 0, none⟩ 0 j c3
          rw [Nat.sub_zero] at hv1
          obtain ⟨ad2, q2, hv2⟩ := fsliced_some ⟨g3, 0, none⟩ j j c3
          rw [Nat.sub_self] at hv2
          have s1 := fun w => fcut_hi w (some ⟨g3, 0, none⟩) j c3 j (by omega)
          have s2 := fun w => fcut_lo w (some ⟨g3, 0, none⟩) j c3 j (by omega)
          simp only [hv1] at s1
          simp only [hv2] at s2
          have MC1 : Hid (∀ wx, Below w0.heap.size w0 wx → FreesAt wx (.slice (some ad1) j q1) ((O.take j).drop 0)) := Lib.hid (fun wx hb => hv1 ▸ (HFO.out.below hb).cut 0 j (Nat.zero_le _) (by omega))
          have MC2 : Hid (∀ wx, Below w0.heap.size w0 wx → FreesAt wx (.slice (some ad2) 0 q2) ((O.take O.length).drop j)) := Lib.hid (fun wx hb => by
            have := (HFO.out.below hb).cut j O.length (by omega) (Nat.le_refl _)
            rw [hkO] at this ⊢
            rw [← hv2]
            exact this)
          have y1 : (0 : Int) ≤ (j : Int) := by omega
          have y2 : (j : Int) ≤ (c3 : Int) := by omega
          have y3 : (j : Int) ≤ (j : Int) := by omega
          have hM1 := MC1.out (wE.alloc (.cells #[] 31)) (hE2.alloc hE2.size _)
          have own0 : OwnF (wE.alloc (.cells #[] 31)) wE.heap.size (.slice (some ⟨wE.heap.size, 0, none⟩) 0 0) [] := World.ownsRow_made (size := 2) wE #[] 0 (Nat.le_refl _) (by simp [maxLen]) rfl
          have hge0 : wE.heap.size ≤ (wE.alloc (.cells #[] 31)).heap.size := by simp
          have n1 : ([] : List FP).length + ((O.take j).drop 0).length ≤ 65536 := by simp; omega
          have n2 : (([] : List FP) ++ (O.take j).drop 0).length + 1 ≤ 4294967296 := by simp; omega
          have n3 : ((([] : List FP) ++ (O.take j).drop 0) ++ [((tk, pk) : FP)]).length + ((O.take O.length).drop j).length ≤ 65536 := by simp; omega
          have hb06 : Below wE.heap.size wE (wE.alloc (.cells #[] 31)) := (Below.refl _ wE).alloc (Nat.le_refl _) _
          have GETK : Hid (∀ wx, Below wE.heap.size wE wx → wx.cell? ⟨b, off + j * 2, none⟩ = some (.int .i64 tk) ∧ wx.cell? ⟨b, off + j * 2 + 1, none⟩ = some (.int .i64 pk)) := Lib.hid (fun wx hb => KI.out wx (hE.trans (hb.mono hE.size)))
          have HALL : Hid (((([] : List FP) ++ (O.take j).drop 0) ++ [((tk, pk) : FP)]) ++ (O.take O.length).drop j = Fr.sorted (l.take (j + 1))) := Lib.hid (by
            rw [HST.out, HXK.out, Fr.insert_place, HPL.out]
            simp)
          have HE2 := Lib.hid hE2
          clear hv1 hv2 hE2 hkO
          go_wp2_with (at_builtin; first
            | (refine wpList_append_frees _ rfl (.tmp 32) (.tmp 35) 27 rfl _ undF freeInfo _ _ rfl own0 ad1 _ q1 _ hM1 rfl n1 hge0 ?_; intro W1 w8 own1 hb8; have hb68 := hb06.trans hb8; obtain ⟨x0, x1⟩ := GETK.out w8 hb68; have hge1 := hb68.size)
            | (refine wpList_append_free _ rfl (.tmp 37) (.tmp 42) 27 rfl _ undF freeInfo _ _ rfl own1 (tk, pk) rfl n2 hge1 ?_; intro W2 w9 own2 hb9; have hb69 := hb68.trans hb9; have hge2 := hb69.size; have hM2 := MC2.out w9 (HE2.out.trans (hb69.mono HE2.out.size)))
            | (refine wpList_append_frees _ rfl (.tmp 44) (.tmp 47) 27 rfl _ undF freeInfo _ _ rfl own2 ad2 _ q2 _ hM2 rfl n3 hge2 ?_; intro W3 w10 own3 hb10; have hb610 := hb69.trans hb10))
          rw [HALL.out] at own3
          have hown4 : OwnF w10 w.heap.size W3 (Fr.sorted (l.take (j + 1))) := ⟨own3.1, own3.2.imp id (fun ⟨g, c, cur, z1, z2, rest⟩ => ⟨g, c, cur, z1, Nat.le_trans HBE.out.size z2, rest⟩)⟩
          have hsl := Fr.sorted_length l (j + 1) (by omega)
          have HSM : Hid (∃ g c, W3 = .slice (some ⟨g, 0, none⟩) (j + 1) c) := Lib.hid (by
            rcases own3.2 with ⟨_, h0⟩ | ⟨g, c, cur, z1, _⟩
            · omega
            · rw [hsl] at z1
              exact ⟨g, c, z1⟩)
          go_roundw
          case rel => exact ⟨j + 1, by omega, by go_num, HSM, hown4, HBE.out.trans (hb610.mono HBE.out.size)⟩
          case measure => simp [intOf]; omega
    · obtain rfl : k = l.length := by omega
      have t1 : decide (l.length < l.length) = false := decide_eq_false (by omega)
      rw [List.take_length] at hown
      have HF := Lib.hid (OwnF.cells hown (by
        have := Fr.sorted_length l l.length (Nat.le_refl _)
        rw [List.take_length] at this
        omega))
      have HBr := Lib.hid hBr
      obtain ⟨g3, c3, hv3⟩ := HSome.out
      subst hv3
      clear hown hBr
      go_wp2
      go_ret
      exact ⟨_, rfl, HF.out, HBr.out⟩
end Go.Proofs.Ytjgndgcegenikaa
