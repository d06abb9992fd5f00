/-
  P8.3 (once), of any list that meets the kit: the statement's function returns true, whatever it is handed. No conditions but those typed.
-/
import Derived.Test.YtjgndgcegenikaaFrPlaysW
namespace Go.Proofs.Ytjgndgcegenikaa
open Go.RowKit
/-- whole numbers, as they lie -/
def fints (l : List Int) : Array Value := (l.map (fun x => Value.int .i64 x)).toArray
theorem fints_at (l : List Int) (k : Nat) (h : k < l.length) : (fints l)[k]? = some (.int .i64 (l.getD k 0)) := by
  unfold fints
  rw [List.getD_eq_getElem?_getD, List.getElem?_eq_getElem h]
  simp [h]
theorem fints_set (l : List Int) (k : Nat) (n : Int) : (fints l).setIfInBounds k (.int .i64 n) = fints (l.set k n) := by
  unfold fints
  simp [List.map_set]
theorem getD_set (l : List Int) (k j : Nat) (n : Int) (hk : k < l.length) : (l.set k n).getD j 0 = if j = k then n else l.getD j 0 := by
  rw [List.getD_eq_getElem?_getD, List.getD_eq_getElem?_getD, List.getElem?_set]
  by_cases h : k = j
  · subst h
    simp [hk]
  · rw [if_neg h, if_neg (fun e => h e.symm)]
namespace Fr
/-- by whom each page was freed: -1, by nobody -/
def Held (bl : List Int) (l : List FP) : Prop := ∀ q : Nat, q < 512 → (bl.getD q 0 = -1 ∧ ∀ t, (t, (q : Int)) ∉ l) ∨ (0 ≤ bl.getD q 0 ∧ (bl.getD q 0, (q : Int)) ∈ l)
theorem held_nil (bl : List Int) (h : ∀ q, q < 512 → bl.getD q 0 = -1) : Held bl [] := fun q hq => .inl ⟨h q hq, fun t ht => by cases ht⟩
theorem held_add {bl : List Int} {l : List FP} (h : Held bl l) (hl : bl.length = 512) (t : Int) (p : Nat) (ht : 0 ≤ t) (hp : p < 512) (hn : ∀ f ∈ l, f.2 ≠ (p : Int)) : Held (bl.set p t) (l ++ [(t, (p : Int))]) := by
  intro q hq
  rw [getD_set bl p q t (by omega)]
  by_cases e : q = p
  · subst e
    rw [if_pos rfl]
    exact .inr ⟨ht, by simp⟩
  · rw [if_neg e]
    rcases h q hq with ⟨h1, h2⟩ | ⟨h1, h2⟩
    · refine .inl ⟨h1, fun t' ht' => ?_⟩
      rcases List.mem_append.1 ht' with hm | hm
      · exact h2 t' hm
      · rw [List.mem_singleton] at hm
        injection hm with _ e2
        omega
    · exact .inr ⟨h1, List.mem_append_left _ h2⟩
theorem held_take {bl : List Int} {l : List FP} (h : Held bl l) (hl : bl.length = 512) (p : Nat) (hp : p < 512) : Held (bl.set p (-1)) (l.filter (fun g => decide (g.2 ≠ (p : Int)))) := by
  intro q hq
  rw [getD_set bl p q (-1) (by omega)]
  by_cases e : q = p
  · subst e
    rw [if_pos rfl]
    refine .inl ⟨rfl, fun t ht => ?_⟩
    have := (List.mem_filter.1 ht).2
    simp at this
  · rw [if_neg e]
    rcases h q hq with ⟨h1, h2⟩ | ⟨h1, h2⟩
    · exact .inl ⟨h1, fun t ht => h2 t (List.mem_filter.1 ht).1⟩
    · refine .inr ⟨h1, List.mem_filter.2 ⟨h2, ?_⟩⟩
      simp only [ne_eq, decide_eq_true_eq]
      omega
theorem held_at {bl : List Int} {l : List FP} (h : Held bl l) (ok : Ok l) {t : Int} {p : Nat} (hp : p < 512) (hm : (t, (p : Int)) ∈ l) : bl.getD p 0 = t ∧ 0 ≤ t := by
  rcases h p hp with ⟨_, h2⟩ | ⟨h1, h2⟩
  · exact absurd hm (h2 t)
  · have := ok.same hm h2 rfl
    injection this with e _
    omega
end Fr
/-- the list l at p, the row bl at g, apart, above block B -/
def FrRow (At : World → Nat → List FP → List Nat → Prop) (B p g : Nat) (l : List FP) (bl : List Int) (w : World) : Prop :=
  ∃ F, At w p l F ∧ (∀ k ∈ F, B ≤ k) ∧ g ∉ F ∧ B ≤ g ∧ Fr.Ok l ∧ Blk w g (fints bl) 3 ∧ bl.length = 512
section
variable {At : World → Nat → List FP → List Nat → Prop} (D : FrKit At) {B p g : Nat} {l : List FP} {bl : List Int} {w : World}
theorem FrRow.cell (h : FrRow At B p g l bl w) (k : Nat) (hk : k < 512) : g < w.heap.size ∧ w.cell? ⟨g, k, none⟩ = some (.int .i64 (bl.getD k 0)) ∧ w.frozen? ⟨g, k, none⟩ = false := by
  obtain ⟨F, _, _, _, _, _, hb, hl⟩ := h
  exact ⟨hb.lt, (hb.cell k).trans (fints_at bl k (by omega)), hb.free k⟩
include D
theorem FrRow.set (h : FrRow At B p g l bl w) (k : Nat) (n : Int) : FrRow At B p g l (bl.set k n) (w.setCell ⟨g, k, none⟩ (.int .i64 n)) := by
  obtain ⟨F, h1, h2, h3, h4, h5, hb, hl⟩ := h
  refine ⟨F, D.touch h1 ((Touch.refl [g] w).setCell (p := ⟨g, k, none⟩) (.inl (by simp)) _) (fun x hx => by rw [List.mem_singleton] at hx; subst hx; exact h3), h2, h3, h4, h5, ?_, by rw [List.length_set]; exact hl⟩
  rw [← fints_set]
  exact hb.set k _
theorem FrRow.drewN (h : FrRow At B p g l bl w) (n : Nat) : FrRow At B p g l bl (w.drewN n) := by
  obtain ⟨F, h1, h2, h3, h4, h5, hb, hl⟩ := h
  exact ⟨F, D.touch h1 (S := []) ⟨rfl, rfl, rfl, Nat.le_refl _, fun _ _ _ => rfl⟩ (by simp), h2, h3, h4, h5, hb, hl⟩
theorem FrRow.drew (h : FrRow At B p g l bl w) : FrRow At B p g l bl w.drew := by
  obtain ⟨F, h1, h2, h3, h4, h5, hb, hl⟩ := h
  exact ⟨F, D.touch h1 (S := []) ⟨rfl, rfl, rfl, Nat.le_refl _, fun _ _ _ => rfl⟩ (by simp), h2, h3, h4, h5, hb, hl⟩
theorem FrRow.adds (h : FrRow At B p g l bl w) (hB : B ≤ w.heap.size) (f : FP) : Calls Try.prog 11 #[.pointer (some ⟨p, 0, none⟩), fv f] w fun e w' => e = .returned (.int .i64 (Fr.addE l f)) ∧ FrRow At B p g (Fr.addL l f) bl w' ∧ Below B w w' := by
  obtain ⟨F, h1, h2, h3, h4, h5, hb, hl⟩ := h
  refine (D.add w p l F f h5 h5.len h1).mono ?_
  rintro _ w' ⟨rfl, F', hA, hT, hG⟩
  refine ⟨rfl, ⟨F', hA, fun k hk => (hG k hk).elim (h2 k) (fun hx => Nat.le_trans hB hx), fun hm => ?_, h4, Fr.addL_ok h5 f, hb.touch hT h3, hl⟩, hT.below hB h2⟩
  rcases hG g hm with hx | hx
  · exact h3 hx
  · have := hb.lt
    omega
theorem FrRow.takes (h : FrRow At B p g l bl w) (hB : B ≤ w.heap.size) (u : Int) : Calls Try.prog 13 #[.pointer (some ⟨p, 0, none⟩), .int .i64 u] w fun e w' => e = .returned (.tuple #[.int .i64 (Fr.takeP l u), .bool (Fr.takeB l u)]) ∧ FrRow At B p g (Fr.takeL l u) bl w' ∧ Below B w w' := by
  obtain ⟨F, h1, h2, h3, h4, h5, hb, hl⟩ := h
  refine (D.take w p l F u h5 h5.len h1).mono ?_
  rintro _ w' ⟨rfl, F', hA, hT, hG⟩
  refine ⟨rfl, ⟨F', hA, fun k hk => (hG k hk).elim (h2 k) (fun hx => Nat.le_trans hB hx), fun hm => ?_, h4, Fr.takeL_ok h5 u, hb.touch hT h3, hl⟩, hT.below hB h2⟩
  rcases hG g hm with hx | hx
  · exact h3 hx
  · have := hb.lt
    omega
end
theorem freeInt : (Try.prog.info? 3).map (fun i => (i.zero, i.size, i.bytes)) = some (some (.int .i64 0), 1, 8) := by kernel_rfl
theorem madeZeros (n : Nat) : madeCells (Value.int .i64 0).cells n = fints (List.replicate n 0) := by
  unfold madeCells fints
  apply Array.ext
  · simp
  · intro i h1 h2
    simp [Value.cells, Nat.mod_one]
theorem fr_made : ∃ Z : Array Value, (∃ bl : List Int, Z = fints bl ∧ bl.length = 512) ∧ ∀ w, (Instr.makeSlice 44 (.int .i64 512) (.int .i64 512)).run Try.prog w = .ok (.slice (some ⟨w.heap.size, 0, none⟩) 512 512) (w.alloc (.cells Z 3)) := by
  obtain ⟨i, hi, hz, hs, hb⟩ := info_parts freeInt
  refine ⟨madeCells (Value.int .i64 0).cells ((512 : Int).toNat * i.size), ⟨List.replicate ((512 : Int).toNat * i.size) 0, madeZeros _, ?_⟩, fun w => ?_⟩
  · rw [hs, List.length_replicate]
    rfl
  · exact run_makeSlice w 44 3 i _ Try.underlying44 hi hz .i64 .i64 512 512 (by omega) (by omega) (by rw [hs]; decide) (by rw [hb]; decide) (by omega)
namespace Fr
theorem addL_yes {l : List FP} {f : FP} (h : adds l f = true) : addL l f = l ++ [f] ∧ addE l f = 0 ∧ right f = true ∧ ∀ g ∈ l, g.2 ≠ f.2 := by
  have h' := h
  unfold adds at h'
  simp only [Bool.and_eq_true, Bool.not_eq_true'] at h'
  refine ⟨by unfold addL; rw [if_pos h], by unfold addE; rw [if_pos h'.1, h'.2]; rfl, h'.1, (has_not _ _).1 h'.2⟩
theorem addL_no {l : List FP} {f : FP} (h : adds l f = false) : addL l f = l ∧ addE l f ≠ 0 := by
  have h' := h
  unfold adds at h'
  refine ⟨by unfold addL; rw [h]; rfl, ?_⟩
  unfold addE
  by_cases hr : right f = true
  · rw [if_pos hr]
    rw [hr] at h'
    have : has l f.2 = true := by simpa using h'
    rw [if_pos this]
    decide
  · rw [if_neg hr]
    decide
theorem take_yes {l : List FP} {u : Int} (ok : Ok l) (h : takeB l u = true) : ∃ f, f ∈ l ∧ f.1 ≤ u ∧ takeP l u = f.2 ∧ takeL l u = l.filter (fun g => decide (g.2 ≠ f.2)) ∧ right f = true := by
  unfold takeB at h
  obtain ⟨f, hf⟩ := Option.isSome_iff_exists.1 h
  obtain ⟨h1, h2, _⟩ := least_some hf
  exact ⟨f, h1, h2, by unfold takeP; rw [hf], by unfold takeL; rw [hf], ok.right f h1⟩
theorem take_no {l : List FP} {u : Int} (h : takeB l u = false) : takeL l u = l := by
  unfold takeB at h
  cases hf : least l u with
  | none => unfold takeL; rw [hf]
  | some f => rw [hf] at h; cases h
end Fr
set_option maxRecDepth 100000 in
set_option maxHeartbeats 12800000 in
theorem fronce_any (At : World → Nat → List FP → List Nat → Prop) (D : FrKit At) (w : World) (v : Value) (xs : List FQ) (hx : QuadsAt w w.heap.size v xs) : Calls Try.prog 4 #[v] w fun e w' => e = .returned (.bool true) ∧ Below w.heap.size w w' := by
  have HX := Lib.hid hx
  obtain ⟨A, capA, rfl, _, _⟩ := hx
  obtain ⟨Z, HZ0, hmk⟩ := fr_made
  have HZ := Lib.hid HZ0
  clear HZ0
  go_enter Try.func4, Try.ntmps4
  go_wp2_with fail
  refine (frawake_ok At D _).mono ?_
  rintro _ w1 ⟨rfl, hb1⟩
  go_wp2_with fail
  refine (D.new w1).mono ?_
  rintro _ w2 ⟨p, F, rfl, hA, hF, hb2⟩
  have hc2 := hb1.trans (hb2.mono hb1.size)
  have hq := Blk.new w2 Z 3
  have hb3 : Below w2.heap.size w2 (w2.alloc (.cells Z 3)) := (Below.refl _ w2).alloc (Nat.le_refl _) _
  obtain ⟨w3, hw3⟩ : ∃ w3, w2.alloc (.cells Z 3) = w3 := ⟨_, rfl⟩
  rw [hw3] at hq hb3
  have hmk2 := hmk w2
  rw [hw3] at hmk2
  obtain ⟨g, hge⟩ : ∃ g, w2.heap.size = g := ⟨_, rfl⟩
  rw [hge] at hmk2
  have HB3 : Hid (Below w.heap.size w w3) := Lib.hid (hc2.trans (hb3.mono hc2.size))
  have HR3 : Hid (∃ bl, FrRow At w.heap.size p g [] bl w3) := Lib.hid (by
    obtain ⟨bl, hZ, hbl⟩ := HZ.out
    refine ⟨bl, F, D.touch hA (Touch.ofBelow hb3) (by simp), fun k hk => Nat.le_trans hb1.size (hF k hk), fun hm => ?_, ?_, Fr.Ok.nil, ?_, hbl⟩
    · have := D.lt hA g hm
      omega
    · have := hc2.size
      omega
    · rw [← hge, ← hZ]
      exact hq)
  clear hA hF hb2 hq hb3 hc2 hb1 hmk hw3 HZ
  go_wp2
  go_loopw [5] (fun ii wr => ∃ (k : Nat) (bl : List Int), k ≤ 512 ∧ ii = .int .i64 k ∧ Hid (FrRow At w.heap.size p g [] bl wr) ∧ Hid (∀ q, q < k → bl.getD q 0 = -1) ∧ Below w.heap.size w wr) (fun ii _ => 512 - (intOf ii).toNat)
  case atStart =>
    obtain ⟨bl, hbl⟩ := HR3.out
    exact ⟨0, bl, by omega, rfl, Lib.hid hbl, Lib.hid (fun q hq => by omega), HB3.out⟩
  case round =>
    obtain ⟨k, bl, hk, rfl, HR, HK, hBr⟩ := hrel
    clear hmk2 hge
    by_cases hk5 : k < 512
    · have t1 : decide ((k : Int) < 512) = true := decide_eq_true (by omega)
      obtain ⟨glt, ck, fk⟩ := FrRow.cell HR.out k hk5
      have i0 : (0 : Int) ≤ (k : Int) := by omega
      have i1 : (k : Int) < 512 := by omega
      have HBr := Lib.hid hBr
      clear hBr
      go_wp2
      go_roundw
      case rel =>
        refine ⟨k + 1, bl.set k (-1), by omega, by go_num, Lib.hid (FrRow.set D HR.out k (-1)), Lib.hid (fun q hq => ?_), ?_⟩
        · have hl : bl.length = 512 := by
            obtain ⟨_, _, _, _, _, _, _, h⟩ := HR.out
            exact h
          rw [getD_set bl k q (-1) (by omega)]
          by_cases e : q = k
          · rw [if_pos e]
          · rw [if_neg e]
            exact HK.out q (by omega)
        · exact HBr.out.setCell (p := ⟨g, k, none⟩) (by obtain ⟨_, _, _, _, h, _⟩ := HR.out; exact h) _
      case measure => simp [intOf]; omega
    · have t1 : decide ((k : Int) < 512) = false := decide_eq_false (by omega)
      have HM0 : Hid (Fr.Held bl []) := Lib.hid (Fr.held_nil bl (fun q hq => HK.out q (by omega)))
      have HBr := Lib.hid hBr
      clear HK hBr hk5 hk
      go_wp2
      go_loopw [6] (fun ii wr => ∃ (i : Nat) (l : List FP) (bl : List Int), i ≤ xs.length ∧ ii = .int .i64 i ∧ Hid (FrRow At w.heap.size p g l bl wr) ∧ Hid (Fr.Held bl l) ∧ Below w.heap.size w wr) (fun ii _ => xs.length - (intOf ii).toNat)
      case atStart => exact ⟨0, [], bl, by omega, rfl, HR, HM0, HBr.out⟩
      case round =>
        clear HM0 HR
        obtain ⟨i, l, bl, hi, rfl, HR, HM, hBr⟩ := hrel
        have hger := hBr.size
        by_cases hlt : i < xs.length ∧ i < 80
        · obtain ⟨hlt, hl6⟩ := hlt
          have t1 : decide (i < xs.length) = true := decide_eq_true hlt
          have t2 : decide ((i : Int) < 80) = true := decide_eq_true (by omega)
          obtain ⟨bA, offA, hA, hbl, c0, c1, c2, c3⟩ := (HX.out.below hBr).get i hlt
          have HCS0 : Hid (∀ wx, Below w.heap.size w wx → wx.cell? ⟨bA, offA + i * 4, none⟩ = some (.int .i64 xs[i].1) ∧ wx.cell? ⟨bA, offA + i * 4 + 1, none⟩ = some (.int .i64 xs[i].2.1.1) ∧ wx.cell? ⟨bA, offA + i * 4 + 2, none⟩ = some (.int .i64 xs[i].2.1.2) ∧ wx.cell? ⟨bA, offA + i * 4 + 3, none⟩ = some (.int .i64 xs[i].2.2)) := Lib.hid (fun wx hwx => by
            obtain ⟨b', off', hA', _, d0, d1, d2, d3⟩ := (HX.out.below hwx).get i hlt
            rw [hA] at hA'
            injection hA' with h
            injection h with h1 h2
            subst h1 h2
            exact ⟨d0, d1, d2, d3⟩)
          obtain ⟨⟨kind, ⟨ft, fp⟩, n⟩, hxi⟩ : ∃ x, xs[i] = x := ⟨_, rfl⟩
          rw [hxi] at c0 c1 c2 c3 HCS0
          have HCS := HCS0
          simp only at c0 c1 c2 c3 HCS
          have i0 : (0 : Int) ≤ (i : Int) := by omega
          have i1 : (i : Int) < (xs.length : Int) := by omega
          have hbw : bA < wr.heap.size := Nat.lt_of_lt_of_le hbl hger
          have HBr := Lib.hid hBr
          have HG := Lib.hid hger
          have HBL := Lib.hid hbl
          obtain ⟨ok, hgB, hll⟩ : Fr.Ok l ∧ w.heap.size ≤ g ∧ bl.length = 512 := by
            obtain ⟨_, _, _, _, h4, h5, _, h7⟩ := HR.out
            exact ⟨h5, h4, h7⟩
          have HOK := Lib.hid ok
          have HGB := Lib.hid hgB
          have HLL := Lib.hid hll
          subst hA
          clear hxi hBr HCS0 ok hgB hll hger hbl
          by_cases k1 : kind = 1
          · have d1 : (kind == 1) = true := by rw [beq_iff_eq]; exact k1
            clear k1
            by_cases ha : Fr.adds l (ft, fp) = true
            · obtain ⟨e1, e2, hright, hno⟩ := Fr.addL_yes ha
              obtain ⟨r1, r2, r3, r4⟩ := (Fr.right_iff _).1 hright
              simp only at r1 r2 r3 r4 hno
              obtain ⟨q, rfl⟩ : ∃ q : Nat, fp = (q : Int) := ⟨fp.toNat, by omega⟩
              have hq5 : q < 512 := by omega
              have C1 : Hid (∀ wx, Below wr.heap.size wr wx → w.heap.size ≤ wx.heap.size → FrRow At w.heap.size p g l bl wx → Calls Try.prog 11 #[.pointer (some ⟨p, 0, none⟩), .agg #[.int .i64 ft, .int .i64 q]] wx fun e w' => e = .returned (.int .i64 0) ∧ FrRow At w.heap.size p g (l ++ [(ft, (q : Int))]) bl w' ∧ Below w.heap.size wx w') := Lib.hid (fun wx hwx hg hR => by
                have := FrRow.adds D hR hg (ft, (q : Int))
                rw [e1, e2] at this
                exact this)
              have HM2 : Hid (Fr.Held (bl.set q ft) (l ++ [(ft, (q : Int))])) := Lib.hid (Fr.held_add HM.out HLL.out ft q r1 hq5 hno)
              have j0 : (0 : Int) ≤ (q : Int) := by omega
              have j1 : (q : Int) < 512 := by omega
              have HQ := Lib.hid hq5
              clear ha e1 e2 hright hno r1 r2 r3 r4 hq5
              go_wp2_with fail
              refine (C1.out _ (Below.refl _ _) HG.out HR.out).mono ?_
              rintro _ w4 ⟨rfl, hR4, hb4⟩
              have HR4 := Lib.hid hR4
              have HB4 := Lib.hid (HBr.out.trans hb4)
              obtain ⟨f0, f1, f2, f3⟩ := HCS.out w4 HB4.out
              obtain ⟨glt, cq, fq⟩ := FrRow.cell HR4.out q HQ.out
              have hbw4 : bA < w4.heap.size := Nat.lt_of_lt_of_le HBL.out HB4.out.size
              clear hR4 hb4 c0 c1 c2 c3 hbw
              go_wp2
              go_region
              go_wp2
              go_roundw
              case rel => exact ⟨i + 1, l ++ [(ft, (q : Int))], bl.set q ft, by omega, by go_num, Lib.hid (FrRow.drew D (FrRow.set D HR4.out q ft)), HM2, (HB4.out.setCell (p := ⟨g, q, none⟩) HGB.out _).drew⟩
              case measure => simp [intOf]; omega
            · have ha : Fr.adds l (ft, fp) = false := by simpa using ha
              obtain ⟨e1, e2⟩ := Fr.addL_no ha
              obtain ⟨E, hE⟩ : ∃ x, Fr.addE l (ft, fp) = x := ⟨_, rfl⟩
              rw [hE] at e2
              have dE : (E == 0) = false := by rw [beq_eq_false_iff_ne]; exact e2
              have C1 : Hid (∀ wx, Below wr.heap.size wr wx → w.heap.size ≤ wx.heap.size → FrRow At w.heap.size p g l bl wx → Calls Try.prog 11 #[.pointer (some ⟨p, 0, none⟩), .agg #[.int .i64 ft, .int .i64 fp]] wx fun e w' => e = .returned (.int .i64 E) ∧ FrRow At w.heap.size p g l bl w' ∧ Below w.heap.size wx w') := Lib.hid (fun wx hwx hg hR => by
                have := FrRow.adds D hR hg (ft, fp)
                rw [e1, hE] at this
                exact this)
              clear ha e1 e2 hE
              go_wp2_with fail
              refine (C1.out _ (Below.refl _ _) HG.out HR.out).mono ?_
              rintro _ w4 ⟨rfl, hR4, hb4⟩
              have HR4 := Lib.hid hR4
              have HB4 := Lib.hid (HBr.out.trans hb4)
              clear hR4 hb4 c0 c1 c2 c3 hbw
              go_wp2
              go_roundw
              case rel => exact ⟨i + 1, l, bl, by omega, by go_num, HR4, HM, HB4.out⟩
              case measure => simp [intOf]; omega
          · have d1 : (kind == 1) = false := by rw [beq_eq_false_iff_ne]; exact k1
            clear k1
            by_cases ha : Fr.takeB l n = true
            · obtain ⟨⟨u, fq⟩, hf1, hf2, e1, e2, hright⟩ := Fr.take_yes HOK.out ha
              obtain ⟨r1, r2, r3, r4⟩ := (Fr.right_iff _).1 hright
              simp only at r1 r2 r3 r4 hf2 e1 e2
              obtain ⟨q, rfl⟩ : ∃ q : Nat, fq = (q : Int) := ⟨fq.toNat, by omega⟩
              have hq5 : q < 512 := by omega
              obtain ⟨hat, hu0⟩ := Fr.held_at HM.out HOK.out hq5 hf1
              have C1 : Hid (∀ wx, Below wr.heap.size wr wx → w.heap.size ≤ wx.heap.size → FrRow At w.heap.size p g l bl wx → Calls Try.prog 13 #[.pointer (some ⟨p, 0, none⟩), .int .i64 n] wx fun e w' => e = .returned (.tuple #[.int .i64 q, .bool true]) ∧ FrRow At w.heap.size p g (l.filter (fun g => decide (g.2 ≠ (q : Int)))) bl w' ∧ Below w.heap.size wx w') := Lib.hid (fun wx hwx hg hR => by
                have := FrRow.takes D hR hg n
                rw [e1, e2, ha] at this
                exact this)
              have HM2 : Hid (Fr.Held (bl.set q (-1)) (l.filter (fun g => decide (g.2 ≠ (q : Int))))) := Lib.hid (Fr.held_take HM.out HLL.out q hq5)
              have j0 : (0 : Int) ≤ (q : Int) := by omega
              have j1 : (q : Int) < 512 := by omega
              have HQ := Lib.hid hq5
              have HAT := Lib.hid hat
              have s1 : decide ((q : Int) < 1) = false := decide_eq_false (by omega)
              have s2 : decide ((512 : Int) ≤ (q : Int)) = false := decide_eq_false (by omega)
              have s3 : decide (u < 0) = false := decide_eq_false (by omega)
              have s4 : decide (n < u) = false := decide_eq_false (by omega)
              obtain ⟨l', hl'⟩ : ∃ x, l.filter (fun g => decide (g.2 ≠ (q : Int))) = x := ⟨_, rfl⟩
              rw [hl'] at C1 HM2
              clear ha e1 e2 hright r1 r2 r3 r4 hq5 hf1 hf2 hat hu0 hl'
              go_wp2_with fail
              refine (C1.out _ (Below.refl _ _) HG.out HR.out).mono ?_
              rintro _ w4 ⟨rfl, hR4, hb4⟩
              have HR4 := Lib.hid hR4
              have HB4 := Lib.hid (HBr.out.trans hb4)
              obtain ⟨f0, f1, f2, f3⟩ := HCS.out w4 HB4.out
              have hbw4 : bA < w4.heap.size := Nat.lt_of_lt_of_le HBL.out HB4.out.size
              obtain ⟨glt, cq, fq⟩ := FrRow.cell HR4.out q HQ.out
              rw [HAT.out] at cq
              clear hR4 hb4 c0 c1 c2 c3 hbw
              go_wp2
              go_quiet (fail)
              go_wp2
              go_roundw
              case rel => exact ⟨i + 1, l', bl.set q (-1), by omega, by go_num, Lib.hid (FrRow.set D (FrRow.drewN D HR4.out nq) q (-1)), HM2, (HB4.out.drewN nq).setCell (p := ⟨g, q, none⟩) HGB.out _⟩
              case measure => simp [intOf]; omega
            · have ha : Fr.takeB l n = false := by simpa using ha
              have e1 := Fr.take_no ha
              obtain ⟨E, hE⟩ : ∃ x, Fr.takeP l n = x := ⟨_, rfl⟩
              have C1 : Hid (∀ wx, Below wr.heap.size wr wx → w.heap.size ≤ wx.heap.size → FrRow At w.heap.size p g l bl wx → Calls Try.prog 13 #[.pointer (some ⟨p, 0, none⟩), .int .i64 n] wx fun e w' => e = .returned (.tuple #[.int .i64 E, .bool false]) ∧ FrRow At w.heap.size p g l bl w' ∧ Below w.heap.size wx w') := Lib.hid (fun wx hwx hg hR => by
                have := FrRow.takes D hR hg n
                rw [e1, hE, ha] at this
                exact this)
              clear ha e1 hE
              go_wp2_with fail
              refine (C1.out _ (Below.refl _ _) HG.out HR.out).mono ?_
              rintro _ w4 ⟨rfl, hR4, hb4⟩
              have HR4 := Lib.hid hR4
              have HB4 := Lib.hid (HBr.out.trans hb4)
              clear hR4 hb4 c0 c1 c2 c3 hbw
              go_wp2
              go_roundw
              case rel => exact ⟨i + 1, l, bl, by omega, by go_num, HR4, HM, HB4.out⟩
              case measure => simp [intOf]; omega
        · have HBr := Lib.hid hBr
          by_cases h : i < xs.length
          · have t1 : decide (i < xs.length) = true := decide_eq_true h
            have t2 : decide ((i : Int) < 80) = false := decide_eq_false (by omega)
            clear hlt h hBr hger
            go_wp2
            go_ret
            exact ⟨rfl, HBr.out⟩
          · have t1 : decide (i < xs.length) = false := decide_eq_false h
            clear hlt h hBr hger
            go_wp2
            go_ret
            exact ⟨rfl, HBr.out⟩
end Go.Proofs.Ytjgndgcegenikaa
