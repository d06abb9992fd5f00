/-
  The statement's function NodeFits returns true at every argument; over any functions that meet the kit. No conditions but those typed.
-/
import Derived.Test.YtegmffeokfahjaaNodeW2
namespace Go.Proofs.Ytegmffeokfahjaa
open Go.RowKit
theorem cvs_one (M : List CV) : ∀ u ∈ cvs M, u.oneCell' = true := by
  intro u hu
  unfold cvs at hu
  rw [List.mem_flatMap] at hu
  obtain ⟨c, _, hc⟩ := hu
  unfold CV.cells at hc
  simp only [List.mem_cons, List.not_mem_nil, or_false] at hc
  rcases hc with rfl | rfl | rfl | rfl | rfl <;> rfl
theorem wpList_append_cells {P : Program} (w : World) {ops : Array Oper} {rest : List Oper} {o : Oper} {a : Act} {Q : Exit → Act → World → Prop} (hgd : o.guard = none) (s x : Operand) (t : TypeId)
    (ho : o.op = .call { callee := .builtin .append, args := #[s, x], argTypes := #[t, t] })
    (base : Nat) (ht : P.underlying t = some (.slice 35)) (hi : (P.info? 35).map (fun i => (i.zero, i.size, i.bytes)) = some (some (.agg #[.string ByteArray.empty, .string ByteArray.empty, .int .i64 0, .int .i64 0, .int .i64 0]), 5, 56))
    (v : Value) (L : List CV) (hs : a.eval s = v) (hown : OwnC w base v L) (ad : Addr) (n c : Nat) (M : List CV) (hM : CellsAt w (.slice (some ad) n c) M) (hx : a.eval x = .slice (some ad) n c)
    (hlen : L.length + M.length ≤ 65536) (hbase : base ≤ w.heap.size)
    (h : ∀ v' w', OwnC w' base v' (L ++ M) → Below base w w' → wpList P ops Q rest (a.put o.dst v') w') : wpList P ops Q (o :: rest) a w := by
  obtain ⟨i, hi, hz, hsize, hby⟩ := info_parts hi
  have hn : n = M.length := by
    obtain ⟨A, cap, hv, _⟩ := hM
    injection hv
  subst hn
  refine wpList_append_own (w := w) hgd s x t ho base 35 i _ 5 56 ht hi hz hsize hby rfl (by omega) v L.length (cvs L) hs hown ad M.length c (cvs M) hx (by rw [cvs_length]; omega) ?_ (cvs_one M) (by simp only [maxLen]; omega) (by omega) hbase ?_
  · intro j u hu
    have hj : j < (cvs M).length := (List.getElem?_eq_some_iff.1 hu).1
    rw [cvs_length] at hj
    have hk : j / 5 < M.length := by omega
    obtain ⟨A, cap, hv, _, _, hc⟩ := hM
    injection hv with e1 e2 e3
    obtain ⟨b, off, hA, hlt, hcell⟩ := hc (j / 5) hk
    rw [← e1] at hA
    injection hA with hA
    subst hA
    have h2 := hcell (j % 5) (by omega)
    have h3 := cvs_get M (j / 5) hk (j % 5) (by omega)
    rw [show j / 5 * 5 + j % 5 = j by omega] at h3
    rw [show off + j / 5 * 5 + j % 5 = off + j by omega, ← h3, hu] at h2
    have hadd : (⟨b, off, none⟩ : Addr).add j = ⟨b, off + j, none⟩ := by unfold Addr.add; split <;> simp_all
    rw [hadd]
    exact h2
  · intro v' w' h1 h2 _
    refine h v' w' ?_ ((Below.refl base w).grown h2 hbase (fun k hk => (World.ownsRow.lt hown k hk).1))
    have e : cvs (L ++ M) = cvs L ++ cvs M := by unfold cvs; rw [List.flatMap_append]
    unfold OwnC
    rw [e, List.length_append]
    exact h1
theorem sliced_some (a : Addr) (i j cap : Nat) : ∃ ad c, sliced (some a) i j cap 5 = .slice (some ad) (j - i) c := by
  unfold sliced
  split
  · exact ⟨a, _, rfl⟩
  · exact ⟨a.add (i * 5), _, rfl⟩
theorem longB_one (c : CV) : longB [c] = (decide (300 < c.key.size) || decide (300 < c.val.size)) := by
  unfold longB
  simp
set_option maxRecDepth 100000 in
set_option maxHeartbeats 3200000 in
theorem nfits_early (K : LandNode) (w : World) (leaf : Bool) (v : Value) (l : List CV) (at_ : Int) (c : CV) (hc : CellsAt w v l) (h : longB l = true ∨ longB [c] = true ∨ l.length < 2) : Calls Try.prog 8 #[.bool leaf, v, .int .i64 at_, c.v] w fun e w' => e = .returned (.bool true) ∧ Below w.heap.size w w' := by
  obtain ⟨wA, hwA⟩ : ∃ wA, w.alloc (.cells #[.string c.key, .string c.val, .int .i64 c.over, .int .i64 c.size, .int .i64 c.child] 35) = wA := ⟨_, rfl⟩
  have HBA : Hid (Below w.heap.size w wA) := Lib.hid (hwA ▸ (Below.refl _ w).alloc (Nat.le_refl _) _)
  have AC := Lib.hid (nawake_ok K wA)
  have LC := Lib.hid (fun w1 (hh : Below w.heap.size w w1) => nlong_ok w1 v l (hc.below hh))
  have L1 := Lib.hid (fun w1 => nlong_ok _ _ [c] (one_cell w1 c))
  have HX : Hid (Blk wA w.heap.size #[.string c.key, .string c.val, .int .i64 c.over, .int .i64 c.size, .int .i64 c.child] 35) := Lib.hid (hwA ▸ Blk.new w _ _)
  obtain ⟨A, cap, rfl, _, _⟩ := hc.form
  obtain ⟨B, hB⟩ : ∃ B, longB l = B := ⟨_, rfl⟩
  obtain ⟨B1, hB1⟩ : ∃ B, longB [c] = B := ⟨_, rfl⟩
  rw [hB] at LC
  simp only [hB1] at L1
  rw [hB, hB1] at h
  obtain ⟨key, val, over, size, child⟩ := c
  unfold CV.v
  simp only at L1 HX hwA ⊢
  clear hc hB hB1
  cases B
  case true =>
    clear h
    go_enter Try.func8, Try.ntmps8
    go_wp2_with fail
    refine AC.out.mono ?_
    rintro _ w1 ⟨rfl, hb1⟩
    have hB1 := HBA.out.trans (hb1.mono HBA.out.size)
    go_wp2_with fail
    refine (LC.out w1 hB1).mono ?_
    rintro _ w2 ⟨rfl, hb2⟩
    have HB2 := Lib.hid (hB1.trans (hb2.mono hB1.size))
    clear hb1 hb2 hB1
    go_wp2
    go_ret
    exact ⟨rfl, HB2.out⟩
  case false =>
    have h := h.resolve_left (by simp)
    cases B1
    case true =>
      clear h
      go_enter Try.func8, Try.ntmps8
      go_wp2_with fail
      refine AC.out.mono ?_
      rintro _ w1 ⟨rfl, hb1⟩
      have hB1 := HBA.out.trans (hb1.mono HBA.out.size)
      go_wp2_with fail
      refine (LC.out w1 hB1).mono ?_
      rintro _ w2 ⟨rfl, hb2⟩
      have hX2 := (hb2.block _ (Nat.lt_of_lt_of_le HX.out.lt hb1.size)).trans ((hb1.block _ HX.out.lt).trans HX.out)
      have y0 : w2.cell? ⟨w.heap.size, 0, none⟩ = some (.string key) := Blk.cell hX2 0
      have y1 : w2.cell? ⟨w.heap.size, 1, none⟩ = some (.string val) := Blk.cell hX2 1
      have y2 : w2.cell? ⟨w.heap.size, 2, none⟩ = some (.int .i64 over) := Blk.cell hX2 2
      have y3 : w2.cell? ⟨w.heap.size, 3, none⟩ = some (.int .i64 size) := Blk.cell hX2 3
      have y4 : w2.cell? ⟨w.heap.size, 4, none⟩ = some (.int .i64 child) := Blk.cell hX2 4
      have hB2 := hB1.trans (hb2.mono hB1.size)
      have HB3 := Lib.hid (hB2.alloc hB2.size (.cells #[.string key, .string val, .int .i64 over, .int .i64 size, .int .i64 child] 35))
      have L2 := Lib.hid (L1.out w2)
      clear hb1 hb2 hB1 hB2 hX2
      go_wp2_with fail
      refine L2.out.mono ?_
      rintro _ w3 ⟨rfl, hb3⟩
      go_wp2
      go_ret
      exact ⟨rfl, HB3.out.trans (hb3.mono HB3.out.size)⟩
    case false =>
      have h := h.resolve_left (by simp)
      have d1 : decide ((l.length : Int) < 2) = true := decide_eq_true (by omega)
      clear h
      go_enter Try.func8, Try.ntmps8
      go_wp2_with fail
      refine AC.out.mono ?_
      rintro _ w1 ⟨rfl, hb1⟩
      have hB1 := HBA.out.trans (hb1.mono HBA.out.size)
      go_wp2_with fail
      refine (LC.out w1 hB1).mono ?_
      rintro _ w2 ⟨rfl, hb2⟩
      have hX2 := (hb2.block _ (Nat.lt_of_lt_of_le HX.out.lt hb1.size)).trans ((hb1.block _ HX.out.lt).trans HX.out)
      have y0 : w2.cell? ⟨w.heap.size, 0, none⟩ = some (.string key) := Blk.cell hX2 0
      have y1 : w2.cell? ⟨w.heap.size, 1, none⟩ = some (.string val) := Blk.cell hX2 1
      have y2 : w2.cell? ⟨w.heap.size, 2, none⟩ = some (.int .i64 over) := Blk.cell hX2 2
      have y3 : w2.cell? ⟨w.heap.size, 3, none⟩ = some (.int .i64 size) := Blk.cell hX2 3
      have y4 : w2.cell? ⟨w.heap.size, 4, none⟩ = some (.int .i64 child) := Blk.cell hX2 4
      have hB2 := hB1.trans (hb2.mono hB1.size)
      have HB3 := Lib.hid (hB2.alloc hB2.size (.cells #[.string key, .string val, .int .i64 over, .int .i64 size, .int .i64 child] 35))
      have L2 := Lib.hid (L1.out w2)
      clear hb1 hb2 hB1 hB2 hX2
      go_wp2_with fail
      refine L2.out.mono ?_
      rintro _ w3 ⟨rfl, hb3⟩
      go_wp2
      go_ret
      exact ⟨rfl, HB3.out.trans (hb3.mono HB3.out.size)⟩
end Go.Proofs.Ytegmffeokfahjaa
