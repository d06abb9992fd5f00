/-
  Plain laws of no statement: a slice of bytes that a call owns (made by a conversion of a text, by append, or nil), under any program: append of bytes onto it, its conversion to a text. No conditions but those typed.
-/
import Derived.WalkKit
import Derived.Lib.ConvBytes
import Derived.Lib.Hide
namespace Go.Proofs.Ytjgndgcegenikaa
open Go.RowKit

def bv (l : List UInt8) : List Value := l.map fun b => Value.int .u8 b.toNat
theorem bv_length (l : List UInt8) : (bv l).length = l.length := by simp [bv]
theorem bv_append (l k : List UInt8) : bv (l ++ k) = bv l ++ bv k := by simp [bv]
theorem bv_one (l : List UInt8) : ∀ u ∈ bv l, u.oneCell' = true := by
  intro u hu
  simp only [bv, List.mem_map] at hu
  obtain ⟨b, _, rfl⟩ := hu
  rfl

/-- the slice v reads as the bytes l; its block lies from 'base' on; none of its cells is frozen -/
def OwnB (w : World) (base : Nat) (e : TypeId) (v : Value) (l : List UInt8) : Prop :=
  (v = .slice none 0 0 ∧ l = []) ∨
  ∃ g cap cur fz, v = .slice (some ⟨g, 0, none⟩) l.length cap ∧ base ≤ g ∧ w.heap[g]? = some (.cells cur e fz) ∧ (∀ j, j < cur.size → (decide (fz.1 ≤ j) && decide (j < fz.2)) = false) ∧
    l.length ≤ cap ∧ cap ≤ maxLen ∧ cur.size = cap ∧ cur.toList.take l.length = bv l

theorem OwnB.nil (w : World) (base : Nat) (e : TypeId) : OwnB w base e (.slice none 0 0) [] := .inl ⟨rfl, rfl⟩

theorem OwnB.form {w : World} {base : Nat} {e : TypeId} {v : Value} {l : List UInt8} (h : OwnB w base e v l) : ∃ A cap, v = .slice A l.length cap := by
  rcases h with ⟨rfl, rfl⟩ | ⟨g, cap, _, _, rfl, _⟩
  · exact ⟨_, _, rfl⟩
  · exact ⟨_, _, rfl⟩
theorem OwnB.kept {w w' : World} {base B : Nat} {e : TypeId} {v : Value} {l : List UInt8} (h : OwnB w base e v l) (hb : Below B w w') (hB : w.heap.size ≤ B) : OwnB w' base e v l := by
  rcases h with h | ⟨g, cap, cur, fz, rfl, h1, h2, h3⟩
  · exact .inl h
  · refine .inr ⟨g, cap, cur, fz, rfl, h1, ?_, h3⟩
    rw [hb.block g (Nat.lt_of_lt_of_le (Array.getElem?_eq_some_iff.1 h2).1 hB)]
    exact h2

theorem OwnB.alloc {w : World} {base : Nat} {e : TypeId} {v : Value} {l : List UInt8} (h : OwnB w base e v l) (o : Obj) : OwnB (w.alloc o) base e v l :=
  h.kept ((Below.refl w.heap.size w).alloc (Nat.le_refl _) o) (Nat.le_refl _)
theorem OwnB.drew {w : World} {base : Nat} {e : TypeId} {v : Value} {l : List UInt8} (h : OwnB w base e v l) : OwnB w.drew base e v l := h

theorem OwnB.cells {w : World} {base : Nat} {e : TypeId} {v : Value} {l : List UInt8} (h : OwnB w base e v l) {g n cap : Nat} (hv : v = .slice (some ⟨g, 0, none⟩) n cap) :
    n = l.length ∧ ∀ j u, (bv l)[j]? = some u → w.cell? ((⟨g, 0, none⟩ : Addr).add j) = some u := by
  rcases h with ⟨rfl, rfl⟩ | ⟨g', cap', cur, fz, rfl, _, hg, _, _, _, _, ht⟩
  · simp at hv
  · injection hv with e1 e2 e3
    injection e1 with e1
    injection e1 with e1
    subst e1 e2
    refine ⟨rfl, fun j u hu => ?_⟩
    have hadd : (⟨g', 0, none⟩ : Addr).add j = ⟨g', j, none⟩ := by unfold Addr.add; split <;> simp_all
    rw [hadd, cell_of_row w g' j cur e fz hg]
    rw [← ht, List.getElem?_take] at hu
    split at hu
    · simpa using hu
    · cases hu

/-- '[]byte{}' -/
theorem OwnB.empty (w : World) (base : Nat) (e : TypeId) (hb : base ≤ w.heap.size) : OwnB (w.alloc (.cells #[] e)) base e (.slice (some ⟨w.heap.size, 0, none⟩) 0 0) [] :=
  .inr ⟨w.heap.size, 0, #[], (0, 0), rfl, hb, heap_alloc_new w _, by simp, Nat.le_refl _, by simp, rfl, by simp [bv]⟩

/-- '[]byte{b, ..}' -/
theorem OwnB.lit (w : World) (base : Nat) (e : TypeId) (hb : base ≤ w.heap.size) (l : List UInt8) (hl : l.length ≤ maxLen) (cs : Array Value) (hc : cs = (bv l).toArray) (n : Nat) (hn : n = l.length) :
    OwnB (w.alloc (.cells cs e)) base e (.slice (some ⟨w.heap.size, 0, none⟩) n n) l := by
  subst hc hn
  exact .inr ⟨w.heap.size, l.length, _, (0, 0), rfl, hb, heap_alloc_new w _, by simp, Nat.le_refl _, hl, by simp [bv], by simp [bv, List.take_of_length_le]⟩

/-- '[]byte(s)' -/
theorem OwnB.conv (w : World) (base : Nat) (e : TypeId) (s : ByteArray) (hb : base ≤ w.heap.size) (hs : s.size ≤ maxLen) :
    OwnB (Lib.bytesWorld w e s) base e (.slice (some ⟨w.heap.size, 0, none⟩) s.size (grownCap w s.size 0 e)) s.data.toList := by
  have hge := grownCap_ge w s.size 0 e
  refine .inr ⟨w.heap.size, grownCap w s.size 0 e, _, _, by rw [Array.length_toList]; rfl, hb, Lib.bytesWorld_at_new w e s, ?_, ?_, grownCap_le_maxLen w s.size 0 e hs, ?_, ?_⟩
  · intro j hj
    have : ¬ ((Lib.bytesCells w e s).size ≤ j) := by omega
    simp [this]
  · rw [Array.length_toList]; exact hge
  · simp only [Lib.bytesCells, Array.size_append, Array.size_map, Array.size_replicate]
    have : s.data.size = s.size := rfl
    omega
  · simp only [Lib.bytesCells, Array.toList_append, Array.toList_map, bv]
    rw [List.take_left' (by simp)]
theorem below_conv (w : World) (e : TypeId) (s : ByteArray) : Below w.heap.size w (Lib.bytesWorld w e s) :=
  ⟨rfl, rfl, rfl, by rw [Lib.bytesWorld_size]; omega, fun k hk => Lib.bytesWorld_at_old w e s k hk⟩

theorem OwnB.set {w : World} {base : Nat} {e : TypeId} {g n cap : Nat} {l : List UInt8} (h : OwnB w base e (.slice (some ⟨g, 0, none⟩) n cap) l) (j : Nat) (b : UInt8) :
    OwnB (w.setCell ⟨g, j, none⟩ (.int .u8 b.toNat)) base e (.slice (some ⟨g, 0, none⟩) n cap) (l.set j b) := by
  rcases h with ⟨h, _⟩ | ⟨g', cap', cur, fz, hv, h1, h2, h3, h4, h5, h6, h7⟩
  · simp at h
  · injection hv with e1 e2 e3
    injection e1 with e1
    injection e1 with e1
    subst e1 e2 e3
    refine .inr ⟨g, cap, cur.setIfInBounds j (.int .u8 b.toNat), fz, by simp, h1, ?_, by simpa using h3, by simpa using h4, h5, by simpa using h6, ?_⟩
    · rw [setCell_eq_setRow w g j cur e fz _ h2]
      exact setRow_heap w g cur _ e _ h2
    · rw [Array.toList_setIfInBounds, List.length_set, List.take_set, h7]
      simp [bv, List.map_set]
theorem OwnB.cellAt {w : World} {base : Nat} {e : TypeId} {g n cap : Nat} {l : List UInt8} (h : OwnB w base e (.slice (some ⟨g, 0, none⟩) n cap) l) (j : Nat) (hj : j < l.length) :
    w.cell? ⟨g, j, none⟩ = some (.int .u8 (l[j].toNat)) := by
  have := (h.cells rfl).2 j (.int .u8 (l[j].toNat)) (by simp [bv, hj])
  have hadd : (⟨g, 0, none⟩ : Addr).add j = ⟨g, j, none⟩ := by unfold Addr.add; split <;> simp_all
  rwa [hadd] at this
theorem OwnB.free {w : World} {base : Nat} {e : TypeId} {g n cap : Nat} {l : List UInt8} (h : OwnB w base e (.slice (some ⟨g, 0, none⟩) n cap) l) (j : Nat) (hj : j < l.length) :
    w.frozen? ⟨g, j, none⟩ = false := by
  rcases h with ⟨h, _⟩ | ⟨g', cap', cur, fz, hv, h1, h2, h3, h4, h5, h6, h7⟩
  · simp at h
  · injection hv with e1 e2 e3
    injection e1 with e1
    injection e1 with e1
    subst e1 e2 e3
    have := h3 j (by omega)
    obtain ⟨lo, hi⟩ := fz
    simp only [World.frozen?, h2]
    exact this

section
variable {P : Program} (w : World)

theorem run_storeCells_B (g o : Nat) (t : TypeId) (fz : Nat × Nat) : ∀ (vs : List Value) (i : Nat) (cur : Array Value) (w : World), w.heap[g]? = some (.cells cur t fz) →
    (∀ j, j < cur.size → (decide (fz.1 ≤ j) && decide (j < fz.2)) = false) → o + i + vs.length ≤ cur.size → (∀ v ∈ vs, v.oneCell' = true) →
    (storeCells ⟨g, o, none⟩ vs i).run P w = .ok () (w.setRow g (cur.toList.take (o + i) ++ vs ++ cur.toList.drop (o + i + vs.length)).toArray)
  | [], i, cur, w, hg, _, _, _ => by
    simp only [storeCells, List.append_nil, List.length_nil, Nat.add_zero, List.take_append_drop, Array.toArray_toList]
    rw [setRow_self w g cur t fz hg]
    rfl
  | v :: rest, i, cur, w, hg, hfz, hl, h1 => by
    have hi : o + i < cur.size := by simp at hl; omega
    have hadd : (⟨g, o, none⟩ : Addr).add i = ⟨g, o + i, none⟩ := by unfold Addr.add; split <;> simp_all
    have hcell : w.cell? ⟨g, o + i, none⟩ = some cur[o + i] := by simp [World.cell?, hg, hi]
    have hfro : w.frozen? ⟨g, o + i, none⟩ = false := by
      have := hfz (o + i) hi
      obtain ⟨lo, hi'⟩ := fz
      simp only [World.frozen?, hg]
      exact this
    have hst : (store ((⟨g, o, none⟩ : Addr).add i) v).run P w = .ok () (w.setRow g (cur.setIfInBounds (o + i) v)) := by
      rw [hadd, run_store P w _ v _ (h1 v (by simp)), hcell]
      simp [hfro, setCell_eq_setRow w g (o + i) cur t fz v hg]
    have ih := run_storeCells_B g o t fz rest (i + 1) (cur.setIfInBounds (o + i) v) (w.setRow g (cur.setIfInBounds (o + i) v)) (setRow_heap w g cur _ t _ hg) (by simpa using hfz) (by simp at hl ⊢; omega) (fun x hx => h1 x (by simp [hx]))
    simp only [storeCells, Sem.run_bind, hst, Result.andThen_ok, ih, setRow_setRow]
    congr 3
    have e := list_seg_step cur.toList (o + i) v rest (by simp at hl ⊢; omega)
    simpa [Array.toList_setIfInBounds, Nat.add_assoc] using e

/-- append of bytes onto such a slice -/
theorem run_append_BG (base : Nat) (t ty e : TypeId) (ht : P.underlying t = some (.slice e)) (hi : (P.info? e).map (fun i => (i.zero, i.size, i.bytes)) = some (some (.int .u8 0), 1, 1))
    (v : Value) (l : List UInt8) (hown : OwnB w base e v l) (a : Addr) (m c : Nat) (k : List UInt8) (hm : m = k.length)
    (hnews : ∀ j u, (bv k)[j]? = some u → w.cell? (a.add j) = some u) (hlen : l.length + k.length ≤ 140737488355328) (hbase : base ≤ w.heap.size) :
    ∃ v' w', (Builtin.append_ #[t, t] ty #[v, .slice (some a) m c]).run P w = .ok v' w' ∧ OwnB w' base e v' (l ++ k) ∧ w.grownBy w' v.ownBlock := by
  subst hm
  obtain ⟨i, hi, hz, hsize, hby⟩ := info_parts hi
  rcases hown with ⟨rfl, rfl⟩ | ⟨g, cap, cur, fz, rfl, hbg, hg, hfz, hnc, hcm, hcs, htake⟩
  · obtain ⟨v', w', r1, r2, r3, r4⟩ := run_append_own (P := P) w base t ty e i (.int .u8 0) 1 1 ht hi hz hsize hby rfl (by omega) (.slice none 0 0) 0 [] ⟨rfl, .inl ⟨rfl, rfl⟩⟩ a k.length c (bv k) (by simp [bv]) hnews (bv_one k) (by simp only [maxLen, List.length_nil] at hlen ⊢; omega) (by simpa using hlen) hbase
    refine ⟨v', w', r1, ?_, r3⟩
    rcases r2.2 with ⟨rfl, h0⟩ | ⟨g, cap, cur, rfl, q1, q2, q3, q4, q5, q6⟩
    · have : k = [] := List.eq_nil_of_length_eq_zero (by omega)
      subst this
      exact .inl ⟨rfl, rfl⟩
    · exact .inr ⟨g, cap, cur, (0, 0), by simp, q1, q2, by simp, by simpa using q3, q4, by simpa using q5, by simpa [bv] using q6⟩
  · by_cases hroom : l.length + k.length ≤ cap
    · have hf := run_firstCells_some (P := P) w i.size k.length a k.length c (bv k) (by rw [hsize]; simp [bv]) hnews
      have hst := run_storeCells_B (P := P) g l.length e fz (bv k) 0 cur w hg hfz (by rw [bv_length]; omega) (bv_one k)
      simp only [Nat.add_zero] at hst
      have hr : (Builtin.append_ #[t, t] ty #[.slice (some ⟨g, 0, none⟩) l.length cap, .slice (some a) k.length c]).run P w =
          .ok (.slice (some ⟨g, 0, none⟩) (l.length + k.length) cap) (w.setRow g (cur.toList.take l.length ++ bv k ++ cur.toList.drop (l.length + (bv k).length)).toArray) := by
        rw [hsize] at hf
        simp [Builtin.append_, run_underlying ht, sizeOf, typeInfo, hi, hsize, Builtin.lenOf, hroom, hf, Addr.add_lit, hst]
      refine ⟨_, _, hr, .inr ⟨g, cap, _, fz, by simp, hbg, setRow_heap w g cur _ e _ hg, ?_, by simpa using hroom, hcm, ?_, ?_⟩, ⟨rfl, rfl, rfl, by simp, fun j _ hj => setRow_other w g j _ (fun e => hj (by simp [Value.ownBlock, e]))⟩⟩
      · intro j hj
        apply hfz
        simp only [List.size_toArray, List.length_append, List.length_take, List.length_drop, Array.length_toList, bv_length] at hj
        omega
      · simp only [List.size_toArray, List.length_append, List.length_take, List.length_drop, Array.length_toList, bv_length]
        omega
      · rw [htake, bv_append, List.toList_toArray, List.take_left' (by simp [bv])]
    · have holds : ∀ j u, (bv l)[j]? = some u → w.cell? ((⟨g, 0, none⟩ : Addr).add j) = some u :=
        (OwnB.cells (w := w) (base := base) (e := e) (.inr ⟨g, cap, cur, fz, rfl, hbg, hg, hfz, hnc, hcm, hcs, htake⟩) rfl).2
      have h63 : l.length + k.length ≤ maxLen := by simp only [maxLen]; omega
      have hr := run_append_grow (P := P) w t ty e i (.int .u8 0) ht hi hz ⟨g, 0, none⟩ l.length cap (bv l) (by rw [hsize]; simp [bv]) holds a k.length c (bv k) (by rw [hsize]; simp [bv]) hnews (by omega) (by simp only [maxLen] at h63; omega) (growslice_fits (by omega) (by rw [hby]; omega))
      have hge := grownCap_ge w (l.length + k.length) cap e
      have hcm2 : grownCap w (l.length + k.length) cap e ≤ maxLen := grownCap_le_maxLen w _ cap e h63
      refine ⟨_, _, hr, .inr ⟨w.heap.size, _, _, (0, 0), by simp, hbase, heap_alloc_new w.drew _, by simp, by simpa using hge, hcm2, ?_, ?_⟩, ⟨rfl, rfl, rfl, by simp, fun j hj _ => Below.heap_alloc w.drew _ j (by simpa using hj)⟩⟩
      · simp only [Array.size_append, List.size_toArray, size_zeroCells, bv_length]
        show l.length + k.length + (_ - _) * 1 = _
        omega
      · simp only [Array.toList_append, bv_append]
        rw [List.take_left' (by simp [bv])]

theorem OwnB.from_ {w : World} {base : Nat} {e : TypeId} {v : Value} {l : List UInt8} (h : OwnB w base e v l) : ∀ k, v.ownBlock = some k → base ≤ k := by
  intro k hk
  rcases h with ⟨rfl, _⟩ | ⟨g, _, _, _, rfl, h1, _⟩
  · simp [Value.ownBlock] at hk
  · simp [Value.ownBlock] at hk
    omega
theorem run_append_B (base : Nat) (t ty e : TypeId) (ht : P.underlying t = some (.slice e)) (hi : (P.info? e).map (fun i => (i.zero, i.size, i.bytes)) = some (some (.int .u8 0), 1, 1))
    (v : Value) (l : List UInt8) (hown : OwnB w base e v l) (a : Addr) (m c : Nat) (k : List UInt8) (hm : m = k.length)
    (hnews : ∀ j u, (bv k)[j]? = some u → w.cell? (a.add j) = some u) (hlen : l.length + k.length ≤ 140737488355328) (hbase : base ≤ w.heap.size) :
    ∃ v' w', (Builtin.append_ #[t, t] ty #[v, .slice (some a) m c]).run P w = .ok v' w' ∧ OwnB w' base e v' (l ++ k) ∧ Below base w w' := by
  obtain ⟨v', w', h1, h2, h3⟩ := run_append_BG (P := P) w base t ty e ht hi v l hown a m c k hm hnews hlen hbase
  exact ⟨v', w', h1, h2, (Below.refl base w).grown h3 hbase hown.from_⟩

theorem wpList_append_B {ops : Array Oper} {rest : List Oper} {o : Oper} {a : Act} {Q : Exit → Act → World → Prop} (hgd : o.guard = none) (s x : Operand) (t : TypeId)
    (ho : o.op = .call { callee := .builtin .append, args := #[s, x], argTypes := #[t, t] })
    (base : Nat) (e : TypeId) (ht : P.underlying t = some (.slice e)) (hi : (P.info? e).map (fun i => (i.zero, i.size, i.bytes)) = some (some (.int .u8 0), 1, 1))
    (v : Value) (l : List UInt8) (hs : a.eval s = v) (hown : OwnB w base e v l)
    (ad : Addr) (m c : Nat) (k : List UInt8) (hx : a.eval x = .slice (some ad) m c) (hm : m = k.length) (hnews : ∀ j u, (bv k)[j]? = some u → w.cell? (ad.add j) = some u)
    (hlen : l.length + k.length ≤ 140737488355328) (hbase : base ≤ w.heap.size)
    (h : ∀ v' w', OwnB w' base e v' (l ++ k) → Below base w w' → wpList P ops Q rest (a.put o.dst v') w') : wpList P ops Q (o :: rest) a w := by
  refine wpList_plain hgd fun K hK => ?_
  obtain ⟨v', w', hr, h2, h3⟩ := run_append_B (P := P) w base t o.type e ht hi v l hown ad m c k hm hnews hlen hbase
  unfold Oper.wp execOp
  simp only [ho, resolve, invoke, builtin, Sem.run_bind, Sem.run_pure, Result.andThen_ok, List.map_toArray, List.map_cons, List.map_nil, hs, hx, hr]
  exact hK _ _ (h v' w' h2 h3)

theorem cells_one (w : World) (e : TypeId) (n : Int) (b : UInt8) (hb : n = b.toNat) : ∀ j u, (bv [b])[j]? = some u → (w.alloc (.cells #[.int .u8 n] e)).cell? ((⟨w.heap.size, 0, none⟩ : Addr).add j) = some u := by
  subst hb
  intro j u hu
  have hadd : (⟨w.heap.size, 0, none⟩ : Addr).add j = ⟨w.heap.size, j, none⟩ := by unfold Addr.add; split <;> simp_all
  rw [hadd, World.cell?_alloc_mark]
  cases j with
  | zero => simpa [bv] using hu
  | succ j => simp [bv] at hu

/-- 'b = append(b, byte)' -/
theorem wpList_append_byte {ops : Array Oper} {rest : List Oper} {o : Oper} {a : Act} {Q : Exit → Act → World → Prop} (hgd : o.guard = none) (s x : Operand) (t : TypeId)
    (ho : o.op = .call { callee := .builtin .append, args := #[s, x], argTypes := #[t, t] })
    (base : Nat) (e : TypeId) (ht : P.underlying t = some (.slice e)) (hi : (P.info? e).map (fun i => (i.zero, i.size, i.bytes)) = some (some (.int .u8 0), 1, 1))
    (v : Value) (l : List UInt8) (hs : a.eval s = v) (hown : OwnB w base e v l)
    (n : Int) (b : UInt8) (hb : n = b.toNat) (hx : a.eval x = .slice (some ⟨w.heap.size, 0, none⟩) 1 1)
    (hlen : l.length + 1 ≤ 140737488355328) (hbase : base ≤ w.heap.size)
    (h : ∀ v' w', OwnB w' base e v' (l ++ [b]) → Below base w w' → wpList P ops Q rest (a.put o.dst v') w') : wpList P ops Q (o :: rest) a (w.alloc (.cells #[.int .u8 n] e)) := by
  refine wpList_append_B (w := w.alloc (.cells #[.int .u8 n] e)) hgd s x t ho base e ht hi v l hs (hown.alloc _) ⟨w.heap.size, 0, none⟩ 1 1 [b] hx rfl (cells_one w e n b hb) (by simpa using hlen) (by simp; omega) ?_
  intro v' w' h1 h2
  exact h v' w' h1 (((Below.refl base w).alloc hbase _).trans h2)

theorem cells_lit (w : World) (e : TypeId) (k : List UInt8) (cs : Array Value) (hcs : cs = (bv k).toArray) : ∀ j u, (bv k)[j]? = some u → (w.alloc (.cells cs e)).cell? ((⟨w.heap.size, 0, none⟩ : Addr).add j) = some u := by
  subst hcs
  intro j u hu
  have hadd : (⟨w.heap.size, 0, none⟩ : Addr).add j = ⟨w.heap.size, j, none⟩ := by unfold Addr.add; split <;> simp_all
  rw [hadd, World.cell?_alloc_mark]
  simpa using hu

/-- 'b = append(b, byte, byte, ..)' -/
theorem wpList_append_bytes {ops : Array Oper} {rest : List Oper} {o : Oper} {a : Act} {Q : Exit → Act → World → Prop} (hgd : o.guard = none) (s x : Operand) (t : TypeId)
    (ho : o.op = .call { callee := .builtin .append, args := #[s, x], argTypes := #[t, t] })
    (base : Nat) (e : TypeId) (ht : P.underlying t = some (.slice e)) (hi : (P.info? e).map (fun i => (i.zero, i.size, i.bytes)) = some (some (.int .u8 0), 1, 1))
    (v : Value) (l : List UInt8) (hs : a.eval s = v) (hown : OwnB w base e v l)
    (k : List UInt8) (cs : Array Value) (hcs : cs = (bv k).toArray) (n : Nat) (hn : n = k.length) (hx : a.eval x = .slice (some ⟨w.heap.size, 0, none⟩) n n)
    (hlen : l.length + k.length ≤ 140737488355328) (hbase : base ≤ w.heap.size)
    (h : ∀ v' w', OwnB w' base e v' (l ++ k) → Below base w w' → wpList P ops Q rest (a.put o.dst v') w') : wpList P ops Q (o :: rest) a (w.alloc (.cells cs e)) := by
  refine wpList_append_B (w := w.alloc (.cells cs e)) hgd s x t ho base e ht hi v l hs (hown.alloc _) ⟨w.heap.size, 0, none⟩ n n k hx hn (cells_lit w e k cs hcs) (by simpa using hlen) (by simp; omega) ?_
  intro v' w' h1 h2
  exact h v' w' h1 (((Below.refl base w).alloc hbase _).trans h2)

/-- a row of other elements than bytes stays, where bytes are appended -/
theorem row_stays {w w' : World} {base base' : Nat} {e e' : TypeId} {v v' : Value} {l : List UInt8} {n : Nat} {xs : List Value} (hown : OwnB w base e v l) (hr : w.ownsRow base' e' 1 v' n xs) (hne : e' ≠ e) (hg : w.grownBy w' v.ownBlock) : w'.ownsRow base' e' 1 v' n xs := by
  refine hr.kept hg ?_
  rcases hr.2 with ⟨rfl, _⟩ | ⟨g', cap', cur', rfl, _, hg', _⟩
  · left; rfl
  · right
    intro he
    rcases hown with ⟨rfl, _⟩ | ⟨g, cap, cur, fz, rfl, _, hgg, _⟩
    · simp [Value.ownBlock] at he
    · simp [Value.ownBlock] at he
      subst he
      rw [hgg] at hg'
      injection hg' with hg'
      injection hg' with _ h2
      exact hne h2.symm
/-- bytes stay, where a row of other elements is appended to -/
theorem bytes_stay {w w' : World} {base base' : Nat} {e e' : TypeId} {v v' : Value} {l : List UInt8} {n : Nat} {xs : List Value} (hown : OwnB w base e v l) (hr : w.ownsRow base' e' 1 v' n xs) (hne : e' ≠ e) (hg : w.grownBy w' v'.ownBlock) : OwnB w' base e v l := by
  rcases hown with h | ⟨g, cap, cur, fz, rfl, h1, hgg, h3⟩
  · exact .inl h
  · refine .inr ⟨g, cap, cur, fz, rfl, h1, ?_, h3⟩
    rw [hg.block g (Array.getElem?_eq_some_iff.1 hgg).1 ?_]
    · exact hgg
    · intro he
      rcases hr.2 with ⟨rfl, _⟩ | ⟨g', cap', cur', rfl, _, hg', _⟩
      · simp [Value.ownBlock] at he
      · simp [Value.ownBlock] at he
        subst he
        rw [hgg] at hg'
        injection hg' with hg'
        injection hg' with _ h2
        exact hne h2.symm

/-- 'b = append(b, byte)', and what is told of other rows -/
theorem wpList_append_byteG {ops : Array Oper} {rest : List Oper} {o : Oper} {a : Act} {Q : Exit → Act → World → Prop} (hgd : o.guard = none) (s x : Operand) (t : TypeId)
    (ho : o.op = .call { callee := .builtin .append, args := #[s, x], argTypes := #[t, t] })
    (base : Nat) (e : TypeId) (ht : P.underlying t = some (.slice e)) (hi : (P.info? e).map (fun i => (i.zero, i.size, i.bytes)) = some (some (.int .u8 0), 1, 1))
    (v : Value) (l : List UInt8) (hs : a.eval s = v) (hown : OwnB w base e v l)
    (n : Int) (b : UInt8) (hb : n = b.toNat) (hx : a.eval x = .slice (some ⟨w.heap.size, 0, none⟩) 1 1)
    (hlen : l.length + 1 ≤ 140737488355328) (hbase : base ≤ w.heap.size)
    (e' : TypeId) (hne : e' ≠ e) (base' : Nat) (u : Value) (m : Nat) (xs : List Value) (hr : w.ownsRow base' e' 1 u m xs)
    (h : ∀ v' w', OwnB w' base e v' (l ++ [b]) → Below base w w' → w'.ownsRow base' e' 1 u m xs → wpList P ops Q rest (a.put o.dst v') w') : wpList P ops Q (o :: rest) a (w.alloc (.cells #[.int .u8 n] e)) := by
  refine wpList_plain hgd fun K hK => ?_
  obtain ⟨v', w', hr1, h2, h3⟩ := run_append_BG (P := P) (w.alloc (.cells #[.int .u8 n] e)) base t o.type e ht hi v l (hown.alloc _) ⟨w.heap.size, 0, none⟩ 1 1 [b] rfl (cells_one w e n b hb) (by simpa using hlen) (by simp; omega)
  unfold Oper.wp execOp
  simp only [ho, resolve, invoke, builtin, Sem.run_bind, Sem.run_pure, Result.andThen_ok, List.map_toArray, List.map_cons, List.map_nil, hs, hx, hr1]
  refine hK _ _ (h v' w' h2 (((Below.refl base w).alloc hbase _).grown h3 (by simp; omega) hown.from_) ?_)
  exact row_stays (hown.alloc _) (hr.alloc _) hne h3

/-- 'string(b)' -/
theorem run_string_B (src dst e : TypeId) (hs : P.underlying src = some (.slice e)) (he : P.underlying e = some (.int .u8)) (hd : P.underlying dst = some .string)
    (base : Nat) (v : Value) (l : List UInt8) (h : OwnB w base e v l) : (convert src dst v).run P w = .ok (.string ⟨l.toArray⟩) w := by
  have hf := h
  rcases h with ⟨rfl, rfl⟩ | ⟨g, cap, cur, fz, rfl, _⟩
  · exact run_convert_bytes_nil (P := P) w src e hs he 0 0 dst hd
  · obtain ⟨_, hc⟩ := hf.cells rfl
    have hl : (loadCells ⟨g, 0, none⟩ l.length).run P w = .ok ((l.map fun b => (b.toNat : Int)).map (Value.int .u8)).toArray w := by
      have := run_loadCells_list (P := P) w ⟨g, 0, none⟩ (bv l) (fun j u hj => hc j u hj)
      rw [bv_length] at this
      simpa [bv, Function.comp_def] using this
    rw [run_convert_bytes_string w src dst e _ l.length cap hs he hd, run_bytesToString w _ l.length cap _ hl, foldl_push_bytes]
    have : (l.map fun b => (b.toNat : Int)).map (fun n => UInt8.ofNat n.toNat) = l := by
      rw [List.map_map]
      conv => rhs; rw [← List.map_id l]
      apply List.map_congr_left
      intro b _
      simp
    rw [this]
    simp [ByteArray.empty, ByteArray.emptyWithCapacity]
    rfl
end

/-- the walk's own step for 's' of a text: its bytes -/
theorem str_data (s : ByteArray) : (⟨s.data.toList.toArray⟩ : ByteArray) = s := by simp
end Go.Proofs.Ytjgndgcegenikaa
