/-
  Cells of the call's own (a slice that grows by append); TakeText of the reference in one; what any bytes are read as, step by step. Conditions: texts of at most 488 bytes.
-/
import Derived.Test.YtegmffeokfahjaaRNodeE
import Derived.Test.YtegmffeokfahjaaRNodeG
import Derived.Deep.AppendLies
namespace Go.Proofs.Ytegmffeokfahjaa
open Go.RowKit
theorem cellInfo : (Try.prog.info? 35).map (fun i => (i.zero, i.size, i.bytes)) = some (some (.agg #[.string ByteArray.empty, .string ByteArray.empty, .int .i64 0, .int .i64 0, .int .i64 0]), 5, 56) := by kernel_rfl
theorem und22s : Try.prog.underlying 22 = some (.slice 35) := by kernel_rfl
def cvs (L : List CV) : List Value := L.flatMap CV.cells
theorem cvs_length (L : List CV) : (cvs L).length = 5 * L.length := by
  induction L with
  | nil => rfl
  | cons c L ih => unfold cvs at ih ⊢; rw [List.flatMap_cons, List.length_append, ih, List.length_cons]; show 5 + _ = _; omega
theorem cvs_get (L : List CV) (k : Nat) (h : k < L.length) (i : Nat) (hi : i < 5) : (cvs L)[k * 5 + i]? = L[k].cells[i]? := by
  induction L generalizing k with
  | nil => simp at h
  | cons c L ih =>
    unfold cvs at ih ⊢
    rw [List.flatMap_cons]
    have hc : c.cells.length = 5 := rfl
    cases k with
    | zero => rw [List.getElem?_append_left (by omega)]; simp
    | succ k =>
      rw [List.getElem?_append_right (by omega), hc, show (k + 1) * 5 + i - 5 = k * 5 + i by omega, ih k (by simpa using h)]
      simp
/-- the slice v of the call's own reads as the cells L -/
def OwnC (w : World) (base : Nat) (v : Value) (L : List CV) : Prop := w.ownsRow base 35 5 v L.length (cvs L)
theorem OwnC.kept {w w' : World} {base : Nat} {v : Value} {L : List CV} (h : OwnC w base v L) (hb : Below w.heap.size w w') : OwnC w' base v L :=
  World.ownsRow.kept (row := none) h ⟨hb.os, hb.tape, hb.output, hb.size, fun k hk _ => hb.block k hk⟩ (by cases v.ownBlock <;> simp)
theorem OwnC.cells {w : World} {base : Nat} {v : Value} {L : List CV} (h : OwnC w base v L) (hl : L.length ≤ 65536) : CellsAt w v L := by
  rcases h.2 with ⟨rfl, h0⟩ | ⟨g, cap, cur, rfl, hcap, hg, _, hcs, hcb, ht⟩
  · obtain rfl := List.eq_nil_of_length_eq_zero h0
    exact ⟨none, 0, rfl, by simp, by omega, fun k hk => by simp at hk⟩
  · refine ⟨some ⟨g, 0, none⟩, cap, rfl, by omega, by simp only [maxLen] at *; omega, fun k hk => ⟨g, 0, rfl, (Array.getElem?_eq_some_iff.1 hg).1, fun i hi => ?_⟩⟩
    rw [Nat.zero_add, cell_of_row w g (k * 5 + i) cur 35 (0, 0) hg]
    have h1 := cvs_get L k hk i hi
    rw [← ht, List.getElem?_take, if_pos (by omega)] at h1
    rw [← h1]
    simp
theorem wpList_append_cell {P : Program} (w : World) {ops : Array Oper} {rest : List Oper} {o : Oper} {a : Act} {Q : Exit → Act → World → Prop} (hgd : o.guard = none) (s x : Operand) (t : TypeId)
    (ho : o.op = .call { callee := .builtin .append, args := #[s, x], argTypes := #[t, t] })
    (base : Nat) (ht : P.underlying t = some (.slice 35)) (hi : (P.info? 35).map (fun i => (i.zero, i.size, i.bytes)) = some (some (.agg #[.string ByteArray.empty, .string ByteArray.empty, .int .i64 0, .int .i64 0, .int .i64 0]), 5, 56))
    (v : Value) (L : List CV) (hs : a.eval s = v) (hown : OwnC w base v L) (y : CV) (hx : a.eval x = .slice (some ⟨w.heap.size, 0, none⟩) 1 1)
    (hlen : L.length + 1 ≤ 4294967296) (hbase : base ≤ w.heap.size)
    (h : ∀ v' w', OwnC w' base v' (L ++ [y]) → Below base w w' → wpList P ops Q rest (a.put o.dst v') w') : wpList P ops Q (o :: rest) a (w.alloc (.cells #[.string y.key, .string y.val, .int .i64 y.over, .int .i64 y.size, .int .i64 y.child] 35)) := by
  obtain ⟨i, hi, hz, hsize, hby⟩ := info_parts hi
  refine wpList_append_own (w := w.alloc (.cells #[.string y.key, .string y.val, .int .i64 y.over, .int .i64 y.size, .int .i64 y.child] 35)) hgd s x t ho base 35 i _ 5 56 ht hi hz hsize hby rfl (by omega) v L.length (cvs L) hs (World.ownsRow.alloc hown _) ⟨w.heap.size, 0, none⟩ 1 1 y.cells hx rfl ?_ ?_ (by simp only [maxLen]; omega) (by omega) (by simp; omega) ?_
  · intro j u hu
    have hadd : (⟨w.heap.size, 0, none⟩ : Addr).add j = ⟨w.heap.size, j, none⟩ := by unfold Addr.add; split <;> simp_all
    rw [hadd, World.cell?_alloc_mark]
    have e : (#[.string y.key, .string y.val, .int .i64 y.over, .int .i64 y.size, .int .i64 y.child] : Array Value)[j]? = y.cells[j]? := by simp [CV.cells]
    rw [e]
    exact hu
  · intro u hu
    unfold CV.cells at hu
    simp only [List.mem_cons, List.not_mem_nil, or_false] at hu
    rcases hu with rfl | rfl | rfl | rfl | rfl <;> rfl
  · intro v' w' h1 h2 _
    refine h v' w' ?_ ?_
    · have e : cvs (L ++ [y]) = cvs L ++ y.cells := by unfold cvs; rw [List.flatMap_append]; simp
      unfold OwnC
      rw [e, List.length_append]
      exact h1
    · exact (((Below.refl base w).alloc hbase _).grown h2 (by simp; omega) (fun k hk => (World.ownsRow.lt hown k hk).1))
/-- what TakeText answers -/
def ttS (o : Option (List UInt8 × Nat)) : ByteArray := match o with | some (t, _) => ba t | none => ⟨#[]⟩
def ttA (o : Option (List UInt8 × Nat)) : Nat := match o with | some (_, b) => b | none => 0
def ttE (o : Option (List UInt8 × Nat)) : Int := match o with | some _ => 0 | none => 3
theorem rtext_any (w : World) (s : ByteArray) (hs : s.size ≤ 1048576) (a : Nat) (ha : a ≤ 10000000) : Calls Try.prog 37 #[.string s, .int .i64 a] w fun e w' => e = .returned (.tuple #[.string (ttS (Node.text s.data.toList a)), .int .i64 (ttA (Node.text s.data.toList a)), .int .i64 (ttE (Node.text s.data.toList a))]) ∧ Below w.heap.size w w' := by
  have hl : s.data.toList.length = s.size := by rw [Array.length_toList]; rfl
  by_cases h2 : a + 2 ≤ s.size
  · have hn : Node.num s.data.toList a 2 = beN ((s.data.toList.drop a).take 2) := by unfold Node.num; rw [if_pos (by omega)]
    have hlt : beN ((s.data.toList.drop a).take 2) < 65536 := hn ▸ num_lt s.data.toList a 2
    by_cases h3 : a + 2 + beN ((s.data.toList.drop a).take 2) ≤ s.size
    · have e : Node.text s.data.toList a = some ((s.data.toList.drop (a + 2)).take (beN ((s.data.toList.drop a).take 2)), a + 2 + beN ((s.data.toList.drop a).take 2)) := by
        unfold Node.text; rw [hn, if_pos ⟨by omega, by omega⟩]
      rw [e]
      exact rtt_ok s hs a _ h2 rfl hlt h3 w
    · have e : Node.text s.data.toList a = none := by
        unfold Node.text; rw [hn, if_neg (by omega)]
      rw [e]
      exact rtt_short s hs a _ h2 rfl hlt (by omega) w
  · have e : Node.text s.data.toList a = none := by
      unfold Node.text; rw [if_neg (by omega)]
    rw [e]
    exact (rtt_short2 s hs a (by omega) (by omega) (by omega) w).mono fun _ _ ⟨e, hw⟩ => ⟨e, hw ▸ Below.refl _ _⟩
theorem text_bnd {s : List UInt8} {a : Nat} {t : List UInt8} {b : Nat} (h : Node.text s a = some (t, b)) : b ≤ s.length ∧ t.length ≤ s.length ∧ a + 2 ≤ b := by
  unfold Node.text at h
  split at h
  · rename_i hh
    injection h with h
    injection h with h1 h2
    subst h1 h2
    refine ⟨hh.2, ?_, by omega⟩
    rw [List.length_take, List.length_drop]
    omega
  · cases h
namespace Node
def decL (leaf : Bool) (s : ByteArray) : List CV := (dec leaf s).getD []
def decE (leaf : Bool) (s : ByteArray) : Int := if (dec leaf s).isSome then 0 else 4
theorem dec_long {leaf : Bool} {s : ByteArray} (h : ¬ s.size ≤ 488) : dec leaf s = none := by unfold dec; rw [if_neg h]
theorem dec_read {leaf : Bool} {s : ByteArray} (h : s.size ≤ 488) : dec leaf s = (match readGo leaf s.data.toList (num s.data.toList 0 2) (2 + 2 * num s.data.toList 0 2) [] with
    | none => none
    | some l => if fits leaf (l.map CV.of) ∧ encS leaf (l.map CV.of) = s then some (l.map CV.of) else none) := by unfold dec; rw [if_pos h]; rfl
theorem readGo_end (leaf : Bool) (s : List UInt8) (m a : Nat) (acc : List CL) (h : m = 0 ∨ s.length ≤ a) : readGo leaf s m a acc = some acc := by
  cases m with
  | zero => rfl
  | succ m => rw [readGo, if_neg (by omega)]
theorem readGo_none (leaf : Bool) (s : List UInt8) (m a : Nat) (acc : List CL) (h : a < s.length) (hm : 0 < m) (hr : readOne leaf s a = none) : readGo leaf s m a acc = none := by
  obtain ⟨m, rfl⟩ : ∃ k, m = k + 1 := ⟨m - 1, by omega⟩
  rw [readGo, if_pos h, hr]
theorem readGo_some (leaf : Bool) (s : List UInt8) (m a : Nat) (acc : List CL) (h : a < s.length) (hm : 0 < m) {c : CL} {b : Nat} (hr : readOne leaf s a = some (c, b)) : readGo leaf s m a acc = readGo leaf s (m - 1) b (acc ++ [c]) := by
  obtain ⟨m, rfl⟩ : ∃ k, m = k + 1 := ⟨m - 1, by omega⟩
  rw [readGo, if_pos h, hr]
  rfl
end Node
end Go.Proofs.Ytegmffeokfahjaa
