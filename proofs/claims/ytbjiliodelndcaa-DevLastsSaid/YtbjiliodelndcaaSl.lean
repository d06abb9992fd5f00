/-
  Plain laws of no statement: a slice of one-cell elements in a block that is known whole, wherever in it the slice begins: append of one element, what is cut off its beginning. Under any program. No conditions but those typed.
-/
import Derived.Test.YtbjiliodelndcaaOwn
import Derived.ArgAppend
namespace Go.Proofs.Ytbjiliodelndcaa
open Go.RowKit
/-- the slice v lies in block g, its elements are l -/
def SlAt (w : World) (e : TypeId) (g : Nat) (v : Value) (l : List Value) : Prop :=
  ∃ off cap cur, v = .slice (some ⟨g, off, none⟩) l.length cap ∧ w.heap[g]? = some (.cells cur e (0, 0)) ∧ l.length ≤ cap ∧ cap ≤ maxLen ∧ off + cap ≤ cur.size ∧ ∀ j u, l[j]? = some u → cur[off + j]? = some u
theorem SlAt.lt {w : World} {e : TypeId} {g : Nat} {v : Value} {l : List Value} (h : SlAt w e g v l) : g < w.heap.size := by
  obtain ⟨_, _, _, _, hg, _⟩ := h
  exact (Array.getElem?_eq_some_iff.1 hg).1
theorem SlAt.touch {w w' : World} {e : TypeId} {g : Nat} {v : Value} {l : List Value} {S : List Nat} (h : SlAt w e g v l) (hT : Touch S w w') (hS : g ∉ S) : SlAt w' e g v l := by
  have hlt := h.lt
  obtain ⟨off, cap, cur, hv, hg, rest⟩ := h
  exact ⟨off, cap, cur, hv, (hT.block g hlt hS).trans hg, rest⟩
theorem SlAt.form {w : World} {e : TypeId} {g : Nat} {v : Value} {l : List Value} (h : SlAt w e g v l) : ∃ off cap, v = .slice (some ⟨g, off, none⟩) l.length cap ∧ l.length ≤ cap ∧ cap ≤ maxLen := by
  obtain ⟨off, cap, cur, hv, hg, h1, h2, _⟩ := h
  exact ⟨off, cap, hv, h1, h2⟩
theorem SlAt.cell {w : World} {e : TypeId} {g off n cap : Nat} {l : List Value} (h : SlAt w e g (.slice (some ⟨g, off, none⟩) n cap) l) (j : Nat) (u : Value) (hj : l[j]? = some u) : w.cell? ⟨g, off + j, none⟩ = some u := by
  obtain ⟨off', cap', cur, hv, hg, _, _, _, hc⟩ := h
  injection hv with e1 e2 e3
  injection e1 with e1
  injection e1 with _ e1
  subst e1
  rw [cell_of_row w g (off + j) cur e (0, 0) hg]
  exact hc j u hj
theorem SlAt.one (w : World) (e : TypeId) (x : Value) : SlAt (w.alloc (.cells #[x] e)) e w.heap.size (.slice (some ⟨w.heap.size, 0, none⟩) 1 1) [x] :=
  ⟨0, 1, #[x], rfl, heap_alloc_new w _, by simp, by simp [maxLen], by simp, fun j u hj => by
    match j, hj with
    | 0, hj => simpa using hj⟩
/-- the last n elements -/
theorem SlAt.tail {w : World} {e : TypeId} {g off n cap : Nat} {l : List Value} (h : SlAt w e g (.slice (some ⟨g, off, none⟩) n cap) l) (k : Nat) (hk : k < l.length) : SlAt w e g (.slice (some ⟨g, off + k, none⟩) (n - k) (cap - k)) (l.drop k) := by
  obtain ⟨off', cap', cur, hv, hg, h1, h2, h3, hc⟩ := h
  injection hv with e1 e2 e3
  injection e1 with e1
  injection e1 with _ e1
  subst e1 e2 e3
  refine ⟨off + k, cap - k, cur, by simp, hg, by simp; omega, by omega, by omega, fun j u hj => ?_⟩
  rw [List.getElem?_drop] at hj
  rw [Nat.add_assoc]
  exact hc _ u hj
/-- 'v = append(v, x)' -/
theorem wpList_append_sl {P : Program} (w : World) {ops : Array Oper} {rest : List Oper} {o : Oper} {a : Act} {Q : Exit → Act → World → Prop}
    (hg : o.guard = none) (s x : Operand) (t : TypeId) (hop : o.op = Op.call { callee := Callee.builtin Builtin.append, args := #[s, x], argTypes := #[t, t] })
    (e : TypeId) (i : TypeInfo) (z : Value) (bytes : Nat) (h1 : P.underlying t = some (.slice e)) (h2 : P.info? e = some i) (h3 : i.zero = some z) (h4 : i.size = 1) (h5 : i.bytes = bytes) (h6 : z.cells.size = 1)
    (g : Nat) (v : Value) (l : List Value) (hs : a.eval s = v) (hown : SlAt w e g v l)
    (u : Value) (hu : u.oneCell' = true) (hx : a.eval x = .slice (some ⟨w.heap.size, 0, none⟩) 1 1)
    (b1 : l.length + 1 ≤ maxLen) (b2 : (l.length + 1) * bytes ≤ 140737488355328)
    (hK : ∀ v' w' g', SlAt w' e g' v' (l ++ [u]) → (w.alloc (.cells #[u] e)).grownBy w' (some g) → (g' = g ∨ w.heap.size < g') → wpList P ops Q rest (a.put o.dst v') w') :
    wpList P ops Q (o :: rest) a (w.alloc (.cells #[u] e)) := by
  have hlt := hown.lt
  obtain ⟨off, cap, cur, rfl, hgg, hc1, hc2, hc3, hcc⟩ := hown
  have hgg' : (w.alloc (.cells #[u] e)).heap[g]? = some (.cells cur e (0, 0)) := (Below.heap_alloc w _ g hlt).trans hgg
  refine wpList_append_arg (w.alloc (.cells #[u] e)) hg s x t hop e i z 1 bytes h1 h2 h3 h4 h5 h6 (by omega) g off l.length cap l hs (by omega) ?_ ⟨w.heap.size, 0, none⟩ 1 1 [u] hx rfl ?_ (by simpa using hu) ?_ b1 b2 ?_ ?_
  · intro j q hq
    rw [cell_of_row _ g (off + j) cur e (0, 0) hgg']
    exact hcc j q hq
  · exact World.news_of_block (cs := #[u]) (heap_alloc_new w _)
  · intro hr j hj
    have hj0 : j = 0 := by simpa using hj
    subst hj0
    rw [cell_of_row _ g _ cur e (0, 0) hgg', frozen_of_row _ g _ cur e hgg']
    refine ⟨?_, rfl⟩
    rw [Array.getElem?_eq_getElem (by omega)]
    rfl
  · intro hr
    refine hK _ _ g ⟨off, cap, cur.setIfInBounds (off + l.length * 1) u, by simp, heap_setCell_same _ g _ cur e u hgg', by simp; omega, hc2, by simpa using hc3, ?_⟩ ?_ (.inl rfl)
    · intro j q hq
      rw [Nat.mul_one]
      by_cases hjl : j < l.length
      · rw [List.getElem?_append_left hjl] at hq
        rw [Array.getElem?_setIfInBounds_ne (by omega)]
        exact hcc j q hq
      · have : j < (l ++ [u]).length := (List.getElem?_eq_some_iff.1 hq).1
        have hj : j = l.length := by simp at this; omega
        subst hj
        have : u = q := by simpa using hq
        subst this
        rw [Array.getElem?_setIfInBounds_self_of_lt (by omega)]
    · exact ⟨rfl, rfl, rfl, by simp [World.setCells, World.setCell], fun k _ hk => heap_setCell_other _ ⟨g, off + l.length * 1, none⟩ k u (fun e => hk (by simp [e]))⟩
  · intro hr v' w' hown' hgrow
    obtain ⟨g', cap', hv', hb', hlt'⟩ := hown'.form (by omega)
    refine hK v' w' g' ?_ ⟨hgrow.os, hgrow.tape, hgrow.output, hgrow.size, fun k hk _ => hgrow.block k hk (by simp)⟩ (.inr (by simp at hb'; omega))
    rcases hown'.2 with ⟨_, h0⟩ | ⟨g2, cap2, cur2, hv2, _, hg2, hn2, hm2, hs2, ht2⟩
    · omega
    · rw [hv'] at hv2
      injection hv2 with e1 e2 e3
      injection e1 with e1
      injection e1 with e1
      subst e1 e3
      refine ⟨0, cap', cur2, by rw [hv']; simp, hg2, by simpa using hn2, hm2, by omega, fun j q hq => ?_⟩
      rw [← ht2, List.getElem?_take] at hq
      split at hq
      · rw [Nat.zero_add]; simpa using hq
      · cases hq
end Go.Proofs.Ytbjiliodelndcaa
