/-
  Plain laws of no statement: a map by whole numbers that lies in memory, as a function: what is looked up, stored, deleted. Under any program. No conditions but those typed.
-/
import Derived.Test.YtbjiliodelndcaaOwn
import Derived.MapKept
import Derived.Maps.Own
import Derived.Maps.RangeWalk
namespace Go.Proofs.Ytbjiliodelndcaa
open Go.RowKit Go.MapKept
/-- block b is a map whose entries are those of f -/
def IMap (w : World) (b n : Nat) (f : Int → Option Value) : Prop :=
  ∃ es clock, w.heap[b]? = some (.map es clock) ∧ es.size ≤ n ∧ Stamped es clock ∧ (∀ x ∈ es.toList, ∃ k, x.key = .int .i64 k ∧ f k = some x.val) ∧ (∀ k v, f k = some v → ∃ x ∈ es.toList, x.key = .int .i64 k ∧ x.val = v)
def mapPut (f : Int → Option Value) (k : Int) (v : Value) : Int → Option Value := fun j => if j = k then some v else f j
def mapDrop (f : Int → Option Value) (k : Int) : Int → Option Value := fun j => if j = k then none else f j
theorem IMap.lt {w : World} {b n : Nat} {f : Int → Option Value} (h : IMap w b n f) : b < w.heap.size := by
  obtain ⟨_, _, hb, _⟩ := h
  exact (Array.getElem?_eq_some_iff.1 hb).1
theorem IMap.touch {w w' : World} {b n : Nat} {f : Int → Option Value} {S : List Nat} (h : IMap w b n f) (hT : Touch S w w') (hS : b ∉ S) : IMap w' b n f := by
  have hlt := h.lt
  obtain ⟨es, clock, hb, rest⟩ := h
  exact ⟨es, clock, (hT.block b hlt hS).trans hb, rest⟩
theorem IMap.drew {w : World} {b n : Nat} {f : Int → Option Value} (h : IMap w b n f) : IMap w.drew b n f := h
theorem IMap.made (w : World) : IMap (w.alloc (.map #[] 0)) w.heap.size 0 (fun _ => none) :=
  ⟨#[], 0, (MapKept.heap_alloc w _).1, by simp, stamped_empty 0, by simp, by simp⟩
section
variable {P : Program} {w : World} {b n : Nat} {f : Int → Option Value} {t kt e : TypeId}
theorem key_of {es : Array MapEntry} (hk : ∀ x ∈ es.toList, ∃ k, x.key = .int .i64 k ∧ f k = some x.val) : ∀ x ∈ es.toList, IsKey (.int .i64) x.key := by
  intro x hx
  obtain ⟨k, hk, _⟩ := hk x hx
  rw [hk]
  exact rfl
theorem IMap.find (h : IMap w b n f) (k : Int) : ∃ es clock, w.heap[b]? = some (.map es clock) ∧ es.size ≤ n ∧ Stamped es clock ∧ (∀ x ∈ es.toList, ∃ k, x.key = .int .i64 k ∧ f k = some x.val) ∧ (∀ k v, f k = some v → ∃ x ∈ es.toList, x.key = .int .i64 k ∧ x.val = v) ∧
    ((Instr.findNow (.int .i64) (.int .i64 k) es.toList 0 = some none ∧ f k = none ∧ ∀ x ∈ es.toList, x.key ≠ .int .i64 k) ∨
     ∃ j x, Instr.findNow (.int .i64) (.int .i64 k) es.toList 0 = some (some (j, x.val)) ∧ es.toList[j]? = some x ∧ x.key = .int .i64 k ∧ f k = some x.val) := by
  obtain ⟨es, clock, hb, hsz, hs, h1, h2⟩ := h
  refine ⟨es, clock, hb, hsz, hs, h1, h2, ?_⟩
  rcases findNow_spec (d := .int .i64) (k := .int .i64 k) rfl es.toList 0 (key_of h1) with ⟨h3, h4⟩ | ⟨j, x, h3, h4, h5⟩
  · left
    refine ⟨h3, ?_, h4⟩
    cases hf : f k with
    | none => rfl
    | some v =>
      obtain ⟨x, hx, hxk, _⟩ := h2 k v hf
      exact absurd hxk (h4 x hx)
  · right
    refine ⟨j, x, by simpa using h3, h4, h5, ?_⟩
    obtain ⟨k', hk', hf⟩ := h1 x (List.mem_of_getElem? h4)
    rw [h5] at hk'
    injection hk' with _ hk'
    rw [hk']
    exact hf
/-- 'm[k]' -/
theorem IMap.lookup (h : IMap w b n f) (ht : P.underlying t = some (.map kt e)) (hkt : P.underlying kt = some (.int .i64)) {z : Value} (hz : (zeroValue e).run P w = .ok z w) (k : Int) :
    (Instr.lookup t (.map (some b)) (.int .i64 k) false).run P w = .ok ((f k).getD z) w := by
  obtain ⟨es, clock, hb, hsz, hs, h1, h2, h3⟩ := h.find k
  have hck := fun n => MapKept.run_checkKey (P := P) (w := w) (k := .int .i64 k) hkt rfl es.isEmpty n
  rcases h3 with ⟨h3, h4, _⟩ | ⟨j, x, h3, _, _, h4⟩
  · simp [Instr.lookup, run_underlying ht, MapKept.run_getObj_map hb, hck, MapKept.run_findKey hkt h3, hz, h4, Result.andThen]
  · simp [Instr.lookup, run_underlying ht, MapKept.run_getObj_map hb, hck, MapKept.run_findKey hkt h3, h4, Result.andThen]
/-- 'v, ok := m[k]' -/
theorem IMap.lookup_ok (h : IMap w b n f) (ht : P.underlying t = some (.map kt e)) (hkt : P.underlying kt = some (.int .i64)) {z : Value} (hz : (zeroValue e).run P w = .ok z w) (k : Int) :
    (Instr.lookup t (.map (some b)) (.int .i64 k) true).run P w = .ok (.tuple #[(f k).getD z, .bool (f k).isSome]) w := by
  obtain ⟨es, clock, hb, hsz, hs, h1, h2, h3⟩ := h.find k
  have hck := fun n => MapKept.run_checkKey (P := P) (w := w) (k := .int .i64 k) hkt rfl es.isEmpty n
  rcases h3 with ⟨h3, h4, _⟩ | ⟨j, x, h3, _, _, h4⟩
  · simp [Instr.lookup, run_underlying ht, MapKept.run_getObj_map hb, hck, MapKept.run_findKey hkt h3, hz, h4, Result.andThen]
  · simp [Instr.lookup, run_underlying ht, MapKept.run_getObj_map hb, hck, MapKept.run_findKey hkt h3, h4, Result.andThen]
/-- 'm[k] = v' -/
theorem IMap.update (h : IMap w b n f) (ht : P.underlying t = some (.map kt e)) (hkt : P.underlying kt = some (.int .i64)) (k : Int) (v : Value) :
    ∃ w', (Instr.mapUpdate t (.map (some b)) (.int .i64 k) v).run P w = .ok () w' ∧ IMap w' b (n + 1) (mapPut f k v) ∧ w.grownBy w' (some b) := by
  obtain ⟨es, clock, hb, hsz, hs, h1, h2, h3⟩ := h.find k
  have hck := fun n => MapKept.run_checkKey (P := P) (w := w) (k := .int .i64 k) hkt rfl false n
  have hgr : ∀ o, w.grownBy { w with heap := w.heap.setIfInBounds b o } (some b) := fun o => ⟨rfl, rfl, rfl, by simp, fun r _ hne => (heap_set (o' := o) hb).2 r (fun e => hne (by rw [e]))⟩
  rcases h3 with ⟨h3, h4, h5⟩ | ⟨j, x, h3, h4, h5, h6⟩
  · refine ⟨_, by simp [Instr.mapUpdate, run_underlying ht, MapKept.run_getObj_map hb, hck, MapKept.run_findKey hkt h3, MapKept.run_setObj_map _ hb, Result.andThen], ⟨es.push { key := .int .i64 k, val := v, born := clock }, clock + 1, (heap_set hb).1, by simp; omega, stamped_push hs h5, ?_, ?_⟩, hgr _⟩
    · intro x hx
      simp only [Array.toList_push, List.mem_append, List.mem_singleton] at hx
      rcases hx with hx | rfl
      · obtain ⟨k', hk', hf⟩ := h1 x hx
        refine ⟨k', hk', ?_⟩
        unfold mapPut
        rw [if_neg (fun e => h5 x hx (by rw [hk', e]))]
        exact hf
      · exact ⟨k, rfl, by unfold mapPut; rw [if_pos rfl]⟩
    · intro k' v' hf
      unfold mapPut at hf
      split at hf
      · rename_i hk
        injection hf with hf
        exact ⟨{ key := .int .i64 k, val := v, born := clock }, by simp, by rw [hk], hf⟩
      · obtain ⟨x, hx, hxk, hxv⟩ := h2 k' v' hf
        exact ⟨x, by simp [hx], hxk, hxv⟩
  · have hj : es[j]? = some x := by simpa using h4
    have hkey : ∀ e', es[j]? = some e' → ({ e' with key := .int .i64 k, val := v } : MapEntry).key = e'.key := fun e' he' => by rw [hj] at he'; cases he'; exact h5.symm
    refine ⟨_, by simp [Instr.mapUpdate, run_underlying ht, MapKept.run_getObj_map hb, hck, MapKept.run_findKey hkt h3, hj, h5, MapKept.run_keyThatStays (d := .int .i64) (k := .int .i64 k) rfl, MapKept.run_setObj_map _ hb, Result.andThen], ⟨es.modify j (fun e => { e with key := .int .i64 k, val := v }), clock, (heap_set hb).1, by simp; omega, stamped_modify hs j (fun e => { e with key := .int .i64 k, val := v }) (fun _ _ => rfl) (fun e' _ he' => hkey e' he'), ?_, ?_⟩, hgr _⟩
    · intro y hy
      obtain ⟨i, hi⟩ := List.mem_iff_getElem?.1 hy
      rw [Array.getElem?_toList, Array.getElem?_modify] at hi
      split at hi
      · rename_i hij
        subst hij
        rw [hj] at hi
        injection hi with hi
        subst hi
        exact ⟨k, rfl, by unfold mapPut; rw [if_pos rfl]⟩
      · rename_i hij
        have hym : y ∈ es.toList := List.mem_of_getElem? (by rw [Array.getElem?_toList]; exact hi)
        obtain ⟨k', hk', hf⟩ := h1 y hym
        refine ⟨k', hk', ?_⟩
        unfold mapPut
        rw [if_neg ?_]
        · exact hf
        · intro e
          subst e
          have hnd := hs.2.2
          have e1 : (es.toList.map (·.key))[i]? = some (.int .i64 k') := by rw [List.getElem?_map, Array.getElem?_toList, hi]; simp [hk']
          have e2 : (es.toList.map (·.key))[j]? = some (.int .i64 k') := by rw [List.getElem?_map, Array.getElem?_toList, hj]; simp [h5]
          have hil : i < (es.toList.map (·.key)).length := (List.getElem?_eq_some_iff.1 e1).1
          exact hij ((List.getElem?_inj hil hnd).1 (e1.trans e2.symm)).symm
    · intro k' v' hf
      unfold mapPut at hf
      split at hf
      · rename_i hk
        injection hf with hf
        subst hf hk
        exact ⟨{ x with key := .int .i64 k', val := v }, List.mem_iff_getElem?.2 ⟨j, by rw [Array.getElem?_toList, Array.getElem?_modify, if_pos rfl, hj]; rfl⟩, rfl, rfl⟩
      · rename_i hk
        obtain ⟨y, hy, hyk, hyv⟩ := h2 k' v' hf
        obtain ⟨i, hi⟩ := List.mem_iff_getElem?.1 hy
        have hij : j ≠ i := by
          intro e
          subst e
          rw [h4] at hi
          injection hi with hi
          subst hi
          rw [h5] at hyk
          injection hyk with _ hyk
          exact hk hyk.symm
        exact ⟨y, List.mem_iff_getElem?.2 ⟨i, by rw [Array.getElem?_toList, Array.getElem?_modify, if_neg hij, ← Array.getElem?_toList]; exact hi⟩, hyk, hyv⟩
/-- an element, read as itself -/
def heldR (v : Value) : Option (DataW Value × List MemPlace) := some (.held v, [])
theorem IMap.owns (h : IMap w b n f) (hkt : P.underlying kt = some (.int .i64)) (hn : n ≤ maxLen) (hwf : ∀ k v, f k = some v → (Lit.int .i64 k).wf = true) :
    ∃ D : DataW Value, w.ownsMap P kt heldR b n D ∧ (∀ k v, (Lit.int .i64 k).wf = true → (∀ zd, D.atKey (.int .i64 k) zd = .held v) → f k = some v) ∧ (∀ k v, f k = some v → Maps.has D (.int .i64 k) = true) ∧ (∀ k, Maps.has D (.int .i64 k) = true → ∃ v, f k = some v) := by
  obtain ⟨es, clock, hb, hsz, hs, h1, h2⟩ := h
  have hrd : ∀ x ∈ es.toList, ∃ k, x.key = .int .i64 k ∧ f k = some x.val ∧ Go.WideElems.rd P kt heldR x = some (.int .i64 k, .held x.val) := by
    intro x hx
    obtain ⟨k, hk, hf⟩ := h1 x hx
    refine ⟨k, hk, hf, ?_⟩
    unfold Go.WideElems.rd
    rw [hk, Maps.keyOf_int_mk hkt (hwf k _ hf)]
    rfl
  have hrg : ∀ x ∈ es.toList, ∃ k, x.key = .int .i64 k ∧ f k = some x.val ∧ Go.WideElems.rg P kt heldR x = (.int .i64 k, .held x.val) := by
    intro x hx
    obtain ⟨k, hk, hf, hr⟩ := hrd x hx
    exact ⟨k, hk, hf, by unfold Go.WideElems.rg; rw [hr]; rfl⟩
  have F : Go.WideElems.Fit P kt heldR es clock := ⟨Nat.le_trans hsz hn, hs, fun x hx => by
    obtain ⟨k, _, _, hr⟩ := hrd x hx
    exact ⟨_, hr⟩⟩
  have K := Maps.int_keyed hkt
  refine ⟨_, ⟨es, clock, hb, F, hsz, rfl⟩, ?_, ?_, ?_⟩
  · intro k v hw hat
    have hs2 := Go.WideShapes.atKey_sorted (es.toList.map (Go.WideElems.rg P kt heldR)) (Maps.fit_rising K F) (.int .i64 k) (K.key (Maps.keyOf_int_mk hkt hw))
    cases hf : f k with
    | none =>
      have := hs2.1 (fun p hp => by
        obtain ⟨x, hx, rfl⟩ := List.mem_map.1 hp
        obtain ⟨k', _, hf', hr⟩ := hrg x hx
        rw [hr]
        intro e
        injection e with _ e
        subst e
        rw [hf] at hf'
        cases hf') .nil
      rw [hat .nil] at this
      cases this
    | some v' =>
      obtain ⟨x, hx, hxk, hxv⟩ := h2 k v' hf
      obtain ⟨k', hk', hf', hr⟩ := hrg x hx
      rw [hxk] at hk'
      injection hk' with _ hk'
      subst hk'
      have := hs2.2 _ (List.mem_map.2 ⟨x, hx, rfl⟩) (by rw [hr]) .nil
      rw [hat .nil, hr] at this
      injection this with this
      rw [this, ← hxv]
  · intro k v hf
    obtain ⟨x, hx, hxk, hxv⟩ := h2 k v hf
    obtain ⟨k', hk', hf', hr⟩ := hrg x hx
    rw [hxk] at hk'
    injection hk' with _ hk'
    subst hk'
    show ((es.toList.map (Go.WideElems.rg P kt heldR)).foldr DataW.insert []).any (fun p => p.1.sameKey (.int .i64 k)) = true
    rw [List.any_eq_true]
    refine ⟨Go.WideElems.rg P kt heldR x, mem_sorted.2 (List.mem_map.2 ⟨x, hx, rfl⟩), ?_⟩
    rw [hr]
    simp [Lit.sameKey]
  · intro k hk
    have hk : ((es.toList.map (Go.WideElems.rg P kt heldR)).foldr DataW.insert []).any (fun p => p.1.sameKey (.int .i64 k)) = true := hk
    rw [List.any_eq_true] at hk
    obtain ⟨q, hq, hqk⟩ := hk
    obtain ⟨x, hx, rfl⟩ := List.mem_map.1 (mem_sorted.1 hq)
    obtain ⟨k', _, hf', hr⟩ := hrg x hx
    rw [hr] at hqk
    have : k' = k := by simpa [Lit.sameKey] using hqk
    exact ⟨x.val, this ▸ hf'⟩
end
end Go.Proofs.Ytbjiliodelndcaa
