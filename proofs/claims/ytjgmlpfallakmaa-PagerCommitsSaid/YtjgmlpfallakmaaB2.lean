/-
  Contracts of the program's dev.sectorOf and sector.text: a sector's bytes as an array by value. No conditions but those typed.
  Plain laws of no statement: a map by whole numbers that lies in memory, as a function: what is looked up, stored, deleted. Under any program. No conditions but those typed.
  How the program's device lies in memory (sectors as arrays by value, what waits in a map of slices of them), and the calls that write its head alone. No conditions but those typed.
  Contracts of the program's device: what reads its head or writes its head alone. No conditions but those typed.
  Plain laws of no statement: what may last of a sector (chapter 3, P3.4): what lasts of it, and what its writes that wait wrote. No conditions but those typed.
  Contracts of the program's device: of one that isn't there; Waits, Lasts, Read. No conditions but those typed.
  What the program's dev.Write leaves, behind the append and the map's store. No conditions but those typed.
  Plain laws of no statement: a region that draws its order, operation by operation: the i-th is taken first, or stepped over. Under any program. No conditions but those typed.
  Plain laws of no statement: a region that draws its order: one operation is next, or one of two. Under any program. No conditions but those typed.
  A slice literal of one sector: what '[]sector{x}' makes. No conditions but those typed.
  Plain laws of no statement: a region that draws its order, whose head holds calls that write, and whose tail only reads and calls quietly: the head step by step under a condition on the world, the tail in one walk. Under any program. No conditions but those typed.
  Contract of the program's dev.Write. No conditions but those typed.
  Contracts of the program's dev.New and Dev.keep. No conditions but those typed.
  Contract of the program's dev.keep. No conditions but those typed.
  Contract of the program's dev.Sync: a range over the map of what waits. No conditions but those typed.
  The library's functions slices.Sorted, maps.Keys and slices.Sort, as they stand in this program, are those of which the library's contracts speak: tables of numbers and facts by the kernel's comparison. No conditions.
  Contracts of the library's maps.Keys and slices.Sorted, as this program calls them: the keys of a map by whole numbers, sorted, in a new slice. No conditions but those typed.
  The program's dev.Start, its plain part: the sectors that wait in their order, and what of each lasts; contracts of pickOf and picked. No conditions but those typed.
  Contract of the program's dev.Start. No conditions but those typed.
-/
import Derived.Test.YtjgmlpfallakmaaB1
import Derived.Deep.MidRow
import Derived.Deep.WholeRow
import Derived.Lib.BufferWrite
import Derived.Lib.SlBuf
import Derived.MapKept
import Derived.Maps.Own
import Derived.Maps.RangeWalk
import Derived.Deep.RegionHeld3
import Derived.Deep.RegionLaw
import Derived.Deep.DrawnRows
import Derived.Outline
import Derived.Deep.QuietTactic
import Derived.BigQuiet
import Derived.Deep.CutRange
import Derived.Deep.DeepCutAuto
import Derived.Shelf.SlIterI.Nil
import Derived.Shelf.SortM.Plain
import Derived.Shelf.SortM.SortNone
import Derived.Test.YtjgmlpfallakmaaRows
import Derived.WalkKit
import Derived.Lib.SlKeysI
section
namespace Go.Proofs.Ytjgmlpfallakmaa
open Go.RowKit
attribute [local go_sem ↓] Go.wp_at_zero Go.wp_at_succ
/-- a sector's cells -/
def sbytes (s : ByteArray) : List Value := bv s.data.toList
theorem sbytes_length (s : ByteArray) : (sbytes s).length = s.size := by unfold sbytes; rw [bv_length, Array.length_toList]; rfl
theorem sbytes_one (s : ByteArray) : ∀ u ∈ sbytes s, u.oneCell' = true := bv_one _
def sagg (s : ByteArray) : Value := .agg (sbytes s).toArray
/-- 'string(b)' of a slice whose block bears another type's mark -/
theorem run_string_marked {P : Program} (w : World) (src dst e : TypeId) (hs : P.underlying src = some (.slice e)) (he : P.underlying e = some (.int .u8)) (hd : P.underlying dst = some .string)
    (g n cap : Nat) (l : List UInt8) (hn : n = l.length) (hc : ∀ j u, (bv l)[j]? = some u → w.cell? ⟨g, j, none⟩ = some u) : (convert src dst (.slice (some ⟨g, 0, none⟩) n cap)).run P w = .ok (.string ⟨l.toArray⟩) w := by
  subst hn
  have hadd : ∀ j, (⟨g, 0, none⟩ : Addr).add j = ⟨g, j, none⟩ := fun j => by unfold Addr.add; split <;> simp_all
  have hl : (loadCells ⟨g, 0, none⟩ l.length).run P w = .ok ((l.map fun b => (b.toNat : Int)).map (Value.int .u8)).toArray w := by
    have := run_loadCells_list (P := P) w ⟨g, 0, none⟩ (bv l) (fun j u hj => by rw [hadd]; exact hc j u hj)
    rw [bv_length] at this
    simpa [bv, Function.comp_def] using this
  rw [run_convert_bytes_string w src dst e _ l.length cap hs he hd, run_bytesToString w _ l.length cap _ hl, foldl_push_bytes]
  have : (l.map fun b => (b.toNat : Int)).map (fun n => UInt8.ofNat n.toNat) = l := by
    rw [List.map_map]
    conv => rhs; rw [← List.map_id l]
    apply List.map_congr_left
    intro b _
    simp
  rw [this]
  simp [ByteArray.empty, ByteArray.emptyWithCapacity]
  rfl
section
variable {P : Program} {w w' : World} {ops : Array Oper} {rest : List Oper} {op : Oper} {a : Act} {Q : Exit → Act → World → Prop}
/-- a load, where its run is known by an equation -/
theorem wpList_load_run (hgd : op.guard = none) (ty : TypeId) (x : Operand) (ho : op.op = .load ty x) {p v : Value} (hx : a.eval x = p) (hr : (Instr.loadAt ty p).run P w = .ok v w)
    (h : wpList P ops Q rest (a.put op.dst v) w) : wpList P ops Q (op :: rest) a w :=
  wpList_plain hgd fun _ hK => by
    unfold Oper.wp execOp
    simp only [ho, hx, hr, Sem.run_bind, Result.andThen_ok, Sem.run_pure]
    exact hK _ _ h
/-- a store, where its run is known by an equation -/
theorem wpList_store_run (hgd : op.guard = none) (ty : TypeId) (x y : Operand) (ho : op.op = .store ty x y) {p v : Value} (hx : a.eval x = p) (hy : a.eval y = v) (hr : (Instr.storeAt ty p v).run P w = .ok () w')
    (h : wpList P ops Q rest (a.put op.dst undef) w') : wpList P ops Q (op :: rest) a w :=
  wpList_plain hgd fun _ hK => by
    unfold Oper.wp execOp
    simp only [ho, hx, hy, hr, Sem.run_bind, Result.andThen_ok, Sem.run_pure]
    exact hK _ _ h
end
set_option maxRecDepth 100000 in
theorem text34 (s : ByteArray) (hs : s.size = 128) (w : World) : Calls Try.prog 43 #[sagg s] w fun e w' => e = .returned (.string s) ∧ Below w.heap.size w w' := by
  obtain ⟨C, hC⟩ : ∃ C, (sbytes s).toArray = C := ⟨_, rfl⟩
  have hst := run_string_marked (P := Try.prog) (w.alloc (.cells C 82)) 93 9 5 Try.underlying93 Try.underlying5 Try.underlying9 w.heap.size 128 128 s.data.toList (by rw [← hs]; simp) (fun j u hu => by
    rw [cell_of_row _ _ j C 82 (0, 0) (heap_alloc_new w _), ← hC]
    simpa [sbytes] using hu)
  rw [str_data] at hst
  unfold sagg
  rw [hC]
  go_enter Try.func43, Try.ntmps43
  go_wp2
  go_ret
  exact ⟨rfl, (Below.refl _ w).alloc (Nat.le_refl _) _⟩
theorem info62 : (Try.prog.info? 82).map (fun i => (i.zero, i.size)) = some (some (.agg (Array.replicate 128 (.int .u8 0))), 128) := by kernel_rfl
theorem size62 : (Try.prog.info? 82).map (·.size) = some 128 := (zero_of_info info62).2
theorem zero62 (w : World) : (zeroValue 82).run Try.prog w = .ok (.agg (Array.replicate 128 (.int .u8 0))) w := (zero_of_info info62).1 w
set_option maxRecDepth 100000 in
set_option maxHeartbeats 800000 in
theorem sectorOf42 (s : ByteArray) (hs : s.size = 128) (w : World) : Calls Try.prog 42 #[.string s] w fun e w' => e = .returned (sagg s) ∧ Below w.heap.size w w' := by
  obtain ⟨Z, hZ⟩ : ∃ Z : Array Value, Array.replicate 128 (.int .u8 0) = Z := ⟨_, rfl⟩
  have hZs : Z.size = 128 := by rw [← hZ]; simp
  have hz : ∀ w, (zeroValue 82).run Try.prog w = .ok (.agg Z) w := fun w => by rw [zero62, hZ]
  obtain ⟨C, hC⟩ : ∃ C, (sbytes s).toArray = C := ⟨_, rfl⟩
  have hCs : C.size = 128 := by rw [← hC, List.size_toArray, sbytes_length, hs]
  have hC1 : C.all (·.oneCell') = true := by rw [← hC]; exact all_oneCell_toArray (sbytes_one s)
  have w2s : ((w.alloc (.cells Z 82)).alloc (.cells Z 82)).heap[(w.alloc (.cells Z 82)).heap.size]? = some (.cells Z 82 (0, 0)) := heap_alloc_new _ _
  have hcp := fun ty => Lib.run_copy_row_string (P := Try.prog) ((w.alloc (.cells Z 82)).alloc (.cells Z 82)) 93 9 ty 5 (w.heap.size + 1) 0 128 128 s Z 82 Try.underlying93 (by kernel_rfl) (by simpa using w2s) (by omega) (by omega)
  have hX : (Z.toList.take 0 ++ Lib.byteCells s.data.toList ++ Z.toList.drop (0 + s.size)).toArray = C := by
    rw [← hC, List.drop_eq_nil_of_le (by simp; omega)]
    simp [sbytes, bv, Lib.byteCells]
  have hw2 : ((w.alloc (.cells Z 82)).alloc (.cells Z 82)).setRow (w.heap.size + 1) C = (w.alloc (.cells Z 82)).alloc (.cells C 82) := by
    have := World.setRow_alloc_new (w.alloc (.cells Z 82)) Z C 82
    simpa using this
  simp only [hX, hw2] at hcp
  have hs1 : (w.alloc (.cells Z 82)).heap.size = w.heap.size + 1 := by simp
  have hld := run_loadAt_new (P := Try.prog) (w.alloc (.cells Z 82)) 82 C 128 5 Try.underlying82 (by rw [size62, hCs])
  rw [hs1] at hld
  have hb0 : ((w.alloc (.cells Z 82)).alloc (.cells C 82)).heap[w.heap.size]? = some (.cells Z 82 (0, 0)) := (Below.heap_alloc _ _ _ (by simp)).trans (heap_alloc_new w _)
  have hst0 := run_storeVar_row (P := Try.prog) _ w.heap.size 82 82 Z C hb0 (by rw [size62, hCs]) (by omega) hC1
  obtain ⟨w4, hw4⟩ : ∃ w4, ((w.alloc (.cells Z 82)).alloc (.cells C 82)).setRow w.heap.size C = w4 := ⟨_, rfl⟩
  rw [hw4] at hst0
  have hst : (storeCells ⟨w.heap.size, 0, none⟩ C.toList).run Try.prog ((w.alloc (.cells Z 82)).alloc (.cells C 82)) = .ok () w4 := by
    obtain ⟨i, hi, hs⟩ : ∃ i, Try.prog.info? 82 = some i ∧ i.size = 128 := by
      cases hq : Try.prog.info? 82 with
      | none => have := size62; rw [hq] at this; cases this
      | some i => have := size62; rw [hq] at this; exact ⟨i, rfl, by simpa using this⟩
    simpa [storeVar, sizeOf, typeInfo, hi, Value.cells, hs, hCs] using hst0
  have hbl : w4.heap[w.heap.size]? = some (.cells C 82 (0, 0)) := by rw [← hw4]; exact setRow_heap _ _ _ _ _ _ hb0
  have hbel : Below w.heap.size w w4 := by
    rw [← hw4]
    refine (((Below.refl _ w).alloc (Nat.le_refl _) (.cells Z 82)).alloc (by simp) (.cells C 82)).trans ⟨rfl, rfl, rfl, by simp, fun k hk => setRow_other _ _ _ _ (by omega)⟩
  have HC : Hid (Value.agg C = sagg s) := Lib.hid (by rw [← hC]; rfl)
  clear hX hw2 w2s hZ hC hst0 hb0 hw4 hs1 hC1
  go_enter Try.func42, Try.ntmps42
  go_wp2_with (refine wpList_load_run rfl 82 _ rfl (p := .pointer (some ⟨w.heap.size + 1, 0, none⟩)) (v := .agg C) (by rfl) hld ?_)
  exact bodyPost_ret (v := .agg C) (results_cell_row rfl _ _ _ _ _ _ _ rfl hbl Try.underlying82 rfl (by rw [size62, hCs])) rfl ⟨HC.out ▸ rfl, hbel⟩
end Go.Proofs.Ytjgmlpfallakmaa
end
section
namespace Go.Proofs.Ytjgmlpfallakmaa
open Go.RowKit Go.MapKept
/-- block b is a map whose entries are those of f -/
def IMap (w : World) (b n : Nat) (f : Int → Option Value) : Prop :=
  ∃ es clock, w.heap[b]? = some (.map es clock) ∧ es.size ≤ n ∧ Stamped es clock ∧ (∀ x ∈ es.toList, ∃ k, x.key = .int .i64 k ∧ f k = some x.val) ∧ (∀ k v, f k = some v → ∃ x ∈ es.toList, x.key = .int .i64 k ∧ x.val = v)
def mapPut (f : Int → Option Value) (k : Int) (v : Value) : Int → Option Value := fun j => if j = k then some v else f j
def mapDrop (f : Int → Option Value) (k : Int) : Int → Option Value := fun j => if j = k then none else f j
theorem IMap.lt {w : World} {b n : Nat} {f : Int → Option Value} (h : IMap w b n f) : b < w.heap.size := by
  obtain ⟨_, _, hb, _⟩ := h
  exact (Array.getElem?_eq_some_iff.1 hb).1
theorem IMap.touch {w w' : World} {b n : Nat} {f : Int → Option Value} {S : List Nat} (h : IMap w b n f) (hT : Touch S w w') (hS : b ∉ S) : IMap w' b n f := by
  have hlt := h.lt
  obtain ⟨es, clock, hb, rest⟩ := h
  exact ⟨es, clock, (hT.block b hlt hS).trans hb, rest⟩
theorem IMap.drew {w : World} {b n : Nat} {f : Int → Option Value} (h : IMap w b n f) : IMap w.drew b n f := h
theorem IMap.made (w : World) : IMap (w.alloc (.map #[] 0)) w.heap.size 0 (fun _ => none) :=
  ⟨#[], 0, (MapKept.heap_alloc w _).1, by simp, stamped_empty 0, by simp, by simp⟩
section
variable {P : Program} {w : World} {b n : Nat} {f : Int → Option Value} {t kt e : TypeId}
theorem key_of {es : Array MapEntry} (hk : ∀ x ∈ es.toList, ∃ k, x.key = .int .i64 k ∧ f k = some x.val) : ∀ x ∈ es.toList, IsKey (.int .i64) x.key := by
  intro x hx
  obtain ⟨k, hk, _⟩ := hk x hx
  rw [hk]
  exact rfl
theorem IMap.find (h : IMap w b n f) (k : Int) : ∃ es clock, w.heap[b]? = some (.map es clock) ∧ es.size ≤ n ∧ Stamped es clock ∧ (∀ x ∈ es.toList, ∃ k, x.key = .int .i64 k ∧ f k = some x.val) ∧ (∀ k v, f k = some v → ∃ x ∈ es.toList, x.key = .int .i64 k ∧ x.val = v) ∧
    ((Instr.findNow (.int .i64) (.int .i64 k) es.toList 0 = some none ∧ f k = none ∧ ∀ x ∈ es.toList, x.key ≠ .int .i64 k) ∨
     ∃ j x, Instr.findNow (.int .i64) (.int .i64 k) es.toList 0 = some (some (j, x.val)) ∧ es.toList[j]? = some x ∧ x.key = .int .i64 k ∧ f k = some x.val) := by
  obtain ⟨es, clock, hb, hsz, hs, h1, h2⟩ := h
  refine ⟨es, clock, hb, hsz, hs, h1, h2, ?_⟩
  rcases findNow_spec (d := .int .i64) (k := .int .i64 k) rfl es.toList 0 (key_of h1) with ⟨h3, h4⟩ | ⟨j, x, h3, h4, h5⟩
  · left
    refine ⟨h3, ?_, h4⟩
    cases hf : f k with
    | none => rfl
    | some v =>
      obtain ⟨x, hx, hxk, _⟩ := h2 k v hf
      exact absurd hxk (h4 x hx)
  · right
    refine ⟨j, x, by simpa using h3, h4, h5, ?_⟩
    obtain ⟨k', hk', hf⟩ := h1 x (List.mem_of_getElem? h4)
    rw [h5] at hk'
    injection hk' with _ hk'
    rw [hk']
    exact hf
/-- 'm[k]' -/
theorem IMap.lookup (h : IMap w b n f) (ht : P.underlying t = some (.map kt e)) (hkt : P.underlying kt = some (.int .i64)) {z : Value} (hz : (zeroValue e).run P w = .ok z w) (k : Int) :
    (Instr.lookup t (.map (some b)) (.int .i64 k) false).run P w = .ok ((f k).getD z) w := by
  obtain ⟨es, clock, hb, hsz, hs, h1, h2, h3⟩ := h.find k
  have hck := fun n => MapKept.run_checkKey (P := P) (w := w) (k := .int .i64 k) hkt rfl es.isEmpty n
  rcases h3 with ⟨h3, h4, _⟩ | ⟨j, x, h3, _, _, h4⟩
  · simp [Instr.lookup, run_underlying ht, MapKept.run_getObj_map hb, hck, MapKept.run_findKey hkt h3, hz, h4, Result.andThen]
  · simp [Instr.lookup, run_underlying ht, MapKept.run_getObj_map hb, hck, MapKept.run_findKey hkt h3, h4, Result.andThen]
/-- 'v, ok := m[k]' -/
theorem IMap.lookup_ok (h : IMap w b n f) (ht : P.underlying t = some (.map kt e)) (hkt : P.underlying kt = some (.int .i64)) {z : Value} (hz : (zeroValue e).run P w = .ok z w) (k : Int) :
    (Instr.lookup t (.map (some b)) (.int .i64 k) true).run P w = .ok (.tuple #[(f k).getD z, .bool (f k).isSome]) w := by
  obtain ⟨es, clock, hb, hsz, hs, h1, h2, h3⟩ := h.find k
  have hck := fun n => MapKept.run_checkKey (P := P) (w := w) (k := .int .i64 k) hkt rfl es.isEmpty n
  rcases h3 with ⟨h3, h4, _⟩ | ⟨j, x, h3, _, _, h4⟩
  · simp [Instr.lookup, run_underlying ht, MapKept.run_getObj_map hb, hck, MapKept.run_findKey hkt h3, hz, h4, Result.andThen]
  · simp [Instr.lookup, run_underlying ht, MapKept.run_getObj_map hb, hck, MapKept.run_findKey hkt h3, h4, Result.andThen]
/-- 'm[k] = v' -/
theorem IMap.update (h : IMap w b n f) (ht : P.underlying t = some (.map kt e)) (hkt : P.underlying kt = some (.int .i64)) (k : Int) (v : Value) :
    ∃ w', (Instr.mapUpdate t (.map (some b)) (.int .i64 k) v).run P w = .ok () w' ∧ IMap w' b (n + 1) (mapPut f k v) ∧ w.grownBy w' (some b) := by
  obtain ⟨es, clock, hb, hsz, hs, h1, h2, h3⟩ := h.find k
  have hck := fun n => MapKept.run_checkKey (P := P) (w := w) (k := .int .i64 k) hkt rfl false n
  have hgr : ∀ o, w.grownBy { w with heap := w.heap.setIfInBounds b o } (some b) := fun o => ⟨rfl, rfl, rfl, by simp, fun r _ hne => (heap_set (o' := o) hb).2 r (fun e => hne (by rw [e]))⟩
  rcases h3 with ⟨h3, h4, h5⟩ | ⟨j, x, h3, h4, h5, h6⟩
  · refine ⟨_, by simp [Instr.mapUpdate, run_underlying ht, MapKept.run_getObj_map hb, hck, MapKept.run_findKey hkt h3, MapKept.run_setObj_map _ hb, Result.andThen], ⟨es.push { key := .int .i64 k, val := v, born := clock }, clock + 1, (heap_set hb).1, by simp; omega, stamped_push hs h5, ?_, ?_⟩, hgr _⟩
    · intro x hx
      simp only [Array.toList_push, List.mem_append, List.mem_singleton] at hx
      rcases hx with hx | rfl
      · obtain ⟨k', hk', hf⟩ := h1 x hx
        refine ⟨k', hk', ?_⟩
        unfold mapPut
        rw [if_neg (fun e => h5 x hx (by rw [hk', e]))]
        exact hf
      · exact ⟨k, rfl, by unfold mapPut; rw [if_pos rfl]⟩
    · intro k' v' hf
      unfold mapPut at hf
      split at hf
      · rename_i hk
        injection hf with hf
        exact ⟨{ key := .int .i64 k, val := v, born := clock }, by simp, by rw [hk], hf⟩
      · obtain ⟨x, hx, hxk, hxv⟩ := h2 k' v' hf
        exact ⟨x, by simp [hx], hxk, hxv⟩
  · have hj : es[j]? = some x := by simpa using h4
    have hkey : ∀ e', es[j]? = some e' → ({ e' with key := .int .i64 k, val := v } : MapEntry).key = e'.key := fun e' he' => by rw [hj] at he'; cases he'; exact h5.symm
    refine ⟨_, by simp [Instr.mapUpdate, run_underlying ht, MapKept.run_getObj_map hb, hck, MapKept.run_findKey hkt h3, hj, h5, MapKept.run_keyThatStays (d := .int .i64) (k := .int .i64 k) rfl, MapKept.run_setObj_map _ hb, Result.andThen], ⟨es.modify j (fun e => { e with key := .int .i64 k, val := v }), clock, (heap_set hb).1, by simp; omega, stamped_modify hs j (fun e => { e with key := .int .i64 k, val := v }) (fun _ _ => rfl) (fun e' _ he' => hkey e' he'), ?_, ?_⟩, hgr _⟩
    · intro y hy
      obtain ⟨i, hi⟩ := List.mem_iff_getElem?.1 hy
      rw [Array.getElem?_toList, Array.getElem?_modify] at hi
      split at hi
      · rename_i hij
        subst hij
        rw [hj] at hi
        injection hi with hi
        subst hi
        exact ⟨k, rfl, by unfold mapPut; rw [if_pos rfl]⟩
      · rename_i hij
        have hym : y ∈ es.toList := List.mem_of_getElem? (by rw [Array.getElem?_toList]; exact hi)
        obtain ⟨k', hk', hf⟩ := h1 y hym
        refine ⟨k', hk', ?_⟩
        unfold mapPut
        rw [if_neg ?_]
        · exact hf
        · intro e
          subst e
          have hnd := hs.2.2
          have e1 : (es.toList.map (·.key))[i]? = some (.int .i64 k') := by rw [List.getElem?_map, Array.getElem?_toList, hi]; simp [hk']
          have e2 : (es.toList.map (·.key))[j]? = some (.int .i64 k') := by rw [List.getElem?_map, Array.getElem?_toList, hj]; simp [h5]
          have hil : i < (es.toList.map (·.key)).length := (List.getElem?_eq_some_iff.1 e1).1
          exact hij ((List.getElem?_inj hil hnd).1 (e1.trans e2.symm)).symm
    · intro k' v' hf
      unfold mapPut at hf
      split at hf
      · rename_i hk
        injection hf with hf
        subst hf hk
        exact ⟨{ x with key := .int .i64 k', val := v }, List.mem_iff_getElem?.2 ⟨j, by rw [Array.getElem?_toList, Array.getElem?_modify, if_pos rfl, hj]; rfl⟩, rfl, rfl⟩
      · rename_i hk
        obtain ⟨y, hy, hyk, hyv⟩ := h2 k' v' hf
        obtain ⟨i, hi⟩ := List.mem_iff_getElem?.1 hy
        have hij : j ≠ i := by
          intro e
          subst e
          rw [h4] at hi
          injection hi with hi
          subst hi
          rw [h5] at hyk
          injection hyk with _ hyk
          exact hk hyk.symm
        exact ⟨y, List.mem_iff_getElem?.2 ⟨i, by rw [Array.getElem?_toList, Array.getElem?_modify, if_neg hij, ← Array.getElem?_toList]; exact hi⟩, hyk, hyv⟩
/-- an element, read as itself -/
def heldR (v : Value) : Option (DataW Value × List MemPlace) := some (.held v, [])
theorem IMap.owns (h : IMap w b n f) (hkt : P.underlying kt = some (.int .i64)) (hn : n ≤ maxLen) (hwf : ∀ k v, f k = some v → (Lit.int .i64 k).wf = true) :
    ∃ D : DataW Value, w.ownsMap P kt heldR b n D ∧ (∀ k v, (Lit.int .i64 k).wf = true → (∀ zd, D.atKey (.int .i64 k) zd = .held v) → f k = some v) ∧ (∀ k v, f k = some v → Maps.has D (.int .i64 k) = true) ∧ (∀ k, Maps.has D (.int .i64 k) = true → ∃ v, f k = some v) := by
  obtain ⟨es, clock, hb, hsz, hs, h1, h2⟩ := h
  have hrd : ∀ x ∈ es.toList, ∃ k, x.key = .int .i64 k ∧ f k = some x.val ∧ Go.WideElems.rd P kt heldR x = some (.int .i64 k, .held x.val) := by
    intro x hx
    obtain ⟨k, hk, hf⟩ := h1 x hx
    refine ⟨k, hk, hf, ?_⟩
    unfold Go.WideElems.rd
    rw [hk, Maps.keyOf_int_mk hkt (hwf k _ hf)]
    rfl
  have hrg : ∀ x ∈ es.toList, ∃ k, x.key = .int .i64 k ∧ f k = some x.val ∧ Go.WideElems.rg P kt heldR x = (.int .i64 k, .held x.val) := by
    intro x hx
    obtain ⟨k, hk, hf, hr⟩ := hrd x hx
    exact ⟨k, hk, hf, by unfold Go.WideElems.rg; rw [hr]; rfl⟩
  have F : Go.WideElems.Fit P kt heldR es clock := ⟨Nat.le_trans hsz hn, hs, fun x hx => by
    obtain ⟨k, _, _, hr⟩ := hrd x hx
    exact ⟨_, hr⟩⟩
  have K := Maps.int_keyed hkt
  refine ⟨_, ⟨es, clock, hb, F, hsz, rfl⟩, ?_, ?_, ?_⟩
  · intro k v hw hat
    have hs2 := Go.WideShapes.atKey_sorted (es.toList.map (Go.WideElems.rg P kt heldR)) (Maps.fit_rising K F) (.int .i64 k) (K.key (Maps.keyOf_int_mk hkt hw))
    cases hf : f k with
    | none =>
      have := hs2.1 (fun p hp => by
        obtain ⟨x, hx, rfl⟩ := List.mem_map.1 hp
        obtain ⟨k', _, hf', hr⟩ := hrg x hx
        rw [hr]
        intro e
        injection e with _ e
        subst e
        rw [hf] at hf'
        cases hf') .nil
      rw [hat .nil] at this
      cases this
    | some v' =>
      obtain ⟨x, hx, hxk, hxv⟩ := h2 k v' hf
      obtain ⟨k', hk', hf', hr⟩ := hrg x hx
      rw [hxk] at hk'
      injection hk' with _ hk'
      subst hk'
      have := hs2.2 _ (List.mem_map.2 ⟨x, hx, rfl⟩) (by rw [hr]) .nil
      rw [hat .nil, hr] at this
      injection this with this
      rw [this, ← hxv]
  · intro k v hf
    obtain ⟨x, hx, hxk, hxv⟩ := h2 k v hf
    obtain ⟨k', hk', hf', hr⟩ := hrg x hx
    rw [hxk] at hk'
    injection hk' with _ hk'
    subst hk'
    show ((es.toList.map (Go.WideElems.rg P kt heldR)).foldr DataW.insert []).any (fun p => p.1.sameKey (.int .i64 k)) = true
    rw [List.any_eq_true]
    refine ⟨Go.WideElems.rg P kt heldR x, mem_sorted.2 (List.mem_map.2 ⟨x, hx, rfl⟩), ?_⟩
    rw [hr]
    simp [Lit.sameKey]
  · intro k hk
    have hk : ((es.toList.map (Go.WideElems.rg P kt heldR)).foldr DataW.insert []).any (fun p => p.1.sameKey (.int .i64 k)) = true := hk
    rw [List.any_eq_true] at hk
    obtain ⟨q, hq, hqk⟩ := hk
    obtain ⟨x, hx, rfl⟩ := List.mem_map.1 (mem_sorted.1 hq)
    obtain ⟨k', _, hf', hr⟩ := hrg x hx
    rw [hr] at hqk
    have : k' = k := by simpa [Lit.sameKey] using hqk
    exact ⟨x.val, this ▸ hf'⟩
end
end Go.Proofs.Ytjgmlpfallakmaa
end
section
namespace Go.Proofs.Ytjgmlpfallakmaa
open Go.RowKit
attribute [local go_sem ↓] Go.wp_at_zero Go.wp_at_succ
/-- the cells of a row of sectors -/
def secs (l : List ByteArray) : List Value := l.flatMap sbytes
/-- all are of a sector's size -/
def All128 (l : List ByteArray) : Prop := ∀ s ∈ l, s.size = 128
theorem All128.get {l : List ByteArray} (h : All128 l) {i : Nat} (hi : i < l.length) : l[i].size = 128 := h _ (List.getElem_mem hi)
theorem All128.append {l k : List ByteArray} (h : All128 l) (h' : All128 k) : All128 (l ++ k) := fun s hs => (List.mem_append.1 hs).elim (h s) (h' s)
theorem All128.set {l : List ByteArray} (h : All128 l) (i : Nat) {x : ByteArray} (hx : x.size = 128) : All128 (l.set i x) := fun s hs => (List.mem_or_eq_of_mem_set hs).elim (h s) (fun e => e ▸ hx)
theorem secs_length {l : List ByteArray} (h : All128 l) : (secs l).length = l.length * 128 := by
  induction l with
  | nil => rfl
  | cons x l ih =>
    have e : secs (x :: l) = sbytes x ++ secs l := rfl
    rw [e, List.length_append, sbytes_length, h x (by simp), ih (fun s hs => h s (by simp [hs])), List.length_cons]
    omega
theorem secs_append (l k : List ByteArray) : secs (l ++ k) = secs l ++ secs k := by unfold secs; rw [List.flatMap_append]
theorem secs_one (l : List ByteArray) : ∀ u ∈ secs l, u.oneCell' = true := by
  intro u hu
  obtain ⟨s, _, hs⟩ := List.mem_flatMap.1 hu
  exact sbytes_one s u hs
theorem secs_split {l : List ByteArray} {i : Nat} (hi : i < l.length) : secs l = secs (l.take i) ++ sbytes l[i] ++ secs (l.drop (i + 1)) := by
  have e : l = l.take i ++ ([l[i]] ++ l.drop (i + 1)) := by
    rw [List.singleton_append, List.getElem_cons_drop, List.take_append_drop]
  conv => lhs; rw [e]
  rw [secs_append, secs_append, List.append_assoc]
  congr 2
  simp [secs]
theorem secs_at {l : List ByteArray} (h : All128 l) {i : Nat} (hi : i < l.length) (j : Nat) (v : Value) (hv : (sbytes l[i])[j]? = some v) : (secs l)[i * 128 + j]? = some v := by
  have hj := (List.getElem?_eq_some_iff.1 hv).1
  have ht : All128 (l.take i) := fun s hs => h s (List.mem_of_mem_take hs)
  have hl : (secs (l.take i)).length = i * 128 := by rw [secs_length ht, List.length_take, Nat.min_eq_left (by omega)]
  rw [secs_split hi, List.append_assoc, List.getElem?_append_right (by omega), hl, show i * 128 + j - i * 128 = j by omega, List.getElem?_append_left hj]
  exact hv
theorem splice_in {α : Type} (A B X D : List α) : A ++ X ++ D = (A ++ B ++ D).take A.length ++ X ++ (A ++ B ++ D).drop (A.length + B.length) := by
  rw [← List.length_append, List.drop_left, List.append_assoc A B D, List.take_left]
theorem take_splice {α : Type} (c X : List α) (a N : Nat) (h : a + X.length ≤ N) (hN : N ≤ c.length) :
    (c.take a ++ X ++ c.drop (a + X.length)).take N = (c.take N).take a ++ X ++ (c.take N).drop (a + X.length) := by
  have e1 : (c.take a).length = a := by rw [List.length_take]; omega
  rw [List.append_assoc, List.take_append, e1, List.take_of_length_le (l := c.take a) (i := N) (by omega), List.take_append, List.take_of_length_le (l := X) (i := N - a) (by omega), List.take_take, Nat.min_eq_left (by omega), List.append_assoc, List.drop_take]
  congr 3
  omega
theorem secs_set {l : List ByteArray} (h : All128 l) {i : Nat} (hi : i < l.length) (x : ByteArray) :
    secs (l.set i x) = (secs l).take (i * 128) ++ sbytes x ++ (secs l).drop (i * 128 + 128) := by
  have ht : All128 (l.take i) := fun s hs => h s (List.mem_of_mem_take hs)
  have hl : (secs (l.take i)).length = i * 128 := by rw [secs_length ht, List.length_take, Nat.min_eq_left (by omega)]
  have hb : (sbytes l[i]).length = 128 := by rw [sbytes_length, h.get hi]
  have hi' : i < (l.set i x).length := by simpa using hi
  have e1 : (l.set i x).take i = l.take i := by rw [List.take_set_of_le (Nat.le_refl _)]
  have e2 : (l.set i x).drop (i + 1) = l.drop (i + 1) := by rw [List.drop_set_of_lt (by omega)]
  have := splice_in (secs (l.take i)) (sbytes l[i]) (sbytes x) (secs (l.drop (i + 1)))
  rw [← secs_split hi, hl, hb] at this
  rw [secs_split hi', e1, e2, List.getElem_set_self]
  exact this
section
variable {w : World} {g n cap : Nat} {l : List ByteArray}
theorem row_cells (hr : w.ownsRow 0 82 128 (.slice (some ⟨g, 0, none⟩) n cap) l.length (secs l)) (h : All128 l) {i : Nat} (hi : i < l.length) : w.rangeAt g (i * 128) (sbytes l[i]) := by
  intro j v hv
  have := hr.cells (g := g) rfl (i * 128 + j) v (secs_at h hi j v hv)
  rwa [Addr.add_mid, Nat.zero_add] at this
theorem load_sector (hr : w.ownsRow 0 82 128 (.slice (some ⟨g, 0, none⟩) n cap) l.length (secs l)) (h : All128 l) {i : Nat} (hi : i < l.length) :
    (Instr.loadAt 82 (.pointer (some ⟨g, i * 128, none⟩))).run Try.prog w = .ok (sagg l[i]) w :=
  run_loadAt_mid w g (i * 128) 82 (sbytes l[i]) _ (row_cells hr h hi) Try.underlying82 rfl (by rw [size62, sbytes_length, h.get hi])
theorem store_sector (hr : w.ownsRow 0 82 128 (.slice (some ⟨g, 0, none⟩) n cap) l.length (secs l)) (h : All128 l) {i : Nat} (hi : i < l.length) {x : ByteArray} (hx : x.size = 128) :
    ∃ w', (storeCells ⟨g, i * 128, none⟩ (sbytes x)).run Try.prog w = .ok () w' ∧ w'.ownsRow 0 82 128 (.slice (some ⟨g, 0, none⟩) n cap) l.length (secs (l.set i x)) ∧ w.grownBy w' (some g) := by
  obtain ⟨hl, h2⟩ := hr
  rcases h2 with ⟨hv, _⟩ | ⟨g', cap', cur, hv, h1, hg, h3, h4, h5, h6⟩
  · cases hv
  · injection hv with e1 e2 e3
    injection e1 with e1
    injection e1 with e1
    subst e1 e2 e3
    have hil : i * 128 + 128 ≤ l.length * 128 := by omega
    have hcl : l.length * 128 ≤ cur.size := by rw [h5]; exact Nat.mul_le_mul_right 128 h3
    have hst := run_storeCells_at Try.prog g (i * 128) 82 (sbytes x) 0 cur w hg (by rw [sbytes_length, hx]; omega) (sbytes_one x)
    refine ⟨_, hst, ⟨by rw [secs_length (h.set i hx), List.length_set], .inr ⟨g, cap, _, rfl, h1, setRow_heap _ _ _ _ _ _ hg, h3, h4, ?_, ?_⟩⟩, ⟨rfl, rfl, rfl, by simp, fun j _ hj => setRow_other _ _ _ _ (fun e => hj (by rw [e]))⟩⟩
    · simp only [List.size_toArray, List.length_append, List.length_take, List.length_drop, Array.length_toList, sbytes_length, hx]
      omega
    · rw [secs_set h hi x, ← h6]
      have := take_splice cur.toList (sbytes x) (i * 128) (l.length * 128) (by rw [sbytes_length, hx]; omega) (by rw [Array.length_toList]; exact hcl)
      rw [sbytes_length, hx] at this
      simp only [Nat.add_zero, sbytes_length, hx]
      exact this
end
/-- the program's device d lies in block p; F: its blocks -/
def DevAt (w : World) (p : Nat) (d : RD) (F : List Nat) : Prop :=
  ∃ vs mb n f, Blk w p #[.bool (!d.off), vs, .map (some mb), .int .i64 d.left, .int .i64 d.wrote, .int .i64 d.count] 64 ∧
    w.ownsRow 0 82 128 vs d.sector.length (secs d.sector) ∧ IMap w mb n f ∧ n ≤ d.row.length ∧
    (∀ k v, f k = some v → ∃ i : Nat, k = i ∧ i < d.sector.length ∧ RD.writes d.row i ≠ [] ∧ w.ownsRow 0 82 128 v (RD.writes d.row i).length (secs (RD.writes d.row i))) ∧
    (∀ i : Nat, RD.writes d.row i ≠ [] → ∃ v, f i = some v) ∧
    (p ≠ mb ∧ vs.ownBlock ≠ some p ∧ vs.ownBlock ≠ some mb) ∧
    (∀ k v, f k = some v → v.ownBlock ≠ some p ∧ v.ownBlock ≠ some mb ∧ (∀ g, v.ownBlock = some g → vs.ownBlock ≠ some g)) ∧
    (∀ k v k' v', f k = some v → f k' = some v' → k ≠ k' → ∀ g, v.ownBlock = some g → v'.ownBlock ≠ some g) ∧
    (p ∈ F ∧ mb ∈ F ∧ (∀ g, vs.ownBlock = some g → g ∈ F) ∧ ∀ k v, f k = some v → ∀ g, v.ownBlock = some g → g ∈ F) ∧ (∀ k ∈ F, k < w.heap.size) ∧
    All128 d.sector ∧ ∀ x ∈ d.row, x.2.size = 128
theorem DevAt.touch {w w' : World} {p : Nat} {d : RD} {F S : List Nat} (h : DevAt w p d F) (hT : Touch S w w') (hS : ∀ k ∈ S, k ∉ F) : DevAt w' p d F := by
  obtain ⟨vs, mb, n, f, hb, hs, hm, hn, hr, hr2, h1, h2, h3, ⟨m1, m2, m3, m4⟩, hlt, hz⟩ := h
  refine ⟨vs, mb, n, f, hb.touch hT (fun hk => hS _ hk m1), ownsRow_touch hs hT (fun k hk hm => hS k hm (m3 k hk)), hm.touch hT (fun hk => hS _ hk m2), hn, ?_, hr2, h1, h2, h3, ⟨m1, m2, m3, m4⟩, fun k hk => Nat.lt_of_lt_of_le (hlt k hk) hT.size, hz⟩
  intro k v hf
  obtain ⟨i, e, hi, hw, ho⟩ := hr k v hf
  exact ⟨i, e, hi, hw, ownsRow_touch ho hT (fun g hg hm => hS g hm (m4 k v hf g hg))⟩
theorem DevAt.lt {w : World} {p : Nat} {d : RD} {F : List Nat} (h : DevAt w p d F) : ∀ k ∈ F, k < w.heap.size := by
  obtain ⟨_, _, _, _, _, _, _, _, _, _, _, _, _, _, hlt, _⟩ := h
  exact hlt
/-- the rows stay, the head is written -/
theorem DevAt.head {w : World} {p : Nat} {d : RD} {F : List Nat} (h : DevAt w p d F) : ∃ vs mb, Blk w p #[.bool (!d.off), vs, .map (some mb), .int .i64 d.left, .int .i64 d.wrote, .int .i64 d.count] 64 ∧
    ∀ (w' : World) (d' : RD), Blk w' p #[.bool (!d'.off), vs, .map (some mb), .int .i64 d'.left, .int .i64 d'.wrote, .int .i64 d'.count] 64 → Touch [p] w w' → d'.sector = d.sector → d'.row = d.row →
      ∃ F', DevAt w' p d' F' ∧ Touch F w w' ∧ Grows F F' w.heap.size := by
  obtain ⟨vs, mb, n, f, hb, hs, hm, hn, hr, hr2, h1, h2, h3, h4, hlt, hz⟩ := h
  refine ⟨vs, mb, hb, ?_⟩
  intro w' d' hb hT e1 e2
  have no : ∀ g, g ≠ p → g ∉ [p] := fun g hg hm => hg (by simpa using hm)
  refine ⟨F, ⟨vs, mb, n, f, hb, ?_, hm.touch hT (no _ (Ne.symm h1.1)), by rw [e2]; exact hn, ?_, by rw [e2]; exact hr2, h1, h2, h3, h4, fun k hk => Nat.lt_of_lt_of_le (hlt k hk) hT.size, by rw [e1, e2]; exact hz⟩, hT.more (by intro k hk; simp only [List.mem_singleton] at hk; subst hk; exact h4.1), Grows.refl _ _⟩
  · rw [e1]; exact ownsRow_touch hs hT (fun g hg => no g (fun e => h1.2.1 (by rw [hg, e])))
  · intro k v hf
    obtain ⟨i, e, hi, hw, ho⟩ := hr k v hf
    rw [e1, e2]
    exact ⟨i, e, hi, hw, ownsRow_touch ho hT (fun g hg => no g (fun e => (h2 k v hf).1 (by rw [hg, e])))⟩
end Go.Proofs.Ytjgmlpfallakmaa
end
section
namespace Go.Proofs.Ytjgmlpfallakmaa
open Go.RowKit
attribute [local go_sem ↓] Go.wp_at_zero Go.wp_at_succ
set_option maxRecDepth 100000 in
theorem dev_has (w : World) (p : Nat) (d : RD) (F : List Nat) (i : Int) (h : DevAt w p d F) : Calls Try.prog 40 #[.pointer (some ⟨p, 0, none⟩), .int .i64 i] w fun e w' => e = .returned (.bool (d.has i)) ∧ w = w' := by
  obtain ⟨vs, mb, n, f, hb, hs, _⟩ := h
  obtain ⟨A, cap, rfl⟩ := ownsRow_slice hs
  have c0 : w.cell? ⟨p, 1, none⟩ = some (.slice A d.sector.length cap) := hb.cell 1
  clear hb hs
  by_cases h0 : 0 ≤ i
  · have d0 : decide (0 ≤ i) = true := decide_eq_true h0
    by_cases h1 : i < d.sector.length
    · have d1 : decide (i < (d.sector.length : Int)) = true := decide_eq_true h1
      have HH : Hid (d.has i = true) := Lib.hid (by unfold RD.has; simp [h0, h1])
      clear h0 h1
      go_enter Try.func40, Try.ntmps40
      go_wp2
      go_ret
      exact ⟨by rw [HH.out]; rfl, rfl⟩
    · have d1 : decide (i < (d.sector.length : Int)) = false := decide_eq_false h1
      have HH : Hid (d.has i = false) := Lib.hid (by unfold RD.has; simp; omega)
      clear h0 h1
      go_enter Try.func40, Try.ntmps40
      go_wp2
      go_ret
      exact ⟨by rw [HH.out]; rfl, rfl⟩
  · have d0 : decide (0 ≤ i) = false := decide_eq_false h0
    have HH : Hid (d.has i = false) := Lib.hid (by unfold RD.has; simp [h0])
    clear h0
    go_enter Try.func40, Try.ntmps40
    go_wp2
    go_ret
    exact ⟨by rw [HH.out]; rfl, rfl⟩
set_option maxRecDepth 100000 in
theorem dev_lose (w : World) (p : Nat) (x1 x2 x3 x4 x5 x0 : Value) (hb : Blk w p #[x0, x1, x2, x3, x4, x5] 64) :
    Calls Try.prog 34 #[.pointer (some ⟨p, 0, none⟩)] w fun e w' => e = .returned (.tuple #[]) ∧ Blk w' p #[.bool false, x1, x2, .int .i64 0, x4, x5] 64 ∧ Touch [p] w w' := by
  have c0 : w.cell? ⟨p, 0, none⟩ = some x0 := hb.cell 0
  have c3 : w.cell? ⟨p, 3, none⟩ = some x3 := hb.cell 3
  have f0 := hb.free 0
  have f3 := hb.free 3
  have hpl := hb.lt
  go_enter Try.func34, Try.ntmps34
  go_wp2

  refine bodyPost_end (results_none rfl _ _ _) rfl ?_
  exact ⟨rfl, (hb.set 0 _).set 3 _, ((Touch.refl _ w).setCell (by simp) _).setCell (by simp) _⟩
set_option maxRecDepth 100000 in
theorem dev_step (w : World) (p : Nat) (d : RD) (F : List Nat) (K : Nat) (hK : K ≤ 1000000) (ok : RD.Ok K d) (h : DevAt w p d F) :
    Calls Try.prog 41 #[.pointer (some ⟨p, 0, none⟩)] w (Did DevAt w p F d.stepped (.returned (.int .i64 d.syncE))) := by
  obtain ⟨vs, mb, hb, HE⟩ := h.head
  clear h
  have c0 : w.cell? ⟨p, 0, none⟩ = some (.bool (!d.off)) := hb.cell 0
  have c3 : w.cell? ⟨p, 3, none⟩ = some (.int .i64 d.left) := hb.cell 3
  have c5 : w.cell? ⟨p, 5, none⟩ = some (.int .i64 d.count) := hb.cell 5
  have f0 := hb.free 0
  have f3 := hb.free 3
  have f5 := hb.free 5
  have b1 := ok.count
  have b2 := ok.left
  have hpl := hb.lt
  have HH := Lib.hid HE
  clear HE
  cases ho : d.off
  · by_cases k1 : d.left = 1
    · have d1 : (d.left == 1) = true := by rw [beq_iff_eq]; exact k1
      rw [ho] at c0
      have HG : Hid (d.syncE = 6) := Lib.hid (by unfold RD.syncE RD.goes; rw [ho, k1]; rfl)
      have HS : Hid (d.stepped = { d with count := d.count + 1, off := true, left := 0 }) := Lib.hid (by unfold RD.stepped; rw [ho, if_neg (by simp), if_pos k1])
      have LO := Lib.hid (dev_lose _ _ _ _ _ _ _ _ (hb.set 5 (.int .i64 (d.count + 1))))
      clear k1 ho
      go_enter Try.func41, Try.ntmps41
      go_wp2_with (go_at_call 34; refine LO.out.mono ?_; rintro _ w2 ⟨rfl, hb2, hT2⟩)
      go_ret
      refine ⟨by rw [HG.out]; rfl, ?_⟩
      rw [HS.out]
      exact HH.out _ _ hb2 (((Touch.refl _ w).setCell (by simp) _).trans hT2 (Grows.refl _ _)) rfl rfl
    · have d1 : (d.left == 1) = false := by rw [beq_eq_false_iff_ne]; exact k1
      rw [ho] at c0
      have HG : Hid (d.syncE = 0) := Lib.hid (by unfold RD.syncE RD.goes; rw [ho]; simp [k1])
      obtain ⟨m, hm⟩ : ∃ m : Int, (if 1 < d.left then d.left - 1 else d.left) = m := ⟨_, rfl⟩
      have HS : Hid (d.stepped = { d with count := d.count + 1, left := m }) := Lib.hid (by
        unfold RD.stepped; rw [ho, if_neg (by simp), if_neg k1, ← hm]; split <;> rfl)
      have hmx : max (d.left - 1) 0 = m := by rw [← hm]; split <;> omega
      clear k1 ho hm
      go_enter Try.func41, Try.ntmps41
      go_wp2
      go_ret
      refine ⟨by rw [HG.out]; rfl, ?_⟩
      rw [HS.out]
      exact HH.out _ _ (((hb.set 5 _).set 3 _)) ((((Touch.refl _ w).setCell (by simp) _).setCell (by simp) _)) rfl rfl
  · rw [ho] at c0
    have HG : Hid (d.syncE = 6) := Lib.hid (by unfold RD.syncE RD.goes; rw [ho]; rfl)
    have HS : Hid (d.stepped = d) := Lib.hid (by unfold RD.stepped; rw [ho, if_pos rfl])
    clear ho
    go_enter Try.func41, Try.ntmps41
    go_wp2
    go_ret
    refine ⟨by rw [HG.out]; rfl, ?_⟩
    rw [HS.out]
    exact HH.out _ _ hb (Touch.refl _ w) rfl rfl
set_option maxRecDepth 100000 in
theorem dev_size (w : World) (p : Nat) (d : RD) (F : List Nat) (h : DevAt w p d F) : Calls Try.prog 28 #[.pointer (some ⟨p, 0, none⟩)] w fun e w' => e = .returned (.int .i64 d.sector.length) ∧ w = w' := by
  obtain ⟨vs, mb, n, f, hb, hs, _⟩ := h
  obtain ⟨A, cap, rfl⟩ := ownsRow_slice hs
  have c0 : w.cell? ⟨p, 1, none⟩ = some (.slice A d.sector.length cap) := hb.cell 1
  clear hb hs
  go_enter Try.func28, Try.ntmps28
  go_wp2
  go_ret
  exact ⟨rfl, rfl⟩
set_option maxRecDepth 100000 in
theorem dev_on (w : World) (p : Nat) (d : RD) (F : List Nat) (h : DevAt w p d F) : Calls Try.prog 16 #[.pointer (some ⟨p, 0, none⟩)] w fun e w' => e = .returned (.bool (!d.off)) ∧ w = w' := by
  obtain ⟨vs, mb, n, f, hb, _⟩ := h
  have c0 : w.cell? ⟨p, 0, none⟩ = some (.bool (!d.off)) := hb.cell 0
  clear hb
  go_enter Try.func16, Try.ntmps16
  go_wp2
  go_ret
  exact ⟨rfl, rfl⟩
set_option maxRecDepth 100000 in
theorem dev_steps (w : World) (p : Nat) (d : RD) (F : List Nat) (h : DevAt w p d F) : Calls Try.prog 19 #[.pointer (some ⟨p, 0, none⟩)] w fun e w' => e = .returned (.int .i64 d.count) ∧ w = w' := by
  obtain ⟨vs, mb, n, f, hb, _⟩ := h
  have c0 : w.cell? ⟨p, 5, none⟩ = some (.int .i64 d.count) := hb.cell 5
  clear hb
  go_enter Try.func19, Try.ntmps19
  go_wp2
  go_ret
  exact ⟨rfl, rfl⟩
set_option maxRecDepth 100000 in
theorem dev_fuse (w : World) (p : Nat) (d : RD) (F : List Nat) (n : Int) (h : DevAt w p d F) : Calls Try.prog 15 #[.pointer (some ⟨p, 0, none⟩), .int .i64 n] w (Did DevAt w p F (d.fuseD n) (.returned (.int .i64 d.fuseE))) := by
  obtain ⟨vs, mb, hb, HE⟩ := h.head
  clear h
  have c0 : w.cell? ⟨p, 0, none⟩ = some (.bool (!d.off)) := hb.cell 0
  have c3 : w.cell? ⟨p, 3, none⟩ = some (.int .i64 d.left) := hb.cell 3
  have f3 := hb.free 3
  have hpl := hb.lt
  have HH := Lib.hid HE
  clear HE
  obtain ⟨m, hm⟩ : ∃ m : Int, (if n < 1 then 0 else n) = m := ⟨_, rfl⟩
  have hmx : max n 0 = m := by rw [← hm]; split <;> omega
  cases ho : d.off
  · rw [ho] at c0
    have HD : Hid (d.fuseD n = { d with left := m } ∧ d.fuseE = 0) := Lib.hid (by unfold RD.fuseD RD.fuseE; rw [ho, hm]; exact ⟨rfl, rfl⟩)
    clear ho hm
    go_enter Try.func15, Try.ntmps15
    go_wp2
    go_ret
    refine ⟨by rw [HD.out.2]; rfl, ?_⟩
    rw [HD.out.1]
    exact HH.out _ _ (hb.set 3 _) ((Touch.refl _ w).setCell (by simp) _) rfl rfl
  · rw [ho] at c0
    have HD : Hid (d.fuseD n = d ∧ d.fuseE = 6) := Lib.hid (by unfold RD.fuseD RD.fuseE; rw [ho]; exact ⟨rfl, rfl⟩)
    clear ho hm
    go_enter Try.func15, Try.ntmps15
    go_wp2
    go_ret
    refine ⟨by rw [HD.out.2]; rfl, ?_⟩
    rw [HD.out.1]
    exact HH.out _ _ hb (Touch.refl _ w) rfl rfl
set_option maxRecDepth 100000 in
theorem dev_cut (w : World) (p : Nat) (d : RD) (F : List Nat) (h : DevAt w p d F) : Calls Try.prog 17 #[.pointer (some ⟨p, 0, none⟩)] w (Did DevAt w p F d.cutD (.returned (.int .i64 d.fuseE))) := by
  obtain ⟨vs, mb, hb, HE⟩ := h.head
  clear h
  have c0 : w.cell? ⟨p, 0, none⟩ = some (.bool (!d.off)) := hb.cell 0
  have LO := Lib.hid (dev_lose _ _ _ _ _ _ _ _ hb)
  have HH := Lib.hid HE
  clear HE
  cases ho : d.off
  · rw [ho] at c0
    have HD : Hid (d.cutD = { d with off := true, left := 0 } ∧ d.fuseE = 0) := Lib.hid (by unfold RD.cutD RD.fuseE; rw [ho]; exact ⟨rfl, rfl⟩)
    clear ho
    go_enter Try.func17, Try.ntmps17
    go_wp2_with (go_at_call 34; refine LO.out.mono ?_; rintro _ w2 ⟨rfl, hb2, hT2⟩)
    go_ret
    refine ⟨by rw [HD.out.2]; rfl, ?_⟩
    rw [HD.out.1]
    exact HH.out _ _ hb2 hT2 rfl rfl
  · rw [ho] at c0
    have HD : Hid (d.cutD = d ∧ d.fuseE = 6) := Lib.hid (by unfold RD.cutD RD.fuseE; rw [ho]; exact ⟨rfl, rfl⟩)
    clear ho
    go_enter Try.func17, Try.ntmps17
    go_wp2
    go_ret
    refine ⟨by rw [HD.out.2]; rfl, ?_⟩
    rw [HD.out.1]
    exact HH.out _ _ hb (Touch.refl _ w) rfl rfl
end Go.Proofs.Ytjgmlpfallakmaa
end
section
namespace Go.Proofs.Ytjgmlpfallakmaa
namespace RD
theorem last_writes (l : List (Nat × ByteArray)) (i : Nat) (s : ByteArray) : last l i s = (s :: writes l i).getLast (by simp) := by
  induction l generalizing s with
  | nil => rfl
  | cons x l ih =>
    have e : last (x :: l) i s = last l i (if x.1 = i then x.2 else s) := rfl
    rw [e, ih]
    unfold writes
    by_cases h : x.1 = i
    · simp [h]
    · simp [h]
theorem synced_at (l : List (Nat × ByteArray)) (i : Nat) (s : List ByteArray) (h : i < s.length) : (synced l s).getD i ⟨#[]⟩ = last l i (s.getD i ⟨#[]⟩) := by
  induction l generalizing s with
  | nil => rfl
  | cons x l ih =>
    have e : synced (x :: l) s = synced l (s.set x.1 x.2) := rfl
    have e2 : last (x :: l) i (s.getD i ⟨#[]⟩) = last l i (if x.1 = i then x.2 else s.getD i ⟨#[]⟩) := rfl
    rw [e, ih _ (by rw [List.length_set]; exact h), e2]
    congr 1
    by_cases hx : x.1 = i
    · subst hx
      simp [List.getD_eq_getElem?_getD, h]
    · simp [List.getD_eq_getElem?_getD, hx]
theorem getD_set_mem (s : List ByteArray) (j i : Nat) (x : ByteArray) : (s.set j x).getD i ⟨#[]⟩ = s.getD i ⟨#[]⟩ ∨ (j = i ∧ (s.set j x).getD i ⟨#[]⟩ = x) := by
  by_cases hj : j = i
  · subst hj
    by_cases hl : j < s.length
    · right; simp [List.getD_eq_getElem?_getD, hl]
    · left
      rw [List.set_eq_of_length_le (by omega)]
  · left; simp [List.getD_eq_getElem?_getD, hj]
theorem started_mem (picks : List Int) (row : List (Nat × ByteArray)) (i : Nat) (n j turn : Nat) (s : List ByteArray) :
    (started picks row n j turn s).getD i ⟨#[]⟩ ∈ s.getD i ⟨#[]⟩ :: writes row i := by
  induction n generalizing j turn s with
  | zero => exact List.mem_cons_self
  | succ n ih =>
    rw [started]
    split
    · exact ih _ _ _
    · rename_i hw
      have h1 := ih (j + 1) (turn + 1) (if keeps picks turn (writes row j).length = 0 then s else s.set j ((writes row j).getD (keeps picks turn (writes row j).length - 1) ⟨#[]⟩))
      split
      · rename_i hk
        rw [if_pos hk] at h1
        exact h1
      · rename_i hk
        rw [if_neg hk] at h1
        rcases List.mem_cons.1 h1 with h1 | h1
        · rcases getD_set_mem s j i ((writes row j).getD (keeps picks turn (writes row j).length - 1) ⟨#[]⟩) with h2 | ⟨hj, h2⟩
          · rw [h1, h2]; exact List.mem_cons_self
          · subst hj
            rw [h1, h2]
            have hle := keeps_le picks turn (writes row j).length
            have hlt : keeps picks turn (writes row j).length - 1 < (writes row j).length := by omega
            have hg : (writes row j).getD (keeps picks turn (writes row j).length - 1) ⟨#[]⟩ = (writes row j)[keeps picks turn (writes row j).length - 1] := by simp [List.getD_eq_getElem?_getD, hlt]
            rw [hg]
            exact List.mem_cons_of_mem _ (List.getElem_mem hlt)
        · exact List.mem_cons_of_mem _ h1
end RD
/-- what may last of sector i: nothing that can be told of no sector -/
def MayOk (i : Int) (d : RD) (M : List ByteArray) : Prop :=
  M ≠ [] ∧ (0 ≤ i → i < 4 → M = d.sector.getD i.toNat ⟨#[]⟩ :: RD.writes d.row i.toNat)
theorem may_fresh (i : Int) (z : ByteArray) : MayOk i (RD.fresh z 4) [z] := by
  refine ⟨by simp, fun h0 h4 => ?_⟩
  have : i.toNat < 4 := by omega
  show [z] = (List.replicate 4 z).getD i.toNat ⟨#[]⟩ :: RD.writes [] i.toNat
  rw [List.getD_eq_getElem?_getD, List.getElem?_replicate, if_pos this]
  rfl
theorem may_same {i : Int} {d d' : RD} {M : List ByteArray} (h : MayOk i d M) (h1 : d'.sector = d.sector) (h2 : d'.row = d.row) : MayOk i d' M := by
  unfold MayOk
  rw [h1, h2]
  exact h
theorem may_stepped {i : Int} {d : RD} {M : List ByteArray} (h : MayOk i d M) : MayOk i d.stepped M := may_same h (RD.stepped_sector d) (RD.stepped_row d)
/-- a write of the sector that was answered -/
theorem may_write {i : Int} {d : RD} {M : List ByteArray} (h : MayOk i d M) (s : ByteArray) (he : d.writeE i s = 0) : MayOk i (d.writeD i s) (M ++ [s]) := by
  obtain ⟨h1, h2⟩ := h
  unfold RD.writeE at he
  split at he
  · rename_i hh
    split at he
    · rename_i hg
      refine ⟨by simp, fun h0 h4 => ?_⟩
      unfold RD.writeD
      rw [if_pos hh, if_pos hg, h2 h0 h4]
      show _ = d.stepped.sector.getD _ _ :: RD.writes (d.row ++ [(i.toNat, s)]) i.toNat
      rw [RD.stepped_sector, RD.writes_snoc, if_pos rfl]
      rfl
    · omega
  · omega
/-- .. any other write -/
theorem may_write_other {i k : Int} {d : RD} {M : List ByteArray} (h : MayOk i d M) (s : ByteArray) (he : ¬ (k = i ∧ d.writeE k s = 0)) : MayOk i (d.writeD k s) M := by
  unfold RD.writeD
  split
  · rename_i hh
    split
    · rename_i hg
      have hne : k ≠ i := by
        intro e
        apply he
        refine ⟨e, ?_⟩
        unfold RD.writeE
        rw [if_pos hh, if_pos hg]
      obtain ⟨h1, h2⟩ := h
      refine ⟨h1, fun h0 h4 => ?_⟩
      show _ = d.stepped.sector.getD _ _ :: RD.writes (d.row ++ [(k.toNat, s)]) i.toNat
      have hk : 0 ≤ k := by unfold RD.has at hh; simp at hh; omega
      rw [RD.stepped_sector, RD.writes_snoc, if_neg (by show ¬ (k.toNat = i.toNat); omega)]
      exact h2 h0 h4
    · exact may_stepped h
  · exact h
theorem may_sync {i : Int} {d : RD} {M : List ByteArray} (hl : d.sector.length = 4) (h : MayOk i d M) (he : d.syncE = 0) : MayOk i d.syncD [M.getLast h.1] := by
  refine ⟨by simp, fun h0 h4 => ?_⟩
  unfold RD.syncE at he
  split at he
  · rename_i hg
    unfold RD.syncD
    rw [if_pos hg]
    show _ = (RD.synced d.row d.sector).getD _ _ :: RD.writes [] i.toNat
    rw [RD.synced_at _ _ _ (by omega), RD.last_writes]
    have := h.2 h0 h4
    simp only [this]
    rfl
  · omega
theorem may_sync_not {i : Int} {d : RD} {M : List ByteArray} (h : MayOk i d M) (he : d.syncE ≠ 0) : MayOk i d.syncD M := by
  unfold RD.syncE at he
  split at he
  · omega
  · rename_i hg
    unfold RD.syncD
    rw [if_neg hg]
    exact may_stepped h
theorem may_start {i : Int} {d : RD} (hl : d.sector.length = 4) (picks : List Int) (he : d.startE = 0) (lastsS : RD → Int → ByteArray) (hL : ∀ d : RD, d.sector.length = 4 → 0 ≤ i → i < 4 → lastsS d i = d.sector.getD i.toNat ⟨#[]⟩) : MayOk i (d.startD picks) [lastsS (d.startD picks) i] := by
  refine ⟨by simp, fun h0 h4 => ?_⟩
  rw [hL _ (by rw [RD.start_length]; exact hl) h0 h4]
  unfold RD.startE at he
  split at he
  · rename_i hg
    have e : (d.startD picks).row = [] := by unfold RD.startD; rw [if_pos hg]
    rw [e]
    rfl
  · omega
theorem may_start_not {i : Int} {d : RD} {M : List ByteArray} (h : MayOk i d M) (picks : List Int) (he : d.startE ≠ 0) : MayOk i (d.startD picks) M := by
  unfold RD.startE at he
  split at he
  · omega
  · rename_i hg
    unfold RD.startD
    rw [if_neg hg]
    exact h
theorem may_fuse {i : Int} {d : RD} {M : List ByteArray} (h : MayOk i d M) (n : Int) : MayOk i (d.fuseD n) M := by
  unfold RD.fuseD
  split
  · exact h
  · exact may_same h rfl rfl
theorem may_cut {i : Int} {d : RD} {M : List ByteArray} (h : MayOk i d M) : MayOk i d.cutD M := by
  unfold RD.cutD
  split
  · exact h
  · exact may_same h rfl rfl
/-- behind a loss of power, and any picks: what lasts is one of those -/
theorem may_last {i : Int} {d : RD} {M : List ByteArray} (h : MayOk i d M) (h0 : 0 ≤ i) (h4 : i < 4) (picks : List Int) : (d.cutD.startD picks).sector.getD i.toNat ⟨#[]⟩ ∈ M := by
  have hc := may_cut h
  have hoff : d.cutD.off = true := by unfold RD.cutD; split <;> simp_all
  unfold RD.startD
  rw [if_pos hoff, hc.2 h0 h4]
  exact RD.started_mem _ _ _ _ _ _ _
theorem cut_off (d : RD) : d.cutD.off = true := by unfold RD.cutD; split <;> simp_all
end Go.Proofs.Ytjgmlpfallakmaa
end
section
namespace Go.Proofs.Ytjgmlpfallakmaa
open Go.RowKit
attribute [local go_sem ↓] Go.wp_at_zero Go.wp_at_succ
set_option maxRecDepth 100000 in
theorem nil_size (w : World) : Calls Try.prog 28 #[.pointer none] w fun e w' => e = .returned (.int .i64 0) ∧ w = w' := by
  go_enter Try.func28, Try.ntmps28
  go_wp2
  go_ret
  exact ⟨rfl, rfl⟩
set_option maxRecDepth 100000 in
theorem nil_on (w : World) : Calls Try.prog 16 #[.pointer none] w fun e w' => e = .returned (.bool false) ∧ w = w' := by
  go_enter Try.func16, Try.ntmps16
  go_wp2
  go_ret
  exact ⟨rfl, rfl⟩
set_option maxRecDepth 100000 in
theorem nil_steps (w : World) : Calls Try.prog 19 #[.pointer none] w fun e w' => e = .returned (.int .i64 0) ∧ w = w' := by
  go_enter Try.func19, Try.ntmps19
  go_wp2
  go_ret
  exact ⟨rfl, rfl⟩
set_option maxRecDepth 100000 in
theorem nil_read (w : World) (i : Int) : Calls Try.prog 21 #[.pointer none, .int .i64 i] w fun e w' => e = .returned (.tuple #[.string ⟨#[]⟩, .int .i64 2]) ∧ w = w' := by
  go_enter Try.func21, Try.ntmps21
  go_wp2
  exact bodyPost_ret (results_tmp2 rfl _ _ _) rfl ⟨rfl, rfl⟩
set_option maxRecDepth 100000 in
theorem nil_cut (w : World) : Calls Try.prog 17 #[.pointer none] w fun e w' => e = .returned (.int .i64 2) ∧ w = w' := by
  go_enter Try.func17, Try.ntmps17
  go_wp2
  go_ret
  exact ⟨rfl, rfl⟩
set_option maxRecDepth 100000 in
theorem nil_start (w : World) (v : Value) : Calls Try.prog 18 #[.pointer none, v] w fun e w' => e = .returned (.int .i64 2) ∧ w = w' := by
  go_enter Try.func18, Try.ntmps18
  go_wp2
  go_ret
  exact ⟨rfl, rfl⟩
set_option maxRecDepth 100000 in
theorem nil_fuse (w : World) (n : Int) : Calls Try.prog 15 #[.pointer none, .int .i64 n] w fun e w' => e = .returned (.int .i64 2) ∧ w = w' := by
  go_enter Try.func15, Try.ntmps15
  go_wp2
  go_ret
  exact ⟨rfl, rfl⟩
set_option maxRecDepth 100000 in
theorem nil_sync (w : World) : Calls Try.prog 30 #[.pointer none] w fun e w' => e = .returned (.int .i64 2) ∧ w = w' := by
  go_enter Try.func30, Try.ntmps30
  go_wp2
  go_ret
  exact ⟨rfl, rfl⟩
set_option maxRecDepth 100000 in
theorem nil_write (w : World) (i : Int) (s : ByteArray) : Calls Try.prog 20 #[.pointer none, .int .i64 i, .string s] w fun e w' => e = .returned (.int .i64 2) ∧ w = w' := by
  go_enter Try.func20, Try.ntmps20
  go_wp2
  go_ret
  exact ⟨rfl, rfl⟩
theorem zero55 (w : World) : (zeroValue 61).run Try.prog w = .ok (.slice none 0 0) w := by kernel_rfl
/-- what waits of a number -/
def RD.waiting (d : RD) (i : Int) : List ByteArray := if 0 ≤ i then RD.writes d.row i.toNat else []
theorem RD.waits_eq (d : RD) (i : Int) : d.waits i = (d.waiting i).length := by unfold RD.waits RD.waitsIn RD.waiting; split <;> rfl
/-- what lies under a number in the map of what waits -/
theorem DevAt.under {w : World} {p : Nat} {d : RD} {F : List Nat} (h : DevAt w p d F) (i : Int) : ∃ vs mb v, Blk w p #[.bool (!d.off), vs, .map (some mb), .int .i64 d.left, .int .i64 d.wrote, .int .i64 d.count] 64 ∧
    (∀ wx : World, Touch [] w wx → (Instr.lookup 62 (.map (some mb)) (.int .i64 i) false).run Try.prog wx = .ok v wx) ∧ w.ownsRow 0 82 128 v (d.waiting i).length (secs (d.waiting i)) ∧ All128 (d.waiting i) ∧ w.ownsRow 0 82 128 vs d.sector.length (secs d.sector) ∧ All128 d.sector := by
  obtain ⟨vs, mb, n, f, hb, hs, hm, hn, hr, hr2, h1, h2, h3, h4, hlt, hz, hz2⟩ := h
  refine ⟨vs, mb, (f i).getD (.slice none 0 0), hb, fun wx hx => (hm.touch hx (by simp)).lookup Try.underlying62 Try.underlying3 (zero55 wx) i, ?_, ?_, hs, hz⟩
  · cases hf : f i with
    | some v =>
      obtain ⟨k, rfl, _, _, ho⟩ := hr i v hf
      have e : d.waiting (k : Int) = RD.writes d.row k := by unfold RD.waiting; rw [if_pos (by omega)]; rfl
      rw [e]
      exact ho
    | none =>
      have e : d.waiting i = [] := by
        unfold RD.waiting
        split
        · rename_i h0
          cases hw : RD.writes d.row i.toNat with
          | nil => rfl
          | cons a l =>
            obtain ⟨v, hv⟩ := hr2 i.toNat (by rw [hw]; simp)
            rw [show ((i.toNat : Nat) : Int) = i by omega, hf] at hv
            cases hv
        · rfl
      rw [e]
      exact World.ownsRow_nil _ _ _ _
  · intro s hs
    unfold RD.waiting RD.writes at hs
    split at hs
    · obtain ⟨x, hx, rfl⟩ := List.mem_map.1 hs
      exact hz2 x (List.mem_filter.1 hx).1
    · cases hs
set_option maxRecDepth 4000 in
set_option maxHeartbeats 800000 in
theorem dev_read (w : World) (p : Nat) (d : RD) (F : List Nat) (K : Nat) (hK : K ≤ 1000000) (ok : RD.Ok K d) (i : Int) (h : DevAt w p d F) :
    Calls Try.prog 21 #[.pointer (some ⟨p, 0, none⟩), .int .i64 i] w fun e w' => e = .returned (.tuple #[.string (d.readS i), .int .i64 (d.readE i)]) ∧ Below w.heap.size w w' := by
  have hh := dev_has w p d F i h
  obtain ⟨vs, mb, v, hb, hlk, hv, hvz, hs, hz⟩ := h.under i
  have hwl := RD.waitsIn_le d.row i
  have c0 : w.cell? ⟨p, 0, none⟩ = some (.bool (!d.off)) := hb.cell 0
  have c1 : w.cell? ⟨p, 1, none⟩ = some vs := hb.cell 1
  have c2 : w.cell? ⟨p, 2, none⟩ = some (.map (some mb)) := hb.cell 2
  have l1 := hlk w (Touch.refl _ _)
  clear h hb hlk
  by_cases hi : d.has i = true
  · rw [hi] at hh
    have HH := Lib.hid hh
    clear hh
    cases ho : d.off
    · rw [ho] at c0
      have HE : Hid (d.readE i = 0) := Lib.hid (by unfold RD.readE; rw [if_pos hi, ho]; rfl)
      have HS : Hid (d.readS i = RD.last d.row i.toNat (d.sector.getD i.toNat ⟨#[]⟩)) := Lib.hid (by unfold RD.readS; rw [hi, ho]; rfl)
      unfold RD.has at hi
      simp only [Bool.and_eq_true, decide_eq_true_eq] at hi
      obtain ⟨i0, i1⟩ := hi
      obtain ⟨k, rfl⟩ := Int.eq_ofNat_of_zero_le i0
      have hk : k < d.sector.length := by omega
      have hwt : d.waiting (k : Int) = RD.writes d.row k := by unfold RD.waiting; rw [if_pos (by omega)]; rfl
      have HS2 : Hid (d.readS (k : Int) = (d.sector.getD k ⟨#[]⟩ :: d.waiting k).getLast (by simp)) := Lib.hid (by rw [HS.out, RD.last_writes]; simp only [hwt]; rfl)
      obtain ⟨L, hL⟩ : ∃ L, d.waiting (k : Int) = L := ⟨_, rfl⟩
      have hll : L.length ≤ 1000000 := by rw [← hL, ← RD.waits_eq]; have := ok.row; unfold RD.waits; omega
      rw [hL] at hv hvz
      simp only [hL] at HS2
      by_cases h0 : L = []
      · subst h0
        obtain ⟨A2, cap2, rfl⟩ := ownsRow_slice hv
        obtain ⟨A, cap, rfl⟩ := ownsRow_slice hs
        rcases hs.2 with ⟨_, h0⟩ | ⟨g, _, _, hg, _⟩
        · omega
        injection hg with e1 _ _
        subst e1
        obtain ⟨x, hx⟩ : ∃ x, d.sector[k] = x := ⟨_, rfl⟩
        have hld := load_sector hs hz hk
        have HT : Hid (∀ w, Calls Try.prog 43 #[sagg x] w fun e w' => e = .returned (.string x) ∧ Below w.heap.size w w') := Lib.hid (fun w => text34 x (by rw [← hx]; exact hz.get hk) w)
        rw [hx] at hld
        obtain ⟨V, hV⟩ : ∃ V, sagg x = V := ⟨_, rfl⟩
        rw [hV] at hld HT
        have HX : Hid (d.readS (k : Int) = x) := Lib.hid (by rw [HS2.out, ← hx]; simp [List.getD_eq_getElem?_getD, hk])
        clear hs hz hv hvz hx hV HS HS2 hL hwt ho hwl
        go_enter Try.func21, Try.ntmps21
        go_wp2_with (first | (go_at_call 40; refine HH.out.mono ?_; rintro _ _ ⟨rfl, rfl⟩) | (refine wpList_load_run rfl 82 _ rfl (p := .pointer (some ⟨g, k * 128, none⟩)) (v := V) (by rfl) hld ?_) | (go_at_call 43; refine (HT.out _).mono ?_; rintro _ w1 ⟨rfl, hb1⟩))
        exact bodyPost_ret (results_tmp2 rfl _ _ _) rfl ⟨by rw [HX.out, HE.out]; rfl, hb1⟩
      · obtain ⟨n, hn⟩ : ∃ n, L.length = n + 1 := ⟨L.length - 1, by have := List.length_pos_iff.2 h0; omega⟩
        have hn' : n < L.length := by omega
        obtain ⟨A, cap, rfl⟩ := ownsRow_slice hv
        rcases hv.2 with ⟨_, h0⟩ | ⟨g, _, _, hg, _⟩
        · omega
        injection hg with e1 _ _
        subst e1
        obtain ⟨x, hx⟩ : ∃ x, L[n] = x := ⟨_, rfl⟩
        have hld := load_sector hv hvz hn'
        have HT : Hid (∀ w, Calls Try.prog 43 #[sagg x] w fun e w' => e = .returned (.string x) ∧ Below w.heap.size w w') := Lib.hid (fun w => text34 x (by rw [← hx]; exact hvz.get hn') w)
        rw [hx] at hld
        obtain ⟨V, hV⟩ : ∃ V, sagg x = V := ⟨_, rfl⟩
        rw [hV] at hld HT
        have HX : Hid (d.readS (k : Int) = x) := Lib.hid (by rw [HS2.out, ← hx, List.getLast_eq_getElem]; simp [hn])
        obtain ⟨m, hm⟩ : ∃ m : Nat, L.length = m := ⟨_, rfl⟩
        rw [hm] at l1 hll
        have d1 : decide ((0 : Int) < (m : Int)) = true := decide_eq_true (by omega)
        have i3 : (0 : Int) ≤ (n : Int) := by omega
        have i4 : (n : Int) < (m : Int) := by omega
        have i5 : (m : Int) - 1 = (n : Int) := by omega
        have i6 : RowKit.wrap64 ((m : Int) - 1) = (n : Int) := by
          rw [← IntWalk.i64_left, i5]
          exact IntWalk.i64_in _ (by omega)
        clear hs hz hv hvz hx hV HS HS2 hL hwt ho hwl h0 hn hn' hm
        go_enter Try.func21, Try.ntmps21
        go_wp2_with (first | (go_at_call 40; refine HH.out.mono ?_; rintro _ _ ⟨rfl, rfl⟩) | (refine wpList_load_run rfl 82 _ rfl (p := .pointer (some ⟨g, n * 128, none⟩)) (v := V) (by rfl) hld ?_) | (go_at_call 43; refine (HT.out _).mono ?_; rintro _ w1 ⟨rfl, hb1⟩))
        exact bodyPost_ret (results_tmp2 rfl _ _ _) rfl ⟨by rw [HX.out, HE.out]; rfl, hb1⟩
    · rw [ho] at c0
      have HE : Hid (d.readE i = 6) := Lib.hid (by unfold RD.readE; rw [if_pos hi, ho]; rfl)
      have HS : Hid (d.readS i = ⟨#[]⟩) := Lib.hid (by unfold RD.readS; rw [hi, ho]; rfl)
      clear hs hz hv hvz hi ho
      go_enter Try.func21, Try.ntmps21
      go_wp2_with (go_at_call 40; refine HH.out.mono ?_; rintro _ _ ⟨rfl, rfl⟩)
      exact bodyPost_ret (results_tmp2 rfl _ _ _) rfl ⟨by rw [HS.out, HE.out]; rfl, Below.refl _ _⟩
  · have hi : d.has i = false := by simpa using hi
    rw [hi] at hh
    have HE : Hid (d.readE i = 1) := Lib.hid (by unfold RD.readE; rw [if_neg (by rw [hi]; simp)])
    have HS : Hid (d.readS i = ⟨#[]⟩) := Lib.hid (by unfold RD.readS; rw [hi]; rfl)
    have HH := Lib.hid hh
    clear hh hs hz hv hvz hi
    go_enter Try.func21, Try.ntmps21
    go_wp2_with (go_at_call 40; refine HH.out.mono ?_; rintro _ _ ⟨rfl, rfl⟩)
    exact bodyPost_ret (results_tmp2 rfl _ _ _) rfl ⟨by rw [HS.out, HE.out]; rfl, Below.refl _ _⟩
end Go.Proofs.Ytjgmlpfallakmaa
end
section
namespace Go.Proofs.Ytjgmlpfallakmaa
open Go.RowKit
theorem touch_own {w w1 : World} {v : Value} (h : w.grownBy w1 v.ownBlock) : Touch v.ownBlock.toList w w1 := ⟨h.os, h.tape, h.output, h.size, fun k hk hn => h.block k hk (fun e => hn (by rw [← e]; simp))⟩
theorem write_end {w1 w2 w3 : World} {p : Nat} {d d1 : RD} {F : List Nat} {vs : Value} {mb n : Nat} {f : Int → Option Value} {q : Nat} {s : ByteArray} {v0 : Value} {g cap : Nat}
    (e1 : d1.sector = d.sector) (hb : Blk w1 p #[.bool (!d1.off), vs, .map (some mb), .int .i64 d1.left, .int .i64 d.wrote, .int .i64 d1.count] 64)
    (hs : w1.ownsRow 0 82 128 vs d.sector.length (secs d.sector)) (hn : n ≤ d.row.length)
    (hr : ∀ k v, f k = some v → ∃ i : Nat, k = i ∧ i < d.sector.length ∧ RD.writes d.row i ≠ [] ∧ w1.ownsRow 0 82 128 v (RD.writes d.row i).length (secs (RD.writes d.row i)))
    (hr2 : ∀ i : Nat, RD.writes d.row i ≠ [] → ∃ v, f i = some v) (k1 : p ≠ mb ∧ vs.ownBlock ≠ some p ∧ vs.ownBlock ≠ some mb)
    (k2 : ∀ k v, f k = some v → v.ownBlock ≠ some p ∧ v.ownBlock ≠ some mb ∧ (∀ g, v.ownBlock = some g → vs.ownBlock ≠ some g))
    (k3 : ∀ k v k' v', f k = some v → f k' = some v' → k ≠ k' → ∀ g, v.ownBlock = some g → v'.ownBlock ≠ some g)
    (hm4 : p ∈ F ∧ mb ∈ F ∧ (∀ g, vs.ownBlock = some g → g ∈ F) ∧ ∀ k v, f k = some v → ∀ g, v.ownBlock = some g → g ∈ F) (hlt : ∀ k ∈ F, k < w1.heap.size)
    (hz : All128 d.sector) (hz2 : ∀ x ∈ d.row, x.2.size = 128) (hs8 : s.size = 128) (hq : q < d.sector.length) (hv0 : (f q).getD (.slice none 0 0) = v0) (T2 : Touch v0.ownBlock.toList w1 w2)
    (hown2 : w2.ownsRow 0 82 128 (.slice (some ⟨g, 0, none⟩) ((RD.writes d.row q).length + 1) cap) ((RD.writes d.row q).length + 1) (secs (RD.writes d.row q) ++ sbytes s))
    (hat : v0.ownBlock = some g ∨ w1.heap.size ≤ g) (hg2 : g < w2.heap.size)
    (hm3 : IMap w3 mb (n + 1) (mapPut f q (.slice (some ⟨g, 0, none⟩) ((RD.writes d.row q).length + 1) cap))) (hgr3 : w2.grownBy w3 (some mb)) :
    ∃ F', DevAt (w3.setCell ⟨p, 4, none⟩ (.int .i64 (d.wrote + 1))) p { d1 with row := d.row ++ [(q, s)], wrote := d.wrote + 1 } F' ∧ Touch F w1 (w3.setCell ⟨p, 4, none⟩ (.int .i64 (d.wrote + 1))) ∧ Grows F F' w1.heap.size := by
  obtain ⟨m1, m2, m3, m4⟩ := hm4
  have hv : ∀ x, v0.ownBlock = some x → ∃ v, f q = some v ∧ v = v0 := by
    intro x hx
    cases hf : f q with
    | none => rw [hf] at hv0; rw [← hv0] at hx; cases hx
    | some v => rw [hf] at hv0; exact ⟨v, rfl, hv0⟩
  have TM : Touch [mb] w2 w3 := ⟨hgr3.os, hgr3.tape, hgr3.output, hgr3.size, fun k hk hn => hgr3.block k hk (fun e => hn (by injection e with e; simp [e]))⟩
  have TP : Touch [p] w3 (w3.setCell ⟨p, 4, none⟩ (.int .i64 (d.wrote + 1))) := (Touch.refl _ _).setCell (.inl (by simp)) _
  have T4 : Touch (p :: mb :: v0.ownBlock.toList) w1 (w3.setCell ⟨p, 4, none⟩ (.int .i64 (d.wrote + 1))) :=
    (((T2.more (fun k hk => List.mem_cons_of_mem _ (List.mem_cons_of_mem _ hk))).trans TM (fun k hk => .inl (by simp only [List.mem_singleton] at hk; simp [hk])))).trans TP (fun k hk => .inl (by simp only [List.mem_singleton] at hk; simp [hk]))
  have away : ∀ k, k ≠ p → k ≠ mb → v0.ownBlock ≠ some k → k ∉ p :: mb :: v0.ownBlock.toList := by
    intro k h1 h2 h3 hm
    rcases List.mem_cons.1 hm with rfl | hm
    · exact h1 rfl
    · rcases List.mem_cons.1 hm with rfl | hm
      · exact h2 rfl
      · exact h3 (by simpa using hm)
  have hgp : g ≠ p ∧ g ≠ mb ∧ vs.ownBlock ≠ some g := by
    rcases hat with hat | hat
    · obtain ⟨v, hf, rfl⟩ := hv g hat
      obtain ⟨a, b, c⟩ := k2 q v hf
      exact ⟨fun e => a (by rw [hat, e]), fun e => b (by rw [hat, e]), c g hat⟩
    · exact ⟨fun e => by have := hlt p m1; omega, fun e => by have := hlt mb m2; omega, fun e => by have := hlt g (m3 g e); omega⟩
  have hput : ∀ k v, mapPut f q (.slice (some ⟨g, 0, none⟩) ((RD.writes d.row q).length + 1) cap) k = some v → (k = q ∧ v = .slice (some ⟨g, 0, none⟩) ((RD.writes d.row q).length + 1) cap) ∨ (k ≠ q ∧ f k = some v) := by
    intro k v h
    unfold mapPut at h
    split at h
    · rename_i hk
      injection h with h
      exact .inl ⟨hk, h.symm⟩
    · rename_i hk
      exact .inr ⟨hk, h⟩
  refine ⟨g :: F, ⟨vs, mb, n + 1, _, ?_, ?_, hm3.touch TP (by simp; exact Ne.symm k1.1), by simp; exact hn, ?_, ?_, k1, ?_, ?_, ⟨List.mem_cons_of_mem _ m1, List.mem_cons_of_mem _ m2, fun x hx => List.mem_cons_of_mem _ (m3 x hx), ?_⟩, ?_, by rw [e1]; exact hz, ?_⟩, ?_, ?_⟩
  · have hb3 : Blk w3 p #[.bool (!d1.off), vs, .map (some mb), .int .i64 d1.left, .int .i64 d.wrote, .int .i64 d1.count] 64 := by
      refine (hb.touch T2 ?_).touch TM (by simp; exact k1.1)
      intro hm
      obtain ⟨v, hf, rfl⟩ := hv p (by simpa using hm)
      exact (k2 q v hf).1 (by simpa using hm)
    exact hb3.set 4 _
  · show World.ownsRow _ 0 82 128 vs d1.sector.length (secs d1.sector)
    rw [e1]
    refine ownsRow_touch hs T4 (fun k hk => away k (fun e => k1.2.1 (by rw [hk, e])) (fun e => k1.2.2 (by rw [hk, e])) (fun e => ?_))
    obtain ⟨v, hf, rfl⟩ := hv k e
    exact (k2 q v hf).2.2 k e hk
  · intro k v h
    show ∃ i : Nat, k = i ∧ i < d1.sector.length ∧ RD.writes (d.row ++ [(q, s)]) i ≠ [] ∧ World.ownsRow _ 0 82 128 v (RD.writes (d.row ++ [(q, s)]) i).length (secs (RD.writes (d.row ++ [(q, s)]) i))
    rw [e1]
    rcases hput k v h with ⟨rfl, rfl⟩ | ⟨hk, hf⟩
    · refine ⟨q, rfl, hq, by rw [RD.writes_snoc, if_pos rfl]; simp, ?_⟩
      rw [RD.writes_snoc, if_pos rfl, secs_append, List.length_append, show secs [s] = sbytes s from by simp [secs]]
      refine ownsRow_touch (ownsRow_touch hown2 TM (fun x hx => ?_)) TP (fun x hx => ?_)
      · have : g = x := by simpa [Value.ownBlock] using hx
        subst this
        simpa using hgp.2.1
      · have : g = x := by simpa [Value.ownBlock] using hx
        subst this
        simpa using hgp.1
    · obtain ⟨i, rfl, hi, hw, ho⟩ := hr k v hf
      have hqi : ¬ q = i := fun e => hk (by rw [e])
      refine ⟨i, rfl, hi, by rw [RD.writes_snoc, if_neg hqi]; exact hw, ?_⟩
      rw [RD.writes_snoc, if_neg hqi]
      refine ownsRow_touch ho T4 (fun x hx => away x (fun e => (k2 _ v hf).1 (by rw [hx, e])) (fun e => (k2 _ v hf).2.1 (by rw [hx, e])) (fun e => ?_))
      obtain ⟨v', hf', rfl⟩ := hv x e
      exact k3 _ v _ v' hf hf' hk x hx e
  · intro i h
    by_cases hi : (i : Int) = q
    · exact ⟨_, by unfold mapPut; rw [if_pos hi]⟩
    · have h : RD.writes (d.row ++ [(q, s)]) i ≠ [] := h
      rw [RD.writes_snoc, if_neg (fun e => hi (by rw [← e]))] at h
      obtain ⟨v, hv⟩ := hr2 i h
      exact ⟨v, by unfold mapPut; rw [if_neg hi]; exact hv⟩
  · intro k v h
    rcases hput k v h with ⟨rfl, rfl⟩ | ⟨hk, hf⟩
    · refine ⟨fun e => hgp.1 (by simpa [Value.ownBlock] using e), fun e => hgp.2.1 (by simpa [Value.ownBlock] using e), fun x hx => ?_⟩
      have : g = x := by simpa [Value.ownBlock] using hx
      subst this
      exact hgp.2.2
    · exact k2 k v hf
  · intro k v k' v' h h' hne x hx hx'
    rcases hput k v h with ⟨rfl, rfl⟩ | ⟨hk, hf⟩ <;> rcases hput k' v' h' with ⟨rfl, rfl⟩ | ⟨hk', hf'⟩
    · exact hne rfl
    · have : g = x := by simpa [Value.ownBlock] using hx
      subst this
      rcases hat with hat | hat
      · obtain ⟨u, hu, rfl⟩ := hv g hat
        exact k3 _ u _ v' hu hf' hne g hat hx'
      · have := hlt g (m4 k' v' hf' g hx'); omega
    · have : g = x := by simpa [Value.ownBlock] using hx'
      subst this
      rcases hat with hat | hat
      · obtain ⟨u, hu, rfl⟩ := hv g hat
        exact k3 _ v _ u hf hu hne g hx hat
      · have := hlt g (m4 k v hf g hx); omega
    · exact k3 k v k' v' hf hf' hne x hx hx'
  · intro k v h x hx
    rcases hput k v h with ⟨rfl, rfl⟩ | ⟨hk, hf⟩
    · have : g = x := by simpa [Value.ownBlock] using hx
      subst this
      exact List.mem_cons_self
    · exact List.mem_cons_of_mem _ (m4 k v hf x hx)
  · intro k hk
    have s3 := Nat.le_trans TM.size TP.size
    rcases List.mem_cons.1 hk with rfl | hk
    · omega
    · have := hlt k hk
      have := T4.size
      omega
  · intro x hx
    rcases List.mem_append.1 hx with hx | hx
    · exact hz2 x hx
    · rw [List.mem_singleton.1 hx]; exact hs8
  · refine T4.more (fun k hk => ?_)
    rcases List.mem_cons.1 hk with rfl | hk
    · exact m1
    · rcases List.mem_cons.1 hk with rfl | hk
      · exact m2
      · obtain ⟨v, hf, rfl⟩ := hv k (by simpa using hk)
        exact m4 q v hf k (by simpa using hk)
  · intro k hk
    rcases List.mem_cons.1 hk with rfl | hk
    · rcases hat with hat | hat
      · obtain ⟨v, hf, rfl⟩ := hv k hat
        exact .inl (m4 q v hf k hat)
      · exact .inr hat
    · exact .inl hk
end Go.Proofs.Ytjgmlpfallakmaa
end
section
namespace Go.Proofs.Ytjgmlpfallakmaa
theorem exec_load {P : Program} {o : Oper} {a : Act} {w : World} (ty : TypeId) (x : Operand) (ho : o.op = .load ty x) {p v : Value} (hx : a.eval x = p) (hr : (Instr.loadAt ty p).run P w = .ok v w) : (execOp a.eval o).run P w = .ok (.value v) w := by
  unfold execOp
  simp only [ho, hx, hr, Sem.run_bind, Result.andThen_ok, Sem.run_pure]
theorem takes_5 {P : Program} {md : Region.Mode} {Q : Exit → Act → World → Prop} {S : World → Prop} {x0 x1 x2 x3 x4 o : Oper} {l : List Oper} {v : Value} {fuel : Nat} {listed : Array Bool} {a : Act} {w : World}
    (hs : Region.noSelect (x0 :: x1 :: x2 :: x3 :: x4 :: o :: l).toArray = true) (hf : Region.free md (x0 :: x1 :: x2 :: x3 :: x4 :: o :: l).toArray listed 5 = true) (hr : (Region.ready md (x0 :: x1 :: x2 :: x3 :: x4 :: o :: l).toArray listed).contains 5 = true)
    (hQ : ∀ c a w, Q (.panic c) (a.put o.dst v) w → Q (.panic c) a w) (hw : Region.wanted o (yielded (x0 :: x1 :: x2 :: x3 :: x4 :: o :: l).toArray a.tmps) = true) (hy : ∀ w, S w → (execOp a.eval o).run P w = .ok (.value v) w) (hS : S w)
    (h : wpAnyH P md (x0 :: x1 :: x2 :: x3 :: x4 :: o :: l).toArray Q S fuel (listed.setIfInBounds 5 true) (a.put o.dst v) w) : wpAnyH P md (x0 :: x1 :: x2 :: x3 :: x4 :: o :: l).toArray Q S (fuel + 1) listed a w :=
  wpAnyH_take (i := 5) (oi := o) rfl hs hf hr hQ (Or.inl ⟨hw, hy⟩) hS h
theorem takes_11 {P : Program} {md : Region.Mode} {Q : Exit → Act → World → Prop} {S : World → Prop} {x0 x1 x2 x3 x4 x5 x6 x7 x8 x9 x10 o : Oper} {l : List Oper} {v : Value} {fuel : Nat} {listed : Array Bool} {a : Act} {w : World}
    (hs : Region.noSelect (x0 :: x1 :: x2 :: x3 :: x4 :: x5 :: x6 :: x7 :: x8 :: x9 :: x10 :: o :: l).toArray = true) (hf : Region.free md (x0 :: x1 :: x2 :: x3 :: x4 :: x5 :: x6 :: x7 :: x8 :: x9 :: x10 :: o :: l).toArray listed 11 = true) (hr : (Region.ready md (x0 :: x1 :: x2 :: x3 :: x4 :: x5 :: x6 :: x7 :: x8 :: x9 :: x10 :: o :: l).toArray listed).contains 11 = true)
    (hQ : ∀ c a w, Q (.panic c) (a.put o.dst v) w → Q (.panic c) a w) (hw : Region.wanted o (yielded (x0 :: x1 :: x2 :: x3 :: x4 :: x5 :: x6 :: x7 :: x8 :: x9 :: x10 :: o :: l).toArray a.tmps) = true) (hy : ∀ w, S w → (execOp a.eval o).run P w = .ok (.value v) w) (hS : S w)
    (h : wpAnyH P md (x0 :: x1 :: x2 :: x3 :: x4 :: x5 :: x6 :: x7 :: x8 :: x9 :: x10 :: o :: l).toArray Q S fuel (listed.setIfInBounds 11 true) (a.put o.dst v) w) : wpAnyH P md (x0 :: x1 :: x2 :: x3 :: x4 :: x5 :: x6 :: x7 :: x8 :: x9 :: x10 :: o :: l).toArray Q S (fuel + 1) listed a w :=
  wpAnyH_take (i := 11) (oi := o) rfl hs hf hr hQ (Or.inl ⟨hw, hy⟩) hS h
theorem takes_12 {P : Program} {md : Region.Mode} {Q : Exit → Act → World → Prop} {S : World → Prop} {x0 x1 x2 x3 x4 x5 x6 x7 x8 x9 x10 x11 o : Oper} {l : List Oper} {v : Value} {fuel : Nat} {listed : Array Bool} {a : Act} {w : World}
    (hs : Region.noSelect (x0 :: x1 :: x2 :: x3 :: x4 :: x5 :: x6 :: x7 :: x8 :: x9 :: x10 :: x11 :: o :: l).toArray = true) (hf : Region.free md (x0 :: x1 :: x2 :: x3 :: x4 :: x5 :: x6 :: x7 :: x8 :: x9 :: x10 :: x11 :: o :: l).toArray listed 12 = true) (hr : (Region.ready md (x0 :: x1 :: x2 :: x3 :: x4 :: x5 :: x6 :: x7 :: x8 :: x9 :: x10 :: x11 :: o :: l).toArray listed).contains 12 = true)
    (hQ : ∀ c a w, Q (.panic c) (a.put o.dst v) w → Q (.panic c) a w) (hw : Region.wanted o (yielded (x0 :: x1 :: x2 :: x3 :: x4 :: x5 :: x6 :: x7 :: x8 :: x9 :: x10 :: x11 :: o :: l).toArray a.tmps) = true) (hy : ∀ w, S w → (execOp a.eval o).run P w = .ok (.value v) w) (hS : S w)
    (h : wpAnyH P md (x0 :: x1 :: x2 :: x3 :: x4 :: x5 :: x6 :: x7 :: x8 :: x9 :: x10 :: x11 :: o :: l).toArray Q S fuel (listed.setIfInBounds 12 true) (a.put o.dst v) w) : wpAnyH P md (x0 :: x1 :: x2 :: x3 :: x4 :: x5 :: x6 :: x7 :: x8 :: x9 :: x10 :: x11 :: o :: l).toArray Q S (fuel + 1) listed a w :=
  wpAnyH_take (i := 12) (oi := o) rfl hs hf hr hQ (Or.inl ⟨hw, hy⟩) hS h
theorem takes_13 {P : Program} {md : Region.Mode} {Q : Exit → Act → World → Prop} {S : World → Prop} {x0 x1 x2 x3 x4 x5 x6 x7 x8 x9 x10 x11 x12 o : Oper} {l : List Oper} {v : Value} {fuel : Nat} {listed : Array Bool} {a : Act} {w : World}
    (hs : Region.noSelect (x0 :: x1 :: x2 :: x3 :: x4 :: x5 :: x6 :: x7 :: x8 :: x9 :: x10 :: x11 :: x12 :: o :: l).toArray = true) (hf : Region.free md (x0 :: x1 :: x2 :: x3 :: x4 :: x5 :: x6 :: x7 :: x8 :: x9 :: x10 :: x11 :: x12 :: o :: l).toArray listed 13 = true) (hr : (Region.ready md (x0 :: x1 :: x2 :: x3 :: x4 :: x5 :: x6 :: x7 :: x8 :: x9 :: x10 :: x11 :: x12 :: o :: l).toArray listed).contains 13 = true)
    (hQ : ∀ c a w, Q (.panic c) (a.put o.dst v) w → Q (.panic c) a w) (hw : Region.wanted o (yielded (x0 :: x1 :: x2 :: x3 :: x4 :: x5 :: x6 :: x7 :: x8 :: x9 :: x10 :: x11 :: x12 :: o :: l).toArray a.tmps) = true) (hy : ∀ w, S w → (execOp a.eval o).run P w = .ok (.value v) w) (hS : S w)
    (h : wpAnyH P md (x0 :: x1 :: x2 :: x3 :: x4 :: x5 :: x6 :: x7 :: x8 :: x9 :: x10 :: x11 :: x12 :: o :: l).toArray Q S fuel (listed.setIfInBounds 13 true) (a.put o.dst v) w) : wpAnyH P md (x0 :: x1 :: x2 :: x3 :: x4 :: x5 :: x6 :: x7 :: x8 :: x9 :: x10 :: x11 :: x12 :: o :: l).toArray Q S (fuel + 1) listed a w :=
  wpAnyH_take (i := 13) (oi := o) rfl hs hf hr hQ (Or.inl ⟨hw, hy⟩) hS h
theorem takes_14 {P : Program} {md : Region.Mode} {Q : Exit → Act → World → Prop} {S : World → Prop} {x0 x1 x2 x3 x4 x5 x6 x7 x8 x9 x10 x11 x12 x13 o : Oper} {l : List Oper} {v : Value} {fuel : Nat} {listed : Array Bool} {a : Act} {w : World}
    (hs : Region.noSelect (x0 :: x1 :: x2 :: x3 :: x4 :: x5 :: x6 :: x7 :: x8 :: x9 :: x10 :: x11 :: x12 :: x13 :: o :: l).toArray = true) (hf : Region.free md (x0 :: x1 :: x2 :: x3 :: x4 :: x5 :: x6 :: x7 :: x8 :: x9 :: x10 :: x11 :: x12 :: x13 :: o :: l).toArray listed 14 = true) (hr : (Region.ready md (x0 :: x1 :: x2 :: x3 :: x4 :: x5 :: x6 :: x7 :: x8 :: x9 :: x10 :: x11 :: x12 :: x13 :: o :: l).toArray listed).contains 14 = true)
    (hQ : ∀ c a w, Q (.panic c) (a.put o.dst v) w → Q (.panic c) a w) (hw : Region.wanted o (yielded (x0 :: x1 :: x2 :: x3 :: x4 :: x5 :: x6 :: x7 :: x8 :: x9 :: x10 :: x11 :: x12 :: x13 :: o :: l).toArray a.tmps) = true) (hy : ∀ w, S w → (execOp a.eval o).run P w = .ok (.value v) w) (hS : S w)
    (h : wpAnyH P md (x0 :: x1 :: x2 :: x3 :: x4 :: x5 :: x6 :: x7 :: x8 :: x9 :: x10 :: x11 :: x12 :: x13 :: o :: l).toArray Q S fuel (listed.setIfInBounds 14 true) (a.put o.dst v) w) : wpAnyH P md (x0 :: x1 :: x2 :: x3 :: x4 :: x5 :: x6 :: x7 :: x8 :: x9 :: x10 :: x11 :: x12 :: x13 :: o :: l).toArray Q S (fuel + 1) listed a w :=
  wpAnyH_take (i := 14) (oi := o) rfl hs hf hr hQ (Or.inl ⟨hw, hy⟩) hS h
theorem takes_15 {P : Program} {md : Region.Mode} {Q : Exit → Act → World → Prop} {S : World → Prop} {x0 x1 x2 x3 x4 x5 x6 x7 x8 x9 x10 x11 x12 x13 x14 o : Oper} {l : List Oper} {v : Value} {fuel : Nat} {listed : Array Bool} {a : Act} {w : World}
    (hs : Region.noSelect (x0 :: x1 :: x2 :: x3 :: x4 :: x5 :: x6 :: x7 :: x8 :: x9 :: x10 :: x11 :: x12 :: x13 :: x14 :: o :: l).toArray = true) (hf : Region.free md (x0 :: x1 :: x2 :: x3 :: x4 :: x5 :: x6 :: x7 :: x8 :: x9 :: x10 :: x11 :: x12 :: x13 :: x14 :: o :: l).toArray listed 15 = true) (hr : (Region.ready md (x0 :: x1 :: x2 :: x3 :: x4 :: x5 :: x6 :: x7 :: x8 :: x9 :: x10 :: x11 :: x12 :: x13 :: x14 :: o :: l).toArray listed).contains 15 = true)
    (hQ : ∀ c a w, Q (.panic c) (a.put o.dst v) w → Q (.panic c) a w) (hw : Region.wanted o (yielded (x0 :: x1 :: x2 :: x3 :: x4 :: x5 :: x6 :: x7 :: x8 :: x9 :: x10 :: x11 :: x12 :: x13 :: x14 :: o :: l).toArray a.tmps) = true) (hy : ∀ w, S w → (execOp a.eval o).run P w = .ok (.value v) w) (hS : S w)
    (h : wpAnyH P md (x0 :: x1 :: x2 :: x3 :: x4 :: x5 :: x6 :: x7 :: x8 :: x9 :: x10 :: x11 :: x12 :: x13 :: x14 :: o :: l).toArray Q S fuel (listed.setIfInBounds 15 true) (a.put o.dst v) w) : wpAnyH P md (x0 :: x1 :: x2 :: x3 :: x4 :: x5 :: x6 :: x7 :: x8 :: x9 :: x10 :: x11 :: x12 :: x13 :: x14 :: o :: l).toArray Q S (fuel + 1) listed a w :=
  wpAnyH_take (i := 15) (oi := o) rfl hs hf hr hQ (Or.inl ⟨hw, hy⟩) hS h
theorem steps_16 {P : Program} {md : Region.Mode} {Q : Exit → Act → World → Prop} {S : World → Prop} {x0 x1 x2 x3 x4 x5 x6 x7 x8 x9 x10 x11 x12 x13 x14 x15 o : Oper} {l : List Oper} {fuel : Nat} {listed : Array Bool} {a : Act} {w : World}
    (hr : Region.ready md (x0 :: x1 :: x2 :: x3 :: x4 :: x5 :: x6 :: x7 :: x8 :: x9 :: x10 :: x11 :: x12 :: x13 :: x14 :: x15 :: o :: l).toArray listed = [16])
    (h : ∀ K' : Act → World → Prop, Shut (∀ a w, S w → (S w → wpAnyH P md (x0 :: x1 :: x2 :: x3 :: x4 :: x5 :: x6 :: x7 :: x8 :: x9 :: x10 :: x11 :: x12 :: x13 :: x14 :: x15 :: o :: l).toArray Q S fuel (listed.setIfInBounds 16 true) a w) → K' a w) → if Region.wanted o (yielded (x0 :: x1 :: x2 :: x3 :: x4 :: x5 :: x6 :: x7 :: x8 :: x9 :: x10 :: x11 :: x12 :: x13 :: x14 :: x15 :: o :: l).toArray a.tmps) = true then Oper.wp P o a w K' Q else K' (a.put o.dst undef) w) :
    wpAnyH P md (x0 :: x1 :: x2 :: x3 :: x4 :: x5 :: x6 :: x7 :: x8 :: x9 :: x10 :: x11 :: x12 :: x13 :: x14 :: x15 :: o :: l).toArray Q S (fuel + 1) listed a w :=
  wpAnyH_ready hr (by simp) (AllReadyH.cons (o := o) rfl h AllReadyH.nil)
end Go.Proofs.Ytjgmlpfallakmaa
end
section
namespace Go.Proofs.Ytjgmlpfallakmaa
theorem steps_10 {P : Program} {md : Region.Mode} {Q : Exit → Act → World → Prop} {S : World → Prop} {x0 x1 x2 x3 x4 x5 x6 x7 x8 x9 o : Oper} {l : List Oper} {fuel : Nat} {listed : Array Bool} {a : Act} {w : World}
    (hr : Region.ready md (x0 :: x1 :: x2 :: x3 :: x4 :: x5 :: x6 :: x7 :: x8 :: x9 :: o :: l).toArray listed = [10])
    (h : ∀ K' : Act → World → Prop, Shut (∀ a w, S w → (S w → wpAnyH P md (x0 :: x1 :: x2 :: x3 :: x4 :: x5 :: x6 :: x7 :: x8 :: x9 :: o :: l).toArray Q S fuel (listed.setIfInBounds 10 true) a w) → K' a w) → if Region.wanted o (yielded (x0 :: x1 :: x2 :: x3 :: x4 :: x5 :: x6 :: x7 :: x8 :: x9 :: o :: l).toArray a.tmps) = true then Oper.wp P o a w K' Q else K' (a.put o.dst undef) w) :
    wpAnyH P md (x0 :: x1 :: x2 :: x3 :: x4 :: x5 :: x6 :: x7 :: x8 :: x9 :: o :: l).toArray Q S (fuel + 1) listed a w :=
  wpAnyH_ready hr (by simp) (AllReadyH.cons (o := o) rfl h AllReadyH.nil)
theorem steps_12 {P : Program} {md : Region.Mode} {Q : Exit → Act → World → Prop} {S : World → Prop} {x0 x1 x2 x3 x4 x5 x6 x7 x8 x9 x10 x11 o : Oper} {l : List Oper} {fuel : Nat} {listed : Array Bool} {a : Act} {w : World}
    (hr : Region.ready md (x0 :: x1 :: x2 :: x3 :: x4 :: x5 :: x6 :: x7 :: x8 :: x9 :: x10 :: x11 :: o :: l).toArray listed = [12])
    (h : ∀ K' : Act → World → Prop, Shut (∀ a w, S w → (S w → wpAnyH P md (x0 :: x1 :: x2 :: x3 :: x4 :: x5 :: x6 :: x7 :: x8 :: x9 :: x10 :: x11 :: o :: l).toArray Q S fuel (listed.setIfInBounds 12 true) a w) → K' a w) → if Region.wanted o (yielded (x0 :: x1 :: x2 :: x3 :: x4 :: x5 :: x6 :: x7 :: x8 :: x9 :: x10 :: x11 :: o :: l).toArray a.tmps) = true then Oper.wp P o a w K' Q else K' (a.put o.dst undef) w) :
    wpAnyH P md (x0 :: x1 :: x2 :: x3 :: x4 :: x5 :: x6 :: x7 :: x8 :: x9 :: x10 :: x11 :: o :: l).toArray Q S (fuel + 1) listed a w :=
  wpAnyH_ready hr (by simp) (AllReadyH.cons (o := o) rfl h AllReadyH.nil)
theorem steps_13 {P : Program} {md : Region.Mode} {Q : Exit → Act → World → Prop} {S : World → Prop} {x0 x1 x2 x3 x4 x5 x6 x7 x8 x9 x10 x11 x12 o : Oper} {l : List Oper} {fuel : Nat} {listed : Array Bool} {a : Act} {w : World}
    (hr : Region.ready md (x0 :: x1 :: x2 :: x3 :: x4 :: x5 :: x6 :: x7 :: x8 :: x9 :: x10 :: x11 :: x12 :: o :: l).toArray listed = [13])
    (h : ∀ K' : Act → World → Prop, Shut (∀ a w, S w → (S w → wpAnyH P md (x0 :: x1 :: x2 :: x3 :: x4 :: x5 :: x6 :: x7 :: x8 :: x9 :: x10 :: x11 :: x12 :: o :: l).toArray Q S fuel (listed.setIfInBounds 13 true) a w) → K' a w) → if Region.wanted o (yielded (x0 :: x1 :: x2 :: x3 :: x4 :: x5 :: x6 :: x7 :: x8 :: x9 :: x10 :: x11 :: x12 :: o :: l).toArray a.tmps) = true then Oper.wp P o a w K' Q else K' (a.put o.dst undef) w) :
    wpAnyH P md (x0 :: x1 :: x2 :: x3 :: x4 :: x5 :: x6 :: x7 :: x8 :: x9 :: x10 :: x11 :: x12 :: o :: l).toArray Q S (fuel + 1) listed a w :=
  wpAnyH_ready hr (by simp) (AllReadyH.cons (o := o) rfl h AllReadyH.nil)
theorem steps_14 {P : Program} {md : Region.Mode} {Q : Exit → Act → World → Prop} {S : World → Prop} {x0 x1 x2 x3 x4 x5 x6 x7 x8 x9 x10 x11 x12 x13 o : Oper} {l : List Oper} {fuel : Nat} {listed : Array Bool} {a : Act} {w : World}
    (hr : Region.ready md (x0 :: x1 :: x2 :: x3 :: x4 :: x5 :: x6 :: x7 :: x8 :: x9 :: x10 :: x11 :: x12 :: x13 :: o :: l).toArray listed = [14])
    (h : ∀ K' : Act → World → Prop, Shut (∀ a w, S w → (S w → wpAnyH P md (x0 :: x1 :: x2 :: x3 :: x4 :: x5 :: x6 :: x7 :: x8 :: x9 :: x10 :: x11 :: x12 :: x13 :: o :: l).toArray Q S fuel (listed.setIfInBounds 14 true) a w) → K' a w) → if Region.wanted o (yielded (x0 :: x1 :: x2 :: x3 :: x4 :: x5 :: x6 :: x7 :: x8 :: x9 :: x10 :: x11 :: x12 :: x13 :: o :: l).toArray a.tmps) = true then Oper.wp P o a w K' Q else K' (a.put o.dst undef) w) :
    wpAnyH P md (x0 :: x1 :: x2 :: x3 :: x4 :: x5 :: x6 :: x7 :: x8 :: x9 :: x10 :: x11 :: x12 :: x13 :: o :: l).toArray Q S (fuel + 1) listed a w :=
  wpAnyH_ready hr (by simp) (AllReadyH.cons (o := o) rfl h AllReadyH.nil)
theorem steps_15 {P : Program} {md : Region.Mode} {Q : Exit → Act → World → Prop} {S : World → Prop} {x0 x1 x2 x3 x4 x5 x6 x7 x8 x9 x10 x11 x12 x13 x14 o : Oper} {l : List Oper} {fuel : Nat} {listed : Array Bool} {a : Act} {w : World}
    (hr : Region.ready md (x0 :: x1 :: x2 :: x3 :: x4 :: x5 :: x6 :: x7 :: x8 :: x9 :: x10 :: x11 :: x12 :: x13 :: x14 :: o :: l).toArray listed = [15])
    (h : ∀ K' : Act → World → Prop, Shut (∀ a w, S w → (S w → wpAnyH P md (x0 :: x1 :: x2 :: x3 :: x4 :: x5 :: x6 :: x7 :: x8 :: x9 :: x10 :: x11 :: x12 :: x13 :: x14 :: o :: l).toArray Q S fuel (listed.setIfInBounds 15 true) a w) → K' a w) → if Region.wanted o (yielded (x0 :: x1 :: x2 :: x3 :: x4 :: x5 :: x6 :: x7 :: x8 :: x9 :: x10 :: x11 :: x12 :: x13 :: x14 :: o :: l).toArray a.tmps) = true then Oper.wp P o a w K' Q else K' (a.put o.dst undef) w) :
    wpAnyH P md (x0 :: x1 :: x2 :: x3 :: x4 :: x5 :: x6 :: x7 :: x8 :: x9 :: x10 :: x11 :: x12 :: x13 :: x14 :: o :: l).toArray Q S (fuel + 1) listed a w :=
  wpAnyH_ready hr (by simp) (AllReadyH.cons (o := o) rfl h AllReadyH.nil)
theorem pair_10_12 {P : Program} {md : Region.Mode} {Q : Exit → Act → World → Prop} {S : World → Prop} {x0 x1 x2 x3 x4 x5 x6 x7 x8 x9 x10 x11 o : Oper} {l : List Oper} {fuel : Nat} {listed : Array Bool} {a : Act} {w : World}
    (hr : Region.ready md (x0 :: x1 :: x2 :: x3 :: x4 :: x5 :: x6 :: x7 :: x8 :: x9 :: x10 :: x11 :: o :: l).toArray listed = [10, 12])
    (h : ∀ K' : Act → World → Prop, Shut (∀ a w, S w → (S w → wpAnyH P md (x0 :: x1 :: x2 :: x3 :: x4 :: x5 :: x6 :: x7 :: x8 :: x9 :: x10 :: x11 :: o :: l).toArray Q S fuel (listed.setIfInBounds 10 true) a w) → K' a w) → if Region.wanted x10 (yielded (x0 :: x1 :: x2 :: x3 :: x4 :: x5 :: x6 :: x7 :: x8 :: x9 :: x10 :: x11 :: o :: l).toArray a.tmps) = true then Oper.wp P x10 a w K' Q else K' (a.put x10.dst undef) w)
    (h' : ∀ K' : Act → World → Prop, Shut (∀ a w, S w → (S w → wpAnyH P md (x0 :: x1 :: x2 :: x3 :: x4 :: x5 :: x6 :: x7 :: x8 :: x9 :: x10 :: x11 :: o :: l).toArray Q S fuel (listed.setIfInBounds 12 true) a w) → K' a w) → if Region.wanted o (yielded (x0 :: x1 :: x2 :: x3 :: x4 :: x5 :: x6 :: x7 :: x8 :: x9 :: x10 :: x11 :: o :: l).toArray a.tmps) = true then Oper.wp P o a w K' Q else K' (a.put o.dst undef) w) :
    wpAnyH P md (x0 :: x1 :: x2 :: x3 :: x4 :: x5 :: x6 :: x7 :: x8 :: x9 :: x10 :: x11 :: o :: l).toArray Q S (fuel + 1) listed a w :=
  wpAnyH_ready hr (by simp) (AllReadyH.cons (o := x10) rfl h (AllReadyH.cons (o := o) rfl h' AllReadyH.nil))
theorem pair_10_13 {P : Program} {md : Region.Mode} {Q : Exit → Act → World → Prop} {S : World → Prop} {x0 x1 x2 x3 x4 x5 x6 x7 x8 x9 x10 x11 x12 o : Oper} {l : List Oper} {fuel : Nat} {listed : Array Bool} {a : Act} {w : World}
    (hr : Region.ready md (x0 :: x1 :: x2 :: x3 :: x4 :: x5 :: x6 :: x7 :: x8 :: x9 :: x10 :: x11 :: x12 :: o :: l).toArray listed = [10, 13])
    (h : ∀ K' : Act → World → Prop, Shut (∀ a w, S w → (S w → wpAnyH P md (x0 :: x1 :: x2 :: x3 :: x4 :: x5 :: x6 :: x7 :: x8 :: x9 :: x10 :: x11 :: x12 :: o :: l).toArray Q S fuel (listed.setIfInBounds 10 true) a w) → K' a w) → if Region.wanted x10 (yielded (x0 :: x1 :: x2 :: x3 :: x4 :: x5 :: x6 :: x7 :: x8 :: x9 :: x10 :: x11 :: x12 :: o :: l).toArray a.tmps) = true then Oper.wp P x10 a w K' Q else K' (a.put x10.dst undef) w)
    (h' : ∀ K' : Act → World → Prop, Shut (∀ a w, S w → (S w → wpAnyH P md (x0 :: x1 :: x2 :: x3 :: x4 :: x5 :: x6 :: x7 :: x8 :: x9 :: x10 :: x11 :: x12 :: o :: l).toArray Q S fuel (listed.setIfInBounds 13 true) a w) → K' a w) → if Region.wanted o (yielded (x0 :: x1 :: x2 :: x3 :: x4 :: x5 :: x6 :: x7 :: x8 :: x9 :: x10 :: x11 :: x12 :: o :: l).toArray a.tmps) = true then Oper.wp P o a w K' Q else K' (a.put o.dst undef) w) :
    wpAnyH P md (x0 :: x1 :: x2 :: x3 :: x4 :: x5 :: x6 :: x7 :: x8 :: x9 :: x10 :: x11 :: x12 :: o :: l).toArray Q S (fuel + 1) listed a w :=
  wpAnyH_ready hr (by simp) (AllReadyH.cons (o := x10) rfl h (AllReadyH.cons (o := o) rfl h' AllReadyH.nil))
end Go.Proofs.Ytjgmlpfallakmaa
end
section
namespace Go.Proofs.Ytjgmlpfallakmaa
open Go.RowKit
set_option maxRecDepth 100000 in
theorem foldl_put : ∀ (l : List Value) (k : Nat) (cells : Array Value), k + l.length ≤ cells.size →
    (l.zipIdx k).foldl (fun (cs : Array Value) (x : Value × Nat) => cs.setIfInBounds (0 + x.2) x.1) cells = (cells.toList.take k ++ l ++ cells.toList.drop (k + l.length)).toArray
  | [], k, cells, _ => by simp
  | c :: l, k, cells, h => by
    rw [List.zipIdx_cons, List.foldl_cons, foldl_put l (k + 1) _ (by simp at h ⊢; omega)]
    have e := list_seg_step cells.toList k c l (by simp at h ⊢; omega)
    simp only [Nat.zero_add]
    rw [Array.toList_setIfInBounds, List.length_cons, show k + (l.length + 1) = k + 1 + l.length by omega]
    congr 1
    simpa [Nat.add_assoc, Nat.add_comm, Nat.add_left_comm] using e
set_option maxRecDepth 100000 in
theorem run_build1 (w : World) (C : Array Value) (hC : C.size = 128) : (Instr.buildSlice 61 1 #[(0, .agg C)]).run Try.prog w = .ok (.slice (some ⟨w.heap.size, 0, none⟩) 1 1) (w.alloc (.cells C 82)) := by
  obtain ⟨i, hi, hs⟩ : ∃ i, Try.prog.info? 82 = some i ∧ i.size = 128 := by
    cases hq : Try.prog.info? 82 with
    | none => have := size62; rw [hq] at this; cases this
    | some i => have := size62; rw [hq] at this; exact ⟨i, rfl, by simpa using this⟩
  have hz := zero62
  obtain ⟨Z, hZ⟩ : ∃ Z : Array Value, Array.replicate 128 (.int .u8 0) = Z := ⟨_, rfl⟩
  rw [hZ] at hz
  obtain ⟨X, hX⟩ : ∃ X : Array Value, (Array.range 128).map (fun j => Z[j % Z.size]!) = X := ⟨_, rfl⟩
  have hXs : X.size = 128 := by rw [← hX]; simp
  have hf : Instr.fill (fun i => some (i * 128, 128)) X [(0, .agg C)] = some C := by
    have h1 := foldl_put C.toList 0 X (by simp; omega)
    simp only [Instr.fill, Value.cells, hC, hXs, Nat.zero_mul, Nat.zero_add] at h1 ⊢
    simp only [ne_eq, not_true_eq_false, decide_false, Nat.lt_irrefl, gt_iff_lt, Bool.or_self, Bool.false_eq_true, ↓reduceIte]
    rw [← Array.foldl_toList, Array.toList_zipIdx]
    congr 1
    rw [h1, List.drop_eq_nil_of_le (by simp; omega)]
    simp
  simp [Instr.buildSlice, run_underlying Try.underlying61, sizeOf, typeInfo, hi, hs, hz, hX, hf, newRow, Value.cells, Result.andThen]
end Go.Proofs.Ytjgmlpfallakmaa
end
section
namespace Go.Proofs.Ytjgmlpfallakmaa
section
variable {P : Program} {md : Region.Mode} {ops : Array Oper} {Q' : Exit → Act → World → Prop} {S C : World → Prop} {Q : Act → Prop}
/-- a tail that is quiet in the class C, all of whose worlds meet S -/
theorem wpAnyH_of_quiet (hCS : ∀ w, C w → S w) (hQ : ∀ a w, C w → Q a → Q' .normal a w) : ∀ (fuel : Nat) (listed : Array Bool) (a : Act) (w : World), C w →
    wpAnyQ P md ops C Q fuel listed a → wpAnyH P md ops Q' S fuel listed a w
  | 0, _, _, _, hw, h => ⟨h.1, hQ _ _ hw h.2⟩
  | fuel + 1, _, _, _, hw, h => ⟨fun h0 => hQ _ _ hw (h.1 h0), fun i hi => wpOp_of_qOp hw (fun a' w' hw' hk => ⟨hCS _ hw', wpAnyH_of_quiet hCS hQ fuel _ a' w' hw' hk⟩) (h.2 i hi)⟩
end
theorem take_0 {P : Program} {md : Region.Mode} {Q : Exit → Act → World → Prop} {S : World → Prop} {o : Oper} {l : List Oper} {v : Value} {fuel : Nat} {listed : Array Bool} {a : Act} {w : World}
    (hs : Region.noSelect (o :: l).toArray = true) (hf : Region.free md (o :: l).toArray listed 0 = true) (hr : (Region.ready md (o :: l).toArray listed).contains 0 = true)
    (hQ : ∀ c a w, Q (.panic c) (a.put o.dst v) w → Q (.panic c) a w) (hw : Region.wanted o (yielded (o :: l).toArray a.tmps) = true) (hy : ∀ w, S w → (execOp a.eval o).run P w = .ok (.value v) w) (hS : S w)
    (h : wpAnyH P md (o :: l).toArray Q S fuel (listed.setIfInBounds 0 true) (a.put o.dst v) w) : wpAnyH P md (o :: l).toArray Q S (fuel + 1) listed a w :=
  wpAnyH_take (i := 0) (oi := o) rfl hs hf hr hQ (Or.inl ⟨hw, hy⟩) hS h
theorem take_1 {P : Program} {md : Region.Mode} {Q : Exit → Act → World → Prop} {S : World → Prop} {x0 o : Oper} {l : List Oper} {v : Value} {fuel : Nat} {listed : Array Bool} {a : Act} {w : World}
    (hs : Region.noSelect (x0 :: o :: l).toArray = true) (hf : Region.free md (x0 :: o :: l).toArray listed 1 = true) (hr : (Region.ready md (x0 :: o :: l).toArray listed).contains 1 = true)
    (hQ : ∀ c a w, Q (.panic c) (a.put o.dst v) w → Q (.panic c) a w) (hw : Region.wanted o (yielded (x0 :: o :: l).toArray a.tmps) = true) (hy : ∀ w, S w → (execOp a.eval o).run P w = .ok (.value v) w) (hS : S w)
    (h : wpAnyH P md (x0 :: o :: l).toArray Q S fuel (listed.setIfInBounds 1 true) (a.put o.dst v) w) : wpAnyH P md (x0 :: o :: l).toArray Q S (fuel + 1) listed a w :=
  wpAnyH_take (i := 1) (oi := o) rfl hs hf hr hQ (Or.inl ⟨hw, hy⟩) hS h
theorem take_2 {P : Program} {md : Region.Mode} {Q : Exit → Act → World → Prop} {S : World → Prop} {x0 x1 o : Oper} {l : List Oper} {v : Value} {fuel : Nat} {listed : Array Bool} {a : Act} {w : World}
    (hs : Region.noSelect (x0 :: x1 :: o :: l).toArray = true) (hf : Region.free md (x0 :: x1 :: o :: l).toArray listed 2 = true) (hr : (Region.ready md (x0 :: x1 :: o :: l).toArray listed).contains 2 = true)
    (hQ : ∀ c a w, Q (.panic c) (a.put o.dst v) w → Q (.panic c) a w) (hw : Region.wanted o (yielded (x0 :: x1 :: o :: l).toArray a.tmps) = true) (hy : ∀ w, S w → (execOp a.eval o).run P w = .ok (.value v) w) (hS : S w)
    (h : wpAnyH P md (x0 :: x1 :: o :: l).toArray Q S fuel (listed.setIfInBounds 2 true) (a.put o.dst v) w) : wpAnyH P md (x0 :: x1 :: o :: l).toArray Q S (fuel + 1) listed a w :=
  wpAnyH_take (i := 2) (oi := o) rfl hs hf hr hQ (Or.inl ⟨hw, hy⟩) hS h
theorem take_3 {P : Program} {md : Region.Mode} {Q : Exit → Act → World → Prop} {S : World → Prop} {x0 x1 x2 o : Oper} {l : List Oper} {v : Value} {fuel : Nat} {listed : Array Bool} {a : Act} {w : World}
    (hs : Region.noSelect (x0 :: x1 :: x2 :: o :: l).toArray = true) (hf : Region.free md (x0 :: x1 :: x2 :: o :: l).toArray listed 3 = true) (hr : (Region.ready md (x0 :: x1 :: x2 :: o :: l).toArray listed).contains 3 = true)
    (hQ : ∀ c a w, Q (.panic c) (a.put o.dst v) w → Q (.panic c) a w) (hw : Region.wanted o (yielded (x0 :: x1 :: x2 :: o :: l).toArray a.tmps) = true) (hy : ∀ w, S w → (execOp a.eval o).run P w = .ok (.value v) w) (hS : S w)
    (h : wpAnyH P md (x0 :: x1 :: x2 :: o :: l).toArray Q S fuel (listed.setIfInBounds 3 true) (a.put o.dst v) w) : wpAnyH P md (x0 :: x1 :: x2 :: o :: l).toArray Q S (fuel + 1) listed a w :=
  wpAnyH_take (i := 3) (oi := o) rfl hs hf hr hQ (Or.inl ⟨hw, hy⟩) hS h
theorem take_4 {P : Program} {md : Region.Mode} {Q : Exit → Act → World → Prop} {S : World → Prop} {x0 x1 x2 x3 o : Oper} {l : List Oper} {v : Value} {fuel : Nat} {listed : Array Bool} {a : Act} {w : World}
    (hs : Region.noSelect (x0 :: x1 :: x2 :: x3 :: o :: l).toArray = true) (hf : Region.free md (x0 :: x1 :: x2 :: x3 :: o :: l).toArray listed 4 = true) (hr : (Region.ready md (x0 :: x1 :: x2 :: x3 :: o :: l).toArray listed).contains 4 = true)
    (hQ : ∀ c a w, Q (.panic c) (a.put o.dst v) w → Q (.panic c) a w) (hw : Region.wanted o (yielded (x0 :: x1 :: x2 :: x3 :: o :: l).toArray a.tmps) = true) (hy : ∀ w, S w → (execOp a.eval o).run P w = .ok (.value v) w) (hS : S w)
    (h : wpAnyH P md (x0 :: x1 :: x2 :: x3 :: o :: l).toArray Q S fuel (listed.setIfInBounds 4 true) (a.put o.dst v) w) : wpAnyH P md (x0 :: x1 :: x2 :: x3 :: o :: l).toArray Q S (fuel + 1) listed a w :=
  wpAnyH_take (i := 4) (oi := o) rfl hs hf hr hQ (Or.inl ⟨hw, hy⟩) hS h
theorem take_6 {P : Program} {md : Region.Mode} {Q : Exit → Act → World → Prop} {S : World → Prop} {x0 x1 x2 x3 x4 x5 o : Oper} {l : List Oper} {v : Value} {fuel : Nat} {listed : Array Bool} {a : Act} {w : World}
    (hs : Region.noSelect (x0 :: x1 :: x2 :: x3 :: x4 :: x5 :: o :: l).toArray = true) (hf : Region.free md (x0 :: x1 :: x2 :: x3 :: x4 :: x5 :: o :: l).toArray listed 6 = true) (hr : (Region.ready md (x0 :: x1 :: x2 :: x3 :: x4 :: x5 :: o :: l).toArray listed).contains 6 = true)
    (hQ : ∀ c a w, Q (.panic c) (a.put o.dst v) w → Q (.panic c) a w) (hw : Region.wanted o (yielded (x0 :: x1 :: x2 :: x3 :: x4 :: x5 :: o :: l).toArray a.tmps) = true) (hy : ∀ w, S w → (execOp a.eval o).run P w = .ok (.value v) w) (hS : S w)
    (h : wpAnyH P md (x0 :: x1 :: x2 :: x3 :: x4 :: x5 :: o :: l).toArray Q S fuel (listed.setIfInBounds 6 true) (a.put o.dst v) w) : wpAnyH P md (x0 :: x1 :: x2 :: x3 :: x4 :: x5 :: o :: l).toArray Q S (fuel + 1) listed a w :=
  wpAnyH_take (i := 6) (oi := o) rfl hs hf hr hQ (Or.inl ⟨hw, hy⟩) hS h
theorem take_7 {P : Program} {md : Region.Mode} {Q : Exit → Act → World → Prop} {S : World → Prop} {x0 x1 x2 x3 x4 x5 x6 o : Oper} {l : List Oper} {v : Value} {fuel : Nat} {listed : Array Bool} {a : Act} {w : World}
    (hs : Region.noSelect (x0 :: x1 :: x2 :: x3 :: x4 :: x5 :: x6 :: o :: l).toArray = true) (hf : Region.free md (x0 :: x1 :: x2 :: x3 :: x4 :: x5 :: x6 :: o :: l).toArray listed 7 = true) (hr : (Region.ready md (x0 :: x1 :: x2 :: x3 :: x4 :: x5 :: x6 :: o :: l).toArray listed).contains 7 = true)
    (hQ : ∀ c a w, Q (.panic c) (a.put o.dst v) w → Q (.panic c) a w) (hw : Region.wanted o (yielded (x0 :: x1 :: x2 :: x3 :: x4 :: x5 :: x6 :: o :: l).toArray a.tmps) = true) (hy : ∀ w, S w → (execOp a.eval o).run P w = .ok (.value v) w) (hS : S w)
    (h : wpAnyH P md (x0 :: x1 :: x2 :: x3 :: x4 :: x5 :: x6 :: o :: l).toArray Q S fuel (listed.setIfInBounds 7 true) (a.put o.dst v) w) : wpAnyH P md (x0 :: x1 :: x2 :: x3 :: x4 :: x5 :: x6 :: o :: l).toArray Q S (fuel + 1) listed a w :=
  wpAnyH_take (i := 7) (oi := o) rfl hs hf hr hQ (Or.inl ⟨hw, hy⟩) hS h
theorem take_8 {P : Program} {md : Region.Mode} {Q : Exit → Act → World → Prop} {S : World → Prop} {x0 x1 x2 x3 x4 x5 x6 x7 o : Oper} {l : List Oper} {v : Value} {fuel : Nat} {listed : Array Bool} {a : Act} {w : World}
    (hs : Region.noSelect (x0 :: x1 :: x2 :: x3 :: x4 :: x5 :: x6 :: x7 :: o :: l).toArray = true) (hf : Region.free md (x0 :: x1 :: x2 :: x3 :: x4 :: x5 :: x6 :: x7 :: o :: l).toArray listed 8 = true) (hr : (Region.ready md (x0 :: x1 :: x2 :: x3 :: x4 :: x5 :: x6 :: x7 :: o :: l).toArray listed).contains 8 = true)
    (hQ : ∀ c a w, Q (.panic c) (a.put o.dst v) w → Q (.panic c) a w) (hw : Region.wanted o (yielded (x0 :: x1 :: x2 :: x3 :: x4 :: x5 :: x6 :: x7 :: o :: l).toArray a.tmps) = true) (hy : ∀ w, S w → (execOp a.eval o).run P w = .ok (.value v) w) (hS : S w)
    (h : wpAnyH P md (x0 :: x1 :: x2 :: x3 :: x4 :: x5 :: x6 :: x7 :: o :: l).toArray Q S fuel (listed.setIfInBounds 8 true) (a.put o.dst v) w) : wpAnyH P md (x0 :: x1 :: x2 :: x3 :: x4 :: x5 :: x6 :: x7 :: o :: l).toArray Q S (fuel + 1) listed a w :=
  wpAnyH_take (i := 8) (oi := o) rfl hs hf hr hQ (Or.inl ⟨hw, hy⟩) hS h
theorem take_9 {P : Program} {md : Region.Mode} {Q : Exit → Act → World → Prop} {S : World → Prop} {x0 x1 x2 x3 x4 x5 x6 x7 x8 o : Oper} {l : List Oper} {v : Value} {fuel : Nat} {listed : Array Bool} {a : Act} {w : World}
    (hs : Region.noSelect (x0 :: x1 :: x2 :: x3 :: x4 :: x5 :: x6 :: x7 :: x8 :: o :: l).toArray = true) (hf : Region.free md (x0 :: x1 :: x2 :: x3 :: x4 :: x5 :: x6 :: x7 :: x8 :: o :: l).toArray listed 9 = true) (hr : (Region.ready md (x0 :: x1 :: x2 :: x3 :: x4 :: x5 :: x6 :: x7 :: x8 :: o :: l).toArray listed).contains 9 = true)
    (hQ : ∀ c a w, Q (.panic c) (a.put o.dst v) w → Q (.panic c) a w) (hw : Region.wanted o (yielded (x0 :: x1 :: x2 :: x3 :: x4 :: x5 :: x6 :: x7 :: x8 :: o :: l).toArray a.tmps) = true) (hy : ∀ w, S w → (execOp a.eval o).run P w = .ok (.value v) w) (hS : S w)
    (h : wpAnyH P md (x0 :: x1 :: x2 :: x3 :: x4 :: x5 :: x6 :: x7 :: x8 :: o :: l).toArray Q S fuel (listed.setIfInBounds 9 true) (a.put o.dst v) w) : wpAnyH P md (x0 :: x1 :: x2 :: x3 :: x4 :: x5 :: x6 :: x7 :: x8 :: o :: l).toArray Q S (fuel + 1) listed a w :=
  wpAnyH_take (i := 9) (oi := o) rfl hs hf hr hQ (Or.inl ⟨hw, hy⟩) hS h
theorem take_10 {P : Program} {md : Region.Mode} {Q : Exit → Act → World → Prop} {S : World → Prop} {x0 x1 x2 x3 x4 x5 x6 x7 x8 x9 o : Oper} {l : List Oper} {v : Value} {fuel : Nat} {listed : Array Bool} {a : Act} {w : World}
    (hs : Region.noSelect (x0 :: x1 :: x2 :: x3 :: x4 :: x5 :: x6 :: x7 :: x8 :: x9 :: o :: l).toArray = true) (hf : Region.free md (x0 :: x1 :: x2 :: x3 :: x4 :: x5 :: x6 :: x7 :: x8 :: x9 :: o :: l).toArray listed 10 = true) (hr : (Region.ready md (x0 :: x1 :: x2 :: x3 :: x4 :: x5 :: x6 :: x7 :: x8 :: x9 :: o :: l).toArray listed).contains 10 = true)
    (hQ : ∀ c a w, Q (.panic c) (a.put o.dst v) w → Q (.panic c) a w) (hw : Region.wanted o (yielded (x0 :: x1 :: x2 :: x3 :: x4 :: x5 :: x6 :: x7 :: x8 :: x9 :: o :: l).toArray a.tmps) = true) (hy : ∀ w, S w → (execOp a.eval o).run P w = .ok (.value v) w) (hS : S w)
    (h : wpAnyH P md (x0 :: x1 :: x2 :: x3 :: x4 :: x5 :: x6 :: x7 :: x8 :: x9 :: o :: l).toArray Q S fuel (listed.setIfInBounds 10 true) (a.put o.dst v) w) : wpAnyH P md (x0 :: x1 :: x2 :: x3 :: x4 :: x5 :: x6 :: x7 :: x8 :: x9 :: o :: l).toArray Q S (fuel + 1) listed a w :=
  wpAnyH_take (i := 10) (oi := o) rfl hs hf hr hQ (Or.inl ⟨hw, hy⟩) hS h
theorem step_5 {P : Program} {md : Region.Mode} {Q : Exit → Act → World → Prop} {S : World → Prop} {x0 x1 x2 x3 x4 o : Oper} {l : List Oper} {fuel : Nat} {listed : Array Bool} {a : Act} {w : World}
    (hr : Region.ready md (x0 :: x1 :: x2 :: x3 :: x4 :: o :: l).toArray listed = [5])
    (h : ∀ K' : Act → World → Prop, Shut (∀ a w, S w → (S w → wpAnyH P md (x0 :: x1 :: x2 :: x3 :: x4 :: o :: l).toArray Q S fuel (listed.setIfInBounds 5 true) a w) → K' a w) → if Region.wanted o (yielded (x0 :: x1 :: x2 :: x3 :: x4 :: o :: l).toArray a.tmps) = true then Oper.wp P o a w K' Q else K' (a.put o.dst undef) w) :
    wpAnyH P md (x0 :: x1 :: x2 :: x3 :: x4 :: o :: l).toArray Q S (fuel + 1) listed a w :=
  wpAnyH_ready hr (by simp) (AllReadyH.cons (o := o) rfl h AllReadyH.nil)
theorem step_11 {P : Program} {md : Region.Mode} {Q : Exit → Act → World → Prop} {S : World → Prop} {x0 x1 x2 x3 x4 x5 x6 x7 x8 x9 x10 o : Oper} {l : List Oper} {fuel : Nat} {listed : Array Bool} {a : Act} {w : World}
    (hr : Region.ready md (x0 :: x1 :: x2 :: x3 :: x4 :: x5 :: x6 :: x7 :: x8 :: x9 :: x10 :: o :: l).toArray listed = [11])
    (h : ∀ K' : Act → World → Prop, Shut (∀ a w, S w → (S w → wpAnyH P md (x0 :: x1 :: x2 :: x3 :: x4 :: x5 :: x6 :: x7 :: x8 :: x9 :: x10 :: o :: l).toArray Q S fuel (listed.setIfInBounds 11 true) a w) → K' a w) → if Region.wanted o (yielded (x0 :: x1 :: x2 :: x3 :: x4 :: x5 :: x6 :: x7 :: x8 :: x9 :: x10 :: o :: l).toArray a.tmps) = true then Oper.wp P o a w K' Q else K' (a.put o.dst undef) w) :
    wpAnyH P md (x0 :: x1 :: x2 :: x3 :: x4 :: x5 :: x6 :: x7 :: x8 :: x9 :: x10 :: o :: l).toArray Q S (fuel + 1) listed a w :=
  wpAnyH_ready hr (by simp) (AllReadyH.cons (o := o) rfl h AllReadyH.nil)
/-- behind twelve operations the tail, in its lexical order -/
theorem tail_12 {P : Program} {md : Region.Mode} {Q' : Exit → Act → World → Prop} {S : World → Prop} {x0 x1 x2 x3 x4 x5 x6 x7 x8 x9 x10 x11 : Oper} {l : List Oper} {fuel : Nat} {listed : Array Bool} {a : Act} {w : World}
    (hf : fuel = l.length) (hs : Region.noSelect (x0 :: x1 :: x2 :: x3 :: x4 :: x5 :: x6 :: x7 :: x8 :: x9 :: x10 :: x11 :: l).toArray = true) (hB : Region.lexFrom md (x0 :: x1 :: x2 :: x3 :: x4 :: x5 :: x6 :: x7 :: x8 :: x9 :: x10 :: x11 :: l).toArray l.length 12 listed = true) (hCS : ∀ n, S (w.drewN n))
    (h : wpQuiet P (x0 :: x1 :: x2 :: x3 :: x4 :: x5 :: x6 :: x7 :: x8 :: x9 :: x10 :: x11 :: l).toArray (fun w' => ∃ n, w' = w.drewN n) (fun a' => ∀ w', (∃ n, w' = w.drewN n) → Q' .normal a' w') l a) : wpAnyH P md (x0 :: x1 :: x2 :: x3 :: x4 :: x5 :: x6 :: x7 :: x8 :: x9 :: x10 :: x11 :: l).toArray Q' S fuel listed a w := by
  subst hf
  exact wpAnyH_of_quiet (C := fun w' => ∃ n, w' = w.drewN n) (fun w' ⟨n, hn⟩ => hn ▸ hCS n) (fun _ w' hw' h => h w' hw') _ _ _ _ ⟨0, rfl⟩ (wpAnyQ_lex hs l 12 listed a (fun j => by simp; rw [show 12 + j = j + 12 from by omega]; simp) hB h)
end Go.Proofs.Ytjgmlpfallakmaa
end
section
namespace Go.Proofs.Ytjgmlpfallakmaa
open Go.RowKit
attribute [local go_sem ↓] Go.wp_at_zero Go.wp_at_succ
theorem touch_map {w w1 : World} {b : Nat} (h : w.grownBy w1 (some b)) : Touch [b] w w1 := ⟨h.os, h.tape, h.output, h.size, fun k hk hn => h.block k hk (fun e => hn (by injection e with e; simp [e]))⟩
set_option maxRecDepth 4000 in
set_option maxHeartbeats 800000 in
theorem dev_write_not (w : World) (p : Nat) (d : RD) (F : List Nat) (i : Int) (s : ByteArray) (h : DevAt w p d F) (hn : ¬ (d.has i && decide (s.size = 128)) = true) :
    Calls Try.prog 20 #[.pointer (some ⟨p, 0, none⟩), .int .i64 i, .string s] w (Did DevAt w p F (d.writeD i s) (.returned (.int .i64 (d.writeE i s)))) := by
  have hh := dev_has w p d F i h
  have HE : Hid (d.writeD i s = d ∧ d.writeE i s = 1) := Lib.hid (by unfold RD.writeD RD.writeE; rw [if_neg hn, if_neg hn]; exact ⟨rfl, rfl⟩)
  have HA := Lib.hid h
  clear h
  cases hi : d.has i
  · rw [hi] at hh
    have HH := Lib.hid hh
    clear hh hn hi
    go_enter Try.func20, Try.ntmps20
    go_wp2_with (go_at_call 40; refine HH.out.mono ?_; rintro _ _ ⟨rfl, rfl⟩)
    go_ret
    refine ⟨by rw [HE.out.2]; rfl, ?_⟩
    rw [HE.out.1]
    exact ⟨F, HA.out, Touch.refl _ _, Grows.refl _ _⟩
  · rw [hi] at hh
    have HH := Lib.hid hh
    have d8 : ((s.size : Int) != 128) = true := by rw [hi] at hn; simp at hn; simp; omega
    clear hh hn hi
    go_enter Try.func20, Try.ntmps20
    go_wp2_with (go_at_call 40; refine HH.out.mono ?_; rintro _ _ ⟨rfl, rfl⟩)
    go_ret
    refine ⟨by rw [HE.out.2]; rfl, ?_⟩
    rw [HE.out.1]
    exact ⟨F, HA.out, Touch.refl _ _, Grows.refl _ _⟩
section
variable {P : Program} {w w' : World} {ops : Array Oper} {o : Oper} {a : Act} {K : Act → World → Prop} {Q : Exit → Act → World → Prop} {E : Prop}
/-- a slice literal, as one step of a region that draws, where its run is known by an equation -/
theorem step_buildSlice (hgd : o.guard = none) (t : TypeId) (n : Nat) (x : Operand) (ho : o.op = .buildSlice t n #[(0, x)]) {u v : Value} (hp : a.eval x = u)
    (hr : (Instr.buildSlice t n #[(0, u)]).run P w = .ok v w') (h : K (a.put o.dst v) w') : if Region.wanted o (yielded ops a.tmps) = true then Oper.wp P o a w K Q else E := by
  have hw : Region.wanted o (yielded ops a.tmps) = true := by simp [Region.wanted, hgd]
  rw [if_pos hw]
  unfold Oper.wp execOp
  simp only [ho, List.map_toArray, List.map_cons, List.map_nil, hp, hr, Sem.run_bind, Result.andThen_ok, Sem.run_pure]
  exact h
end
set_option maxRecDepth 4000 in
set_option maxHeartbeats 3200000 in
theorem dev_write (w : World) (p : Nat) (d : RD) (F : List Nat) (K : Nat) (hK : K ≤ 1000000) (ok : RD.Ok K d) (i : Int) (s : ByteArray) (h : DevAt w p d F) :
    Calls Try.prog 20 #[.pointer (some ⟨p, 0, none⟩), .int .i64 i, .string s] w (Did DevAt w p F (d.writeD i s) (.returned (.int .i64 (d.writeE i s)))) := by
  by_cases hc : (d.has i && decide (s.size = 128)) = true
  case neg => exact dev_write_not w p d F i s h hc
  have hh := dev_has w p d F i h
  have hst := dev_step w p d F K hK ok h
  have hl := ok.row
  have hw := ok.wrote
  clear h
  have hD : d.writeD i s = if d.goes then { d.stepped with row := d.row ++ [(i.toNat, s)], wrote := d.wrote + 1 } else d.stepped := by unfold RD.writeD; rw [if_pos hc]
  have hE : d.writeE i s = if d.goes then 0 else 6 := by unfold RD.writeE; rw [if_pos hc]
  rw [Bool.and_eq_true, decide_eq_true_eq] at hc
  obtain ⟨hi, h8⟩ := hc
  rw [hi] at hh
  unfold RD.has at hi
  simp only [Bool.and_eq_true, decide_eq_true_eq] at hi
  obtain ⟨i0, i1⟩ := hi
  obtain ⟨q, rfl⟩ := Int.eq_ofNat_of_zero_le i0
  have hq : q < d.sector.length := by omega
  have d8 : ((s.size : Int) != 128) = false := by rw [h8]; rfl
  have HH := Lib.hid hh
  cases hg : d.goes
  · have HD : Hid (d.writeD (q : Int) s = d.stepped ∧ d.writeE (q : Int) s = 6) := Lib.hid ⟨by rw [hD, hg]; rfl, by rw [hE, hg]; rfl⟩
    have hsE : d.syncE = 6 := by unfold RD.syncE; rw [hg]; rfl
    rw [hsE] at hst
    have HST := Lib.hid hst
    clear hst hD hE hh hg hsE hl hw i0 i1 hq
    go_enter Try.func20, Try.ntmps20
    go_wp2_with (first | (go_at_call 40; refine HH.out.mono ?_; rintro _ _ ⟨rfl, rfl⟩) | (go_at_call 41; refine HST.out.mono ?_; rintro _ w1 ⟨rfl, HA⟩))
    go_ret
    refine ⟨by rw [HD.out.2]; rfl, ?_⟩
    rw [HD.out.1]
    exact HA
  · have HD : Hid (d.writeD (q : Int) s = { d.stepped with row := d.row ++ [(q, s)], wrote := d.wrote + 1 } ∧ d.writeE (q : Int) s = 0) := Lib.hid ⟨by rw [hD, hg]; rfl, by rw [hE, hg]; rfl⟩
    have hsE : d.syncE = 0 := by unfold RD.syncE; rw [hg]; rfl
    rw [hsE] at hst
    have HST := Lib.hid hst
    have e1 := RD.stepped_sector d
    have e2 := RD.stepped_row d
    have e3 := RD.stepped_wrote d
    obtain ⟨d1, hd1⟩ : ∃ d1, d.stepped = d1 := ⟨_, rfl⟩
    rw [hd1] at HST HD e1 e2 e3
    have HE1 := Lib.hid (And.intro e1 (And.intro e2 e3))
    have HSO : Hid (∀ w, Calls Try.prog 42 #[.string s] w fun e w' => e = .returned (sagg s) ∧ Below w.heap.size w w') := Lib.hid (fun w => sectorOf42 s h8 w)
    obtain ⟨C, hC⟩ : ∃ C : Array Value, (sbytes s).toArray = C := ⟨_, rfl⟩
    have hCl : C.toList = sbytes s := by rw [← hC]
    have hCs : C.size = 128 := by rw [← hC, List.size_toArray, sbytes_length, h8]
    unfold sagg at HSO
    rw [hC] at HSO
    have HCL := Lib.hid hCl
    have HCS := Lib.hid hCs
    have H8 := Lib.hid h8
    clear hst hD hE hh hg hsE i0 i1 hd1 e1 e2 e3 hC hCl hCs h8
    go_enter Try.func20, Try.ntmps20
    go_upto_region 8 with (first | (go_at_call 40; refine HH.out.mono ?_; rintro _ _ ⟨rfl, rfl⟩) | (go_at_call 41; refine HST.out.mono ?_; rintro _ w1 ⟨rfl, F1, hA1, hT1, hG1⟩))
    obtain ⟨vs, mb, n, f, hb, hs, hm, hn, hr, hr2, k1, k2, k3, ⟨m1, m2, m3, m4⟩, hlt, hz, hz2⟩ := hA1
    obtain ⟨e1, e2, e3⟩ := HE1.out
    rw [e2] at hn hr2 hz2
    rw [e1] at hs hz
    simp only [e1, e2] at hr
    obtain ⟨v0, hv0⟩ : ∃ v0, (f q).getD (.slice none 0 0) = v0 := ⟨_, rfl⟩
    have hown : w1.ownsRow 0 82 128 v0 (RD.writes d.row q).length (secs (RD.writes d.row q)) := by
      cases hf : f q with
      | none =>
        have : RD.writes d.row q = [] := by
          cases hw : RD.writes d.row q with
          | nil => rfl
          | cons a l =>
            obtain ⟨v, hv⟩ := hr2 q (by rw [hw]; simp)
            rw [hf] at hv
            cases hv
        rw [this, ← hv0, hf]
        exact World.ownsRow_nil _ _ _ _
      | some v =>
        obtain ⟨i, hi, _, _, ho⟩ := hr q v hf
        have : q = i := by omega
        subst this
        rw [← hv0, hf]
        exact ho
    have HLK : Hid (∀ wx : World, Touch [] w1 wx → (Instr.lookup 62 (.map (some mb)) (.int .i64 q) false).run Try.prog wx = .ok v0 wx) := Lib.hid (fun wx hx => by
      rw [← hv0]
      exact (hm.touch hx (by simp)).lookup Try.underlying62 Try.underlying3 (zero55 wx) q)
    have HC2 : Hid (∀ wx : World, Touch [] w1 wx → wx.cell? ⟨p, 2, none⟩ = some (.map (some mb))) := Lib.hid (fun wx hx => (hb.touch hx (by simp)).cell 2)
    have hwl := RD.writes_length_le d.row q
    have HM := Lib.hid hm
    have HNE : Hid (∀ g, v0.ownBlock = some g → g ≠ p ∧ g ≠ mb) := Lib.hid (by
      intro g hg
      cases hf : f q with
      | none => rw [hf] at hv0; rw [← hv0] at hg; cases hg
      | some v =>
        rw [hf] at hv0
        have : v = v0 := hv0
        subst this
        exact ⟨fun e => (k2 q v hf).1 (by rw [hg, e]), fun e => (k2 q v hf).2.1 (by rw [hg, e])⟩)
    have HB : Hid (Blk w1 p #[.bool (!d1.off), vs, .map (some mb), .int .i64 d1.left, .int .i64 d.wrote, .int .i64 d1.count] 64) := Lib.hid (by rw [← e3]; exact hb)
    have KNE := Lib.hid k1.1
    have HOWN := Lib.hid hown
    have HEND := Lib.hid (fun (w2 w3 : World) (g cap : Nat) => write_end (w1 := w1) (w2 := w2) (w3 := w3) (p := p) (d := d) (d1 := d1) (F := F1) (vs := vs) (mb := mb) (n := n) (f := f) (q := q) (s := s) (v0 := v0) (g := g) (cap := cap) e1 HB.out hs hn hr hr2 k1 k2 k3 ⟨m1, m2, m3, m4⟩ hlt hz hz2 H8.out hq hv0)
    obtain ⟨Z, ii, hii⟩ : ∃ (Z : Array Value) (ii : TypeInfo), Try.prog.info? 82 = some ii ∧ ii.zero = some (.agg Z) ∧ ii.size = 128 ∧ ii.bytes = 128 ∧ Z.size = 128 := by
      cases hq : Try.prog.info? 82 with
      | none => have := info62; rw [hq] at this; cases this
      | some i =>
        have h1 := info62
        have h2 : (Try.prog.info? 82).map (·.bytes) = some 128 := by kernel_rfl
        rw [hq] at h1 h2
        simp at h1 h2
        exact ⟨_, i, rfl, h1.1, h1.2, h2, by simp⟩
    have HII : Hid (Try.prog.info? 82 = some ii ∧ ii.zero = some (.agg Z) ∧ ii.size = 128 ∧ ii.bytes = 128 ∧ (Value.agg Z).cells.size = 128) := Lib.hid hii
    have HT1 := Lib.hid (And.intro hT1 hG1)
    clear hm hv0 hb e1 e2 e3 hs hn hr hr2 k1 k2 k3 m1 m2 m3 m4 hlt hz hz2 hown hii hT1 hG1
    refine wp_region_held_drew (S := fun w' => w'.cell? ⟨p, 2, none⟩ = some (.map (some mb))) (by kernel_rfl) (HC2.out _ (Touch.refl [] w1).drew) (fun hHeld => ?_)
    refine take_0 (v := ?v0) (by kernel_rfl) (by kernel_rfl) (by kernel_rfl) (fun _ _ _ h => h) (by rfl) ?y0 hHeld ?r0
    case y0 => (intro wS hSw; (try dsimp only at hSw); go_simp; try with_reducible rfl)
    try simp only [Act.put, List.setIfInBounds_toArray, List.set_cons_zero, List.set_cons_succ]
    refine take_1 (v := ?v1) (by kernel_rfl) (by kernel_rfl) (by kernel_rfl) (fun _ _ _ h => h) (by rfl) ?y1 hHeld ?r1
    case y1 => (intro wS hSw; (try dsimp only at hSw); go_simp; try with_reducible rfl)
    try simp only [Act.put, List.setIfInBounds_toArray, List.set_cons_zero, List.set_cons_succ]
    refine take_2 (v := ?v2) (by kernel_rfl) (by kernel_rfl) (by kernel_rfl) (fun _ _ _ h => h) (by rfl) ?y2 hHeld ?r2
    case y2 => (intro wS hSw; (try dsimp only at hSw); go_simp; try with_reducible rfl)
    try simp only [Act.put, List.setIfInBounds_toArray, List.set_cons_zero, List.set_cons_succ]
    refine take_3 (v := ?v3) (by kernel_rfl) (by kernel_rfl) (by kernel_rfl) (fun _ _ _ h => h) (by rfl) ?y3 hHeld ?r3
    case y3 => (intro wS hSw; (try dsimp only at hSw); go_simp; try with_reducible rfl)
    try simp only [Act.put, List.setIfInBounds_toArray, List.set_cons_zero, List.set_cons_succ]
    refine take_4 (v := ?v4) (by kernel_rfl) (by kernel_rfl) (by kernel_rfl) (fun _ _ _ h => h) (by rfl) ?y4 hHeld ?r4
    case y4 => (intro wS hSw; (try dsimp only at hSw); go_simp; try with_reducible rfl)
    try simp only [Act.put, List.setIfInBounds_toArray, List.set_cons_zero, List.set_cons_succ]
    refine takes_5 (v := ?v5) (by kernel_rfl) (by kernel_rfl) (by kernel_rfl) (fun _ _ _ h => h) (by rfl) ?y5 hHeld ?r5
    case y5 => (intro wS hSw; (try dsimp only at hSw); go_simp; try with_reducible rfl)
    try simp only [Act.put, List.setIfInBounds_toArray, List.set_cons_zero, List.set_cons_succ]
    refine take_6 (v := ?v6) (by kernel_rfl) (by kernel_rfl) (by kernel_rfl) (fun _ _ _ h => h) (by rfl) ?y6 hHeld ?r6
    case y6 => (intro wS hSw; (try dsimp only at hSw); go_simp; try with_reducible rfl)
    try simp only [Act.put, List.setIfInBounds_toArray, List.set_cons_zero, List.set_cons_succ]
    refine take_7 (v := ?v7) (by kernel_rfl) (by kernel_rfl) (by kernel_rfl) (fun _ _ _ h => h) (by rfl) ?y7 hHeld ?r7
    case y7 => (intro wS hSw; (try dsimp only at hSw); go_simp; try with_reducible rfl)
    try simp only [Act.put, List.setIfInBounds_toArray, List.set_cons_zero, List.set_cons_succ]
    refine take_8 (v := ?v8) (by kernel_rfl) (by kernel_rfl) (by kernel_rfl) (fun _ _ _ h => h) (by rfl) ?y8 hHeld ?r8
    case y8 => (intro wS hSw; (try dsimp only at hSw); go_simp; try with_reducible rfl)
    try simp only [Act.put, List.setIfInBounds_toArray, List.set_cons_zero, List.set_cons_succ]
    refine take_9 (v := ?v9) (by kernel_rfl) (by kernel_rfl) (by kernel_rfl) (fun _ _ _ h => h) (by rfl) ?y9 hHeld ?r9
    case y9 => (intro wS hSw; (try dsimp only at hSw); go_simp; try with_reducible rfl)
    try simp only [Act.put, List.setIfInBounds_toArray, List.set_cons_zero, List.set_cons_succ]
    refine takes_11 (v := ?v11) (by kernel_rfl) (by kernel_rfl) (by kernel_rfl) (fun _ _ _ h => h) (by rfl) ?y11 hHeld ?r11
    case y11 => (intro wS hSw; (try dsimp only at hSw); go_simp; try with_reducible rfl)
    try simp only [Act.put, List.setIfInBounds_toArray, List.set_cons_zero, List.set_cons_succ]
    refine pair_10_12 (by kernel_rfl) (fun K hK => ?_) (fun K hK => ?_)
    · -- the lookup first
      have lk := HLK.out _ ((Touch.refl [] w1).drew)
      go_simp
      refine hK.out _ _ (HC2.out _ ((Touch.refl [] w1).drew)) (fun hHeld => ?_)
      clear hK K lk
      try simp only [Act.put, List.setIfInBounds_toArray, List.set_cons_zero, List.set_cons_succ]
      refine steps_12 (by kernel_rfl) (fun K hK => ?_)
      go_simp
      refine (HSO.out _).mono ?_
      rintro e w5 ⟨rfl, hb5⟩
      have T5 : Touch [] w1 w5 := (Touch.refl _ w1).drew.trans (Touch.ofBelow hb5) (Grows.refl _ _)
      go_wp2_with fail
      refine hK.out _ _ (HC2.out _ T5) (fun hHeld => ?_)
      clear hK K
      try simp only [Act.put, List.setIfInBounds_toArray, List.set_cons_zero, List.set_cons_succ]
      refine steps_13 (by kernel_rfl) (fun K hK => ?_)
      refine step_buildSlice rfl 61 1 _ rfl (u := .agg C) (by rfl) (run_build1 w5 C HCS.out) ?_
      refine hK.out _ _ (HC2.out _ (T5.alloc (.cells C 82))) (fun hHeld => ?_)
      clear hK K
      try simp only [Act.put, List.setIfInBounds_toArray, List.set_cons_zero, List.set_cons_succ]
      refine steps_14 (by kernel_rfl) (fun K hK => ?_)
      refine step_append_lies _ rfl _ _ 61 (by rfl) 0 82 ii (.agg Z) 128 128 Try.underlying61 HII.out.1 HII.out.2.1 HII.out.2.2.1 HII.out.2.2.2.1 HII.out.2.2.2.2 (by omega) v0 _ _ (by rfl) ((ownsRow_touch HOWN.out T5 (by simp)).alloc _)
        ⟨w5.heap.size, 0, none⟩ 1 1 C.toList (by rfl) (by simp [HCS.out]) (World.news_of_block (fr := (0, 0)) (heap_alloc_new w5 (.cells C 82))) (by rw [HCL.out]; exact sbytes_one s) (by omega) (by simp only [maxLen]; omega) (by omega) (Nat.zero_le _) _ rfl ?_
      intro g cap w6 hown6 hgr6 hat6 hlt6
      have T6 : Touch v0.ownBlock.toList w1 w6 := ((T5.alloc (.cells C 82)).more (by simp)).trans (touch_own hgr6) (Grows.refl _ _)
      obtain ⟨w7, hrun7, hm7, hgr7⟩ := (HM.out.touch T6 (fun hh => (HNE.out mb (by simpa using hh)).2 rfl)).update Try.underlying62 Try.underlying3 q (.slice (some ⟨g, 0, none⟩) ((RD.writes d.row q).length + 1) cap)
      have hb6 := HB.out.touch T6 (fun hh => (HNE.out p (by simpa using hh)).1 rfl)
      have hb7 := hb6.touch (touch_map hgr7) (by simp; exact KNE.out)
      refine hK.out _ _ (hb6.cell 2) (fun hHeld => ?_)
      clear hK K
      try simp only [Act.put, List.setIfInBounds_toArray, List.set_cons_zero, List.set_cons_succ]
      refine steps_15 (by kernel_rfl) (fun K hK => ?_)
      go_simp
      refine hK.out _ _ (hb7.cell 2) (fun hHeld => ?_)
      clear hK K
      refine ⟨by kernel_rfl, ?_⟩
      try simp only [Act.put, List.setIfInBounds_toArray, List.set_cons_zero, List.set_cons_succ]
      have y4 : w7.cell? ⟨p, 4, none⟩ = some (.int .i64 d.wrote) := hb7.cell 4
      have y5 := hb7.free 4
      have y6 := hb7.lt
      rw [HCL.out] at hown6
      have HF := Lib.hid (HEND.out _ _ _ _ T6 hown6 (hat6.elim .inl (fun e => .inr (by have := T5.size; rw [e]; simp; omega))) hlt6 hm7 hgr7)
      clear hown6 hgr6 hat6 hm7 hgr7 hb6 hb7 hrun7 T6 T5 hb5 hHeld
      go_wp2
      go_ret
      obtain ⟨F', hA', hT', hG'⟩ := HF.out
      refine ⟨by rw [HD.out.2]; rfl, ?_⟩
      rw [HD.out.1]
      exact ⟨F', hA', HT1.out.1.trans hT' HT1.out.2, HT1.out.2.trans hG' HT1.out.1.size⟩
    · -- the sector first
      go_simp
      refine (HSO.out _).mono ?_
      rintro e w5 ⟨rfl, hb5⟩
      have T5 : Touch [] w1 w5 := (Touch.refl _ w1).drew.trans (Touch.ofBelow hb5) (Grows.refl _ _)
      go_wp2_with fail
      refine hK.out _ _ (HC2.out _ T5) (fun hHeld => ?_)
      clear hK K
      try simp only [Act.put, List.setIfInBounds_toArray, List.set_cons_zero, List.set_cons_succ]
      refine pair_10_13 (by kernel_rfl) (fun K hK => ?_) (fun K hK => ?_)
      · -- then the lookup
        have lk := HLK.out _ (T5)
        go_simp
        refine hK.out _ _ (HC2.out _ (T5)) (fun hHeld => ?_)
        clear hK K lk
        try simp only [Act.put, List.setIfInBounds_toArray, List.set_cons_zero, List.set_cons_succ]
        refine steps_13 (by kernel_rfl) (fun K hK => ?_)
        refine step_buildSlice rfl 61 1 _ rfl (u := .agg C) (by rfl) (run_build1 w5 C HCS.out) ?_
        refine hK.out _ _ (HC2.out _ (T5.alloc (.cells C 82))) (fun hHeld => ?_)
        clear hK K
        try simp only [Act.put, List.setIfInBounds_toArray, List.set_cons_zero, List.set_cons_succ]
        refine steps_14 (by kernel_rfl) (fun K hK => ?_)
        refine step_append_lies _ rfl _ _ 61 (by rfl) 0 82 ii (.agg Z) 128 128 Try.underlying61 HII.out.1 HII.out.2.1 HII.out.2.2.1 HII.out.2.2.2.1 HII.out.2.2.2.2 (by omega) v0 _ _ (by rfl) ((ownsRow_touch HOWN.out T5 (by simp)).alloc _)
          ⟨w5.heap.size, 0, none⟩ 1 1 C.toList (by rfl) (by simp [HCS.out]) (World.news_of_block (fr := (0, 0)) (heap_alloc_new w5 (.cells C 82))) (by rw [HCL.out]; exact sbytes_one s) (by omega) (by simp only [maxLen]; omega) (by omega) (Nat.zero_le _) _ rfl ?_
        intro g cap w6 hown6 hgr6 hat6 hlt6
        have T6 : Touch v0.ownBlock.toList w1 w6 := ((T5.alloc (.cells C 82)).more (by simp)).trans (touch_own hgr6) (Grows.refl _ _)
        obtain ⟨w7, hrun7, hm7, hgr7⟩ := (HM.out.touch T6 (fun hh => (HNE.out mb (by simpa using hh)).2 rfl)).update Try.underlying62 Try.underlying3 q (.slice (some ⟨g, 0, none⟩) ((RD.writes d.row q).length + 1) cap)
        have hb6 := HB.out.touch T6 (fun hh => (HNE.out p (by simpa using hh)).1 rfl)
        have hb7 := hb6.touch (touch_map hgr7) (by simp; exact KNE.out)
        refine hK.out _ _ (hb6.cell 2) (fun hHeld => ?_)
        clear hK K
        try simp only [Act.put, List.setIfInBounds_toArray, List.set_cons_zero, List.set_cons_succ]
        refine steps_15 (by kernel_rfl) (fun K hK => ?_)
        go_simp
        refine hK.out _ _ (hb7.cell 2) (fun hHeld => ?_)
        clear hK K
        refine ⟨by kernel_rfl, ?_⟩
        try simp only [Act.put, List.setIfInBounds_toArray, List.set_cons_zero, List.set_cons_succ]
        have y4 : w7.cell? ⟨p, 4, none⟩ = some (.int .i64 d.wrote) := hb7.cell 4
        have y5 := hb7.free 4
        have y6 := hb7.lt
        rw [HCL.out] at hown6
        have HF := Lib.hid (HEND.out _ _ _ _ T6 hown6 (hat6.elim .inl (fun e => .inr (by have := T5.size; rw [e]; simp; omega))) hlt6 hm7 hgr7)
        clear hown6 hgr6 hat6 hm7 hgr7 hb6 hb7 hrun7 T6 T5 hb5 hHeld
        go_wp2
        go_ret
        obtain ⟨F', hA', hT', hG'⟩ := HF.out
        refine ⟨by rw [HD.out.2]; rfl, ?_⟩
        rw [HD.out.1]
        exact ⟨F', hA', HT1.out.1.trans hT' HT1.out.2, HT1.out.2.trans hG' HT1.out.1.size⟩
      · -- then the row
        refine step_buildSlice rfl 61 1 _ rfl (u := .agg C) (by rfl) (run_build1 w5 C HCS.out) ?_
        refine hK.out _ _ (HC2.out _ (T5.alloc (.cells C 82))) (fun hHeld => ?_)
        clear hK K
        try simp only [Act.put, List.setIfInBounds_toArray, List.set_cons_zero, List.set_cons_succ]
        refine steps_10 (by kernel_rfl) (fun K hK => ?_)
        have lk := HLK.out _ (T5.alloc (.cells C 82))
        go_simp
        refine hK.out _ _ (HC2.out _ (T5.alloc (.cells C 82))) (fun hHeld => ?_)
        clear hK K lk
        try simp only [Act.put, List.setIfInBounds_toArray, List.set_cons_zero, List.set_cons_succ]
        refine steps_14 (by kernel_rfl) (fun K hK => ?_)
        refine step_append_lies _ rfl _ _ 61 (by rfl) 0 82 ii (.agg Z) 128 128 Try.underlying61 HII.out.1 HII.out.2.1 HII.out.2.2.1 HII.out.2.2.2.1 HII.out.2.2.2.2 (by omega) v0 _ _ (by rfl) ((ownsRow_touch HOWN.out T5 (by simp)).alloc _)
          ⟨w5.heap.size, 0, none⟩ 1 1 C.toList (by rfl) (by simp [HCS.out]) (World.news_of_block (fr := (0, 0)) (heap_alloc_new w5 (.cells C 82))) (by rw [HCL.out]; exact sbytes_one s) (by omega) (by simp only [maxLen]; omega) (by omega) (Nat.zero_le _) _ rfl ?_
        intro g cap w6 hown6 hgr6 hat6 hlt6
        have T6 : Touch v0.ownBlock.toList w1 w6 := ((T5.alloc (.cells C 82)).more (by simp)).trans (touch_own hgr6) (Grows.refl _ _)
        obtain ⟨w7, hrun7, hm7, hgr7⟩ := (HM.out.touch T6 (fun hh => (HNE.out mb (by simpa using hh)).2 rfl)).update Try.underlying62 Try.underlying3 q (.slice (some ⟨g, 0, none⟩) ((RD.writes d.row q).length + 1) cap)
        have hb6 := HB.out.touch T6 (fun hh => (HNE.out p (by simpa using hh)).1 rfl)
        have hb7 := hb6.touch (touch_map hgr7) (by simp; exact KNE.out)
        refine hK.out _ _ (hb6.cell 2) (fun hHeld => ?_)
        clear hK K
        try simp only [Act.put, List.setIfInBounds_toArray, List.set_cons_zero, List.set_cons_succ]
        refine steps_15 (by kernel_rfl) (fun K hK => ?_)
        go_simp
        refine hK.out _ _ (hb7.cell 2) (fun hHeld => ?_)
        clear hK K
        refine ⟨by kernel_rfl, ?_⟩
        try simp only [Act.put, List.setIfInBounds_toArray, List.set_cons_zero, List.set_cons_succ]
        have y4 : w7.cell? ⟨p, 4, none⟩ = some (.int .i64 d.wrote) := hb7.cell 4
        have y5 := hb7.free 4
        have y6 := hb7.lt
        rw [HCL.out] at hown6
        have HF := Lib.hid (HEND.out _ _ _ _ T6 hown6 (hat6.elim .inl (fun e => .inr (by have := T5.size; rw [e]; simp; omega))) hlt6 hm7 hgr7)
        clear hown6 hgr6 hat6 hm7 hgr7 hb6 hb7 hrun7 T6 T5 hb5 hHeld
        go_wp2
        go_ret
        obtain ⟨F', hA', hT', hG'⟩ := HF.out
        refine ⟨by rw [HD.out.2]; rfl, ?_⟩
        rw [HD.out.1]
        exact ⟨F', hA', HT1.out.1.trans hT' HT1.out.2, HT1.out.2.trans hG' HT1.out.1.size⟩
end Go.Proofs.Ytjgmlpfallakmaa
end
section
namespace Go.Proofs.Ytjgmlpfallakmaa
open Go.RowKit
attribute [local go_sem ↓] Go.wp_at_zero Go.wp_at_succ
set_option maxRecDepth 100000 in
theorem dev_new_not (n : Int) (w : World) (h : n < 1 ∨ 2048 < n) : Calls Try.prog 8 #[.int .i64 n] w fun e w' => e = .returned (.tuple #[.pointer none, .int .i64 1]) ∧ w = w' := by
  by_cases h1 : n < 1
  · have d1 : decide (n < 1) = true := decide_eq_true h1
    go_enter Try.func8, Try.ntmps8
    go_wp2
    exact bodyPost_ret (results_tmp2 rfl _ _ _) rfl ⟨rfl, rfl⟩
  · have d1 : decide (n < 1) = false := decide_eq_false h1
    have d2 : decide (2048 < n) = true := decide_eq_true (by omega)
    go_enter Try.func8, Try.ntmps8
    go_wp2
    exact bodyPost_ret (results_tmp2 rfl _ _ _) rfl ⟨rfl, rfl⟩
theorem secs_zeros (n : Nat) : secs (List.replicate n (sectorOf 0)) = List.replicate (n * 128) (.int .u8 0) := by
  have e : sbytes (sectorOf 0) = List.replicate 128 (.int .u8 0) := by
    unfold sbytes sectorOf bv
    rw [List.toList_toArray, List.map_replicate]
    rfl
  unfold secs
  rw [List.flatMap_replicate, e, List.flatten_replicate_replicate]
theorem made_zeros (n : Nat) : (madeCells (Array.replicate 128 (Value.int .u8 0)) (n * 128)).toList = List.replicate (n * 128) (.int .u8 0) := by
  apply List.ext_getElem
  · simp [madeCells]
  · intro i h1 h2
    simp [madeCells]
    rw [getElem!_pos _ _ (by simp; omega)]
    simp
set_option maxRecDepth 4000 in
theorem dev_new (n : Nat) (h1 : 1 ≤ n) (h2 : n ≤ 2048) (w : World) : Calls Try.prog 8 #[.int .i64 n] w (Made DevAt w n) := by
  obtain ⟨i, hi, hiz, his⟩ : ∃ i, Try.prog.info? 82 = some i ∧ i.zero = some (.agg (Array.replicate 128 (.int .u8 0))) ∧ i.size = 128 := by
    cases hq : Try.prog.info? 82 with
    | none => have := info62; rw [hq] at this; cases this
    | some i => have := info62; rw [hq] at this; simp at this; exact ⟨i, rfl, this.1, this.2⟩
  have hib : i.bytes = 128 := by
    have : (Try.prog.info? 82).map (·.bytes) = some 128 := by kernel_rfl
    rw [hi] at this
    simpa using this
  have d1 : decide ((n : Int) < 1) = false := decide_eq_false (by omega)
  have d2 : decide (2048 < (n : Int)) = false := decide_eq_false (by omega)
  have hmm := @run_makeMap Try.prog
  have HZ : Hid ((madeCells (Array.replicate 128 (Value.int .u8 0)) (n * 128)).toList = secs (List.replicate n (sectorOf 0))) := Lib.hid (by rw [made_zeros, secs_zeros])
  have HI := Lib.hid hi
  have HIZ := Lib.hid hiz
  have HIS := Lib.hid his
  have HIB := Lib.hid hib
  clear hi hiz his hib
  go_enter Try.func8, Try.ntmps8
  go_wp2_with (refine wpList_make_full w rfl _ _ 61 rfl 0 82 i (.agg (Array.replicate 128 (.int .u8 0))) 128 Try.underlying61 HI.out HIZ.out HIS.out .i64 .i64 n n n (by rfl) (by rfl) rfl rfl (by rw [HIB.out]; omega) (by simp only [maxLen]; omega) (Nat.zero_le _) ?_; intro w1 hown hg1; rw [show (Value.agg (Array.replicate 128 (.int .u8 0))).cells = Array.replicate 128 (.int .u8 0) from rfl, HZ.out] at hown)
  have hlt := (hown.lt w.heap.size rfl).2
  have hs1 : (w1.alloc (.map #[] 0)).heap.size = w1.heap.size + 1 := by simp
  have TA : Touch [] w1 ((w1.alloc (.map #[] 0)).alloc (.cells #[.bool true, .slice (some ⟨w.heap.size, 0, none⟩) n n, .map (some w1.heap.size), .int .i64 0, .int .i64 0, .int .i64 0] 64)) := ((Touch.refl _ _).alloc _).alloc _
  have hmd := (IMap.made w1).touch ((Touch.refl [] (w1.alloc (.map #[] 0))).alloc (.cells #[.bool true, .slice (some ⟨w.heap.size, 0, none⟩) n n, .map (some w1.heap.size), .int .i64 0, .int .i64 0, .int .i64 0] 64)) (by simp)
  have hbk := Blk.new (w1.alloc (.map #[] 0)) #[.bool true, .slice (some ⟨w.heap.size, 0, none⟩) n n, .map (some w1.heap.size), .int .i64 0, .int .i64 0, .int .i64 0] 64
  rw [hs1] at hbk
  have hrw := ownsRow_touch hown TA (by simp)
  refine bodyPost_ret (results_tmp2 rfl _ _ _) rfl ⟨w1.heap.size + 1, [w1.heap.size + 1, w1.heap.size, w.heap.size], rfl, ⟨_, w1.heap.size, 0, fun _ => none, hbk, ?_, hmd, by simp, by simp, fun i h => absurd rfl h, ⟨by omega, ?_, ?_⟩, by simp, by simp, ⟨by simp, by simp, ?_, by simp⟩, ?_, ?_, by simp [RD.fresh]⟩, ?_, ?_⟩
  · show World.ownsRow _ 0 82 128 _ (List.replicate n (sectorOf 0)).length (secs (List.replicate n (sectorOf 0)))
    rw [List.length_replicate]
    exact hrw
  · simp [Value.ownBlock]; omega
  · simp [Value.ownBlock]; omega
  · intro g hg
    have : w.heap.size = g := by simpa [Value.ownBlock] using hg
    simp [this]
  · intro k hk
    simp only [List.mem_cons, List.not_mem_nil, or_false] at hk
    simp
    omega
  · intro s hs
    have : s = sectorOf 0 := List.eq_of_mem_replicate hs
    rw [this, sectorOf_size]
  · intro k hk
    simp only [List.mem_cons, List.not_mem_nil, or_false] at hk
    omega
  · exact ⟨TA.os.trans hg1.os, TA.tape.trans hg1.tape, TA.output.trans hg1.output, Nat.le_trans hg1.size TA.size, fun k hk => (TA.block k (by omega) (by simp)).trans (hg1.block k hk (by simp))⟩
end Go.Proofs.Ytjgmlpfallakmaa
end
section
namespace Go.Proofs.Ytjgmlpfallakmaa
open Go.RowKit
attribute [local go_sem ↓] Go.wp_at_zero Go.wp_at_succ
/-- the first m of L last in place k of s -/
def kept (s : List ByteArray) (k : Nat) (L : List ByteArray) (m : Nat) : List ByteArray := if m = 0 then s else s.set k (L.getD (m - 1) ⟨#[]⟩)
set_option maxRecDepth 4000 in
set_option maxHeartbeats 1600000 in
theorem dev_keep (w : World) (p mb g cap : Nat) (x0 x3 x4 x5 v : Value) (s L : List ByteArray) (k m : Nat) (hb : Blk w p #[x0, .slice (some ⟨g, 0, none⟩) s.length cap, .map (some mb), x3, x4, x5] 64)
    (hs : w.ownsRow 0 82 128 (.slice (some ⟨g, 0, none⟩) s.length cap) s.length (secs s)) (hsz : All128 s) (hk : k < s.length)
    (hpg : p ≠ g) (hvg : v.ownBlock ≠ some g) (hlk : ∀ wx : World, Touch [g] w wx → (Instr.lookup 62 (.map (some mb)) (.int .i64 k) false).run Try.prog wx = .ok v wx) (hv : w.ownsRow 0 82 128 v L.length (secs L)) (hvz : All128 L) (hm : m ≤ L.length) (hll : L.length ≤ 1000000) :
    Calls Try.prog 37 #[.pointer (some ⟨p, 0, none⟩), .int .i64 k, .int .i64 m] w fun e w' => e = .returned (.tuple #[]) ∧ w'.ownsRow 0 82 128 (.slice (some ⟨g, 0, none⟩) s.length cap) s.length (secs (kept s k L m)) ∧ w.grownBy w' (some g) := by
  by_cases h0 : m = 0
  · subst h0
    have d1 : decide ((0 : Int) < ((0 : Nat) : Int)) = false := by simp
    have HK : Hid (kept s k L 0 = s) := Lib.hid rfl
    have HS := Lib.hid hs
    clear hs hlk hv hvz hb
    go_enter Try.func37, Try.ntmps37
    go_wp2
    refine bodyPost_end (results_none rfl _ _ _) rfl ⟨rfl, by rw [HK.out]; exact HS.out, World.grownBy.refl _ _⟩
  · obtain ⟨n, hmn⟩ : ∃ n, m = n + 1 := ⟨m - 1, by omega⟩
    have hn : n < L.length := by omega
    obtain ⟨A, vcap, rfl⟩ := ownsRow_slice hv
    rcases hv.2 with ⟨_, h0⟩ | ⟨gv, _, _, hg, _⟩
    · omega
    injection hg with e1 _ e3
    subst e1 e3
    obtain ⟨x, hx⟩ : ∃ x, L[n] = x := ⟨_, rfl⟩
    have hx8 : x.size = 128 := by rw [← hx]; exact hvz.get hn
    have hld : (Instr.loadAt 82 (.pointer (some ⟨gv, n * 128, none⟩))).run Try.prog w.drew = .ok (sagg x) w.drew := by
      have := load_sector (w := w.drew) hv hvz hn
      rwa [hx] at this
    obtain ⟨w2, hst, hown2, hgr2⟩ := store_sector (w := w.drew) hs hsz hk hx8
    have T2 : Touch [g] w w2 := ⟨hgr2.os, hgr2.tape, hgr2.output, hgr2.size, fun k hk hn => hgr2.block k hk (fun e => hn (by injection e with e; simp [e]))⟩
    have hld2 : (Instr.loadAt 82 (.pointer (some ⟨gv, n * 128, none⟩))).run Try.prog w2 = .ok (sagg x) w2 := by
      have := load_sector (w := w2) (ownsRow_touch hv T2 (fun q hq hm => hvg (by rw [hq, List.mem_singleton.1 hm]))) hvz hn
      rwa [hx] at this
    have HK : Hid (kept s k L m = s.set k x) := Lib.hid (by unfold kept; rw [if_neg (by omega), ← hx, hmn]; simp [List.getD_eq_getElem?_getD, hn])
    have c1 : w.drew.cell? ⟨p, 1, none⟩ = some (.slice (some ⟨g, 0, none⟩) s.length cap) := hb.cell 1
    have c2 : w.drew.cell? ⟨p, 2, none⟩ = some (.map (some mb)) := hb.cell 2
    have c1' : w2.cell? ⟨p, 1, none⟩ = some (.slice (some ⟨g, 0, none⟩) s.length cap) := (hb.touch T2 (by simpa using hpg)).cell 1
    have c2' : w2.cell? ⟨p, 2, none⟩ = some (.map (some mb)) := (hb.touch T2 (by simpa using hpg)).cell 2
    have l1 := hlk w.drew (Touch.refl _ _).drew
    have l2 := hlk w2 T2
    obtain ⟨C, hC⟩ : ∃ C : Array Value, (sbytes x).toArray = C := ⟨_, rfl⟩
    have hCl : sbytes x = C.toList := by rw [← hC]
    unfold sagg at hld
    rw [hC] at hld
    unfold sagg at hld2
    rw [hC] at hld2
    rw [hCl] at hst
    have hCs : C.size = 128 := by rw [← hC, List.size_toArray, sbytes_length, hx8]
    obtain ⟨sl, hsl'⟩ : ∃ q : Nat, s.length = q := ⟨_, rfl⟩
    obtain ⟨ll, hll'⟩ : ∃ q : Nat, L.length = q := ⟨_, rfl⟩
    have HO := Lib.hid hown2
    have HG := Lib.hid hgr2
    rw [hsl'] at c1 c1' hk HO
    rw [hll'] at l1 l2 hn hll
    have d1 : decide ((0 : Int) < (m : Int)) = true := decide_eq_true (by omega)
    have i5 : (m : Int) - 1 = (n : Int) := by omega
    have i7 : IntKind.i64.wrap ((m : Int) - 1) = (n : Int) := by rw [i5]; exact IntWalk.i64_in _ (by omega)
    have i6 : RowKit.wrap64 ((m : Int) - 1) = (n : Int) := by
      rw [← IntWalk.i64_left, i5]
      exact IntWalk.i64_in _ (by omega)
    have i1 : (0 : Int) ≤ (k : Int) := by omega
    have i2 : (k : Int) < (sl : Int) := by omega
    have i3 : (0 : Int) ≤ (n : Int) := by omega
    have i4 : (n : Int) < (ll : Int) := by omega
    clear hs hlk hv hvz hb hown2 hgr2 hC hCl hm h0 hsz hx hll' hmn
    rw [hsl']
    go_enter Try.func37, Try.ntmps37
    go_wp2_with fail
    refine wp_region_held_drew (S := fun w' => w'.cell? ⟨p, 1, none⟩ = some (.slice (some ⟨g, 0, none⟩) sl cap) ∧ w'.cell? ⟨p, 2, none⟩ = some (.map (some mb)) ∧ (Instr.lookup 62 (.map (some mb)) (.int .i64 k) false).run Try.prog w' = .ok (.slice (some ⟨gv, 0, none⟩) ll vcap) w' ∧ (Instr.loadAt 82 (.pointer (some ⟨gv, n * 128, none⟩))).run Try.prog w' = .ok (.agg C) w') (by kernel_rfl) ⟨c1, c2, l1, hld⟩ (fun hHeld => ?_)
    refine take_0 (v := ?v0) (by kernel_rfl) (by kernel_rfl) (by kernel_rfl) (fun _ _ _ h => h) (by rfl) ?y0 hHeld ?r0
    case y0 => (intro wS hSw; (try dsimp only at hSw); go_simp; try with_reducible rfl)
    try simp only [Act.put, List.setIfInBounds_toArray, List.set_cons_zero, List.set_cons_succ]
    refine take_1 (v := ?v1) (by kernel_rfl) (by kernel_rfl) (by kernel_rfl) (fun _ _ _ h => h) (by rfl) ?y1 hHeld ?r1
    case y1 => (intro wS hSw; (try dsimp only at hSw); go_simp; try with_reducible rfl)
    try simp only [Act.put, List.setIfInBounds_toArray, List.set_cons_zero, List.set_cons_succ]
    refine take_2 (v := ?v2) (by kernel_rfl) (by kernel_rfl) (by kernel_rfl) (fun _ _ _ h => h) (by rfl) ?y2 hHeld ?r2
    case y2 => (intro wS hSw; (try dsimp only at hSw); go_simp; try with_reducible rfl)
    try simp only [Act.put, List.setIfInBounds_toArray, List.set_cons_zero, List.set_cons_succ]
    refine take_3 (v := ?v3) (by kernel_rfl) (by kernel_rfl) (by kernel_rfl) (fun _ _ _ h => h) (by rfl) ?y3 hHeld ?r3
    case y3 => (intro wS hSw; (try dsimp only at hSw); go_simp; try with_reducible rfl)
    try simp only [Act.put, List.setIfInBounds_toArray, List.set_cons_zero, List.set_cons_succ]
    refine take_4 (v := ?v4) (by kernel_rfl) (by kernel_rfl) (by kernel_rfl) (fun _ _ _ h => h) (by rfl) ?y4 hHeld ?r4
    case y4 => (intro wS hSw; (try dsimp only at hSw); go_simp; try with_reducible rfl)
    try simp only [Act.put, List.setIfInBounds_toArray, List.set_cons_zero, List.set_cons_succ]
    refine takes_5 (v := ?v5) (by kernel_rfl) (by kernel_rfl) (by kernel_rfl) (fun _ _ _ h => h) (by rfl) ?y5 hHeld ?r5
    case y5 => (intro wS hSw; (try dsimp only at hSw); go_simp; try with_reducible rfl)
    try simp only [Act.put, List.setIfInBounds_toArray, List.set_cons_zero, List.set_cons_succ]
    refine take_6 (v := ?v6) (by kernel_rfl) (by kernel_rfl) (by kernel_rfl) (fun _ _ _ h => h) (by rfl) ?y6 hHeld ?r6
    case y6 => (intro wS hSw; (try dsimp only at hSw); go_simp; try with_reducible rfl)
    try simp only [Act.put, List.setIfInBounds_toArray, List.set_cons_zero, List.set_cons_succ]
    refine take_7 (v := ?v7) (by kernel_rfl) (by kernel_rfl) (by kernel_rfl) (fun _ _ _ h => h) (by rfl) ?y7 hHeld ?r7
    case y7 => (intro wS hSw; (try dsimp only at hSw); go_simp; try with_reducible rfl)
    try simp only [Act.put, List.setIfInBounds_toArray, List.set_cons_zero, List.set_cons_succ]
    refine take_8 (v := ?v8) (by kernel_rfl) (by kernel_rfl) (by kernel_rfl) (fun _ _ _ h => h) (by rfl) ?y8 hHeld ?r8
    case y8 => (intro wS hSw; (try dsimp only at hSw); go_simp; try with_reducible rfl)
    try simp only [Act.put, List.setIfInBounds_toArray, List.set_cons_zero, List.set_cons_succ]
    refine take_9 (v := ?v9) (by kernel_rfl) (by kernel_rfl) (by kernel_rfl) (fun _ _ _ h => h) (by rfl) ?y9 hHeld ?r9
    case y9 => (intro wS hSw; (try dsimp only at hSw); go_simp; try with_reducible rfl)
    try simp only [Act.put, List.setIfInBounds_toArray, List.set_cons_zero, List.set_cons_succ]
    refine take_10 (v := ?v10) (by kernel_rfl) (by kernel_rfl) (by kernel_rfl) (fun _ _ _ h => h) (by rfl) ?y10 hHeld ?r10
    case y10 => (intro wS hSw; (try dsimp only at hSw); go_simp; try with_reducible rfl)
    try simp only [Act.put, List.setIfInBounds_toArray, List.set_cons_zero, List.set_cons_succ]
    refine takes_11 (v := ?v11) (by kernel_rfl) (by kernel_rfl) (by kernel_rfl) (fun _ _ _ h => h) (by rfl) ?y11 hHeld ?r11
    case y11 => (intro wS hSw; (try dsimp only at hSw); go_simp; try with_reducible rfl)
    try simp only [Act.put, List.setIfInBounds_toArray, List.set_cons_zero, List.set_cons_succ]
    refine takes_12 (v := .int .i64 n) (by kernel_rfl) (by kernel_rfl) (by kernel_rfl) (fun _ _ _ h => h) (by rfl) ?y12 hHeld ?r12
    case y12 => (intro wS hSw; go_simp; exact IntWalk.i64_in _ (by omega))
    try simp only [Act.put, List.setIfInBounds_toArray, List.set_cons_zero, List.set_cons_succ]
    refine takes_13 (v := ?v13) (by kernel_rfl) (by kernel_rfl) (by kernel_rfl) (fun _ _ _ h => h) (by rfl) ?y13 hHeld ?r13
    case y13 => (intro wS hSw; (try dsimp only at hSw); go_simp; try with_reducible rfl)
    try simp only [Act.put, List.setIfInBounds_toArray, List.set_cons_zero, List.set_cons_succ]
    refine takes_14 (v := .agg C) (by kernel_rfl) (by kernel_rfl) (by kernel_rfl) (fun _ _ _ h => h) (by rfl) ?y14 hHeld ?r14
    case y14 => (intro wS hSw; exact exec_load 82 _ rfl (p := .pointer (some ⟨gv, n * 128, none⟩)) (by rfl) hSw.2.2.2)
    try simp only [Act.put, List.setIfInBounds_toArray, List.set_cons_zero, List.set_cons_succ]
    refine takes_15 (v := ?v15) (by kernel_rfl) (by kernel_rfl) (by kernel_rfl) (fun _ _ _ h => h) (by rfl) ?y15 hHeld ?r15
    case y15 => (intro wS hSw; (try dsimp only at hSw); go_simp; try with_reducible rfl)
    try simp only [Act.put, List.setIfInBounds_toArray, List.set_cons_zero, List.set_cons_succ]
    refine steps_16 (by kernel_rfl) (fun K hK => ?_)
    go_simp
    refine hK.out _ _ ⟨c1', c2', l2, hld2⟩ (fun hHeld => ?_)
    clear hK K
    refine ⟨by kernel_rfl, ?_⟩
    try simp only [Act.put, List.setIfInBounds_toArray, List.set_cons_zero, List.set_cons_succ]
    go_wp2
    refine bodyPost_end (results_none rfl _ _ _) rfl ⟨rfl, ?_, ?_⟩
    · rw [HK.out]
      exact HO.out
    · exact ⟨HG.out.os, HG.out.tape, HG.out.output, HG.out.size, HG.out.block⟩
end Go.Proofs.Ytjgmlpfallakmaa
end
section
namespace Go.Proofs.Ytjgmlpfallakmaa
open Go.RowKit Go.MapKept
open Go.Maps (Keyed)
attribute [local go_sem ↓] Go.wp_at_zero Go.wp_at_succ
/-- 'clear(m)' -/
theorem IMap.clear {P : Program} {w : World} {b n : Nat} {f : Int → Option Value} {t kt e : TypeId} (h : IMap w b n f) (ht : P.underlying t = some (.map kt e)) :
    ∃ w', (∀ ty, (Builtin.clear_ #[t] ty #[.map (some b)]).run P w = .ok (.tuple #[]) w') ∧ IMap w' b 0 (fun _ => none) ∧ w.grownBy w' (some b) := by
  obtain ⟨es, clock, hb, _⟩ := h
  refine ⟨{ w with heap := w.heap.setIfInBounds b (.map #[] clock) }, fun ty => ?_, ⟨#[], clock, (heap_set hb).1, by simp, stamped_empty clock, by simp, by simp⟩, ⟨rfl, rfl, rfl, by simp, fun r _ hne => (heap_set hb).2 r (fun e => hne (by rw [e]))⟩⟩
  simp [Builtin.clear_, run_underlying ht, MapKept.run_getObj_map hb, MapKept.run_setObj_map _ hb, Result.andThen]
theorem touch_mb {w w1 : World} {b : Nat} (h : w.grownBy w1 (some b)) : Touch [b] w w1 := ⟨h.os, h.tape, h.output, h.size, fun k hk hn => h.block k hk (fun e => hn (by injection e with e; simp [e]))⟩
/-- the step of a range over a map by whole numbers, whatever its elements -/
theorem wpList_next_held {P : Program} (w : World) {ops : Array Oper} {rest : List Oper} {o : Oper} {a : Act} {Q : Exit → Act → World → Prop} (hg : o.guard = none) (it : Operand) (hop : o.op = Op.next it false) (k : TypeId) (K : Keyed P k) (hk : P.underlying k = some (.int .i64))
    (b r n : Nat) (D : DataW Value) (left : Lit → Bool) (cnt : Nat) (hit : a.eval it = .pointer (some ⟨r, 0, none⟩)) (h : w.ranges P k heldR b r n D left cnt)
    (hDone : cnt = 0 → (∀ kl, left kl = false) → wpList P ops Q rest (a.put o.dst (.tuple #[.bool false])) w)
    (hMore : ∀ (x : Int) (v : Value) (w' : World) (cnt' : Nat), (Lit.int .i64 x).wf = true → left (.int .i64 x) = true → (∀ zd, D.atKey (.int .i64 x) zd = .held v) → w'.ranges P k heldR b r n D (fun z => left z && !z.sameKey (.int .i64 x)) cnt' → cnt' < cnt →
      w.grownBy w' (some r) → w'.heap.size = w.heap.size → (Instr.entry (.pointer (some ⟨r, 0, none⟩))).run P w' = .ok (.tuple #[.int .i64 x, v]) w' → wpList P ops Q rest (a.put o.dst (.tuple #[.bool true, .int .i64 x, v])) w') :
    wpList P ops Q (o :: rest) a w :=
  wpList_next_ranges w hg it hop k K heldR (Value.int .i64) (id : Value → Value) (fun key kl hkey => by obtain ⟨x, rfl, _⟩ := Maps.keyOf_int_inv hk hkey; exact ⟨x, rfl⟩) (fun v y _ => ⟨v, rfl⟩)
    b r n D left cnt hit h hDone (fun x c kl y w' cnt' hkey hlk hv hat hrg hlt hgr hsz hen => by
      obtain ⟨x', ex, rfl, hwx⟩ := Maps.keyOf_int_inv hk hkey
      cases ex
      have hy : y = (.held c, []) := by injection hv with hv; exact hv.symm
      subst hy
      exact hMore x c w' cnt' hwx hlk hat hrg hlt hgr hsz hen)
/-- what holds at a round of Sync's range -/
def RangeAt (w1 : World) (p : Nat) (vs : Value) (mb r n : Nat) (D : DataW Value) (cs : Array Value) (d : RD) (wr : World) : Prop :=
  ∃ (left : Lit → Bool) (cnt : Nat) (s : List ByteArray), wr.ranges Try.prog 3 heldR mb r n D left cnt ∧ Blk wr p cs 64 ∧ wr.ownsRow 0 82 128 vs d.sector.length (secs s) ∧ s.length = d.sector.length ∧ All128 s ∧ Touch (r :: vs.ownBlock.toList) w1 wr ∧
    ∀ i : Nat, i < d.sector.length → s.getD i ⟨#[]⟩ = if left (.int .i64 i) = true then d.sector.getD i ⟨#[]⟩ else RD.last d.row i (d.sector.getD i ⟨#[]⟩)
set_option maxRecDepth 4000 in
set_option maxHeartbeats 3200000 in
theorem dev_sync (w : World) (p : Nat) (d : RD) (F : List Nat) (K : Nat) (hK : K ≤ 1000000) (ok : RD.Ok K d) (h : DevAt w p d F) :
    Calls Try.prog 30 #[.pointer (some ⟨p, 0, none⟩)] w (Did DevAt w p F d.syncD (.returned (.int .i64 d.syncE))) := by
  have hst := dev_step w p d F K hK ok h
  have hl := ok.row
  have hl2 := ok.len
  clear h
  cases hg : d.goes
  · have hD : d.syncD = d.stepped := by unfold RD.syncD; rw [hg]; rfl
    have hE : d.syncE = 6 := by unfold RD.syncE; rw [hg]; rfl
    rw [hE] at hst ⊢
    rw [hD]
    have HST := Lib.hid hst
    clear hst hD hE hg hl hl2
    go_enter Try.func30, Try.ntmps30
    go_wp2_with (go_at_call 41; refine HST.out.mono ?_; rintro _ w1 ⟨rfl, HA⟩)
    go_ret
    exact ⟨rfl, HA⟩
  · have hD : d.syncD = { d.stepped with sector := RD.synced d.row d.sector, row := [] } := by unfold RD.syncD; rw [hg]; rfl
    have hE : d.syncE = 0 := by unfold RD.syncE; rw [hg]; rfl
    rw [hE] at hst ⊢
    rw [hD]
    have HST := Lib.hid hst
    have e1 := RD.stepped_sector d
    have e2 := RD.stepped_row d
    obtain ⟨d1, hd1⟩ : ∃ d1, d.stepped = d1 := ⟨_, rfl⟩
    rw [hd1] at HST e1 e2 ⊢
    have HE1 := Lib.hid (And.intro e1 e2)
    clear hst hD hE hg hd1 e1 e2
    go_enter Try.func30, Try.ntmps30
    go_upto_region 6 with (go_at_call 41; refine HST.out.mono ?_; rintro _ w1 ⟨rfl, F1, hA1, hT1, hG1⟩)
    obtain ⟨vs, mb, n, f, hb, hs, hm, hn, hr, hr2, k1, k2, k3, ⟨m1, m2, m3, m4⟩, hlt, hz, hz2⟩ := hA1
    obtain ⟨e1, e2⟩ := HE1.out
    rw [e2] at hn hr2 hz2
    rw [e1] at hs hz
    simp only [e1, e2] at hr
    have hwf : ∀ k v, f k = some v → (Lit.int .i64 k).wf = true := by
      intro k v hf
      obtain ⟨i, rfl, hi, _⟩ := hr k v hf
      simp [Lit.wf, IntKind.min, IntKind.max, IntKind.bits, IntKind.signed]
      omega
    obtain ⟨A, cap, rfl⟩ := ownsRow_slice hs
    obtain ⟨D, hD, hD1, hD2, _⟩ := hm.owns Try.underlying3 (by simp only [maxLen]; omega) hwf
    have K := Maps.int_keyed Try.underlying3
    have c1 : w1.cell? ⟨p, 2, none⟩ = some (.map (some mb)) := hb.cell 2
    have HG1 := Lib.hid (And.intro hT1 hG1)
    clear hT1 hG1
    go_wp2_with (at_range; refine wpList_range_own w1 rfl (.tmp 16) 62 rfl 3 61 K Try.underlying62 heldR mb n D rfl hD ?_; intro w0 hrg0 hg0 hs0)
    go_frame
    have hmw : mb < w1.heap.size := hm.lt
    have hpw := hb.lt
    have T0 : Touch [] w1 w0 := ⟨hg0.os, hg0.tape, hg0.output, hg0.size, fun k hk _ => hg0.block k hk (by simp)⟩
    obtain ⟨cs, hcs⟩ : ∃ cs : Array Value, #[.bool (!d1.off), .slice A d.sector.length cap, .map (some mb), .int .i64 d1.left, .int .i64 d1.wrote, .int .i64 d1.count] = cs := ⟨_, rfl⟩
    have HST : Hid (RangeAt w1 p (.slice A d.sector.length cap) mb w1.heap.size n D cs d w0) := Lib.hid
      ⟨_, _, d.sector, hrg0, by rw [← hcs]; exact hb.touch T0 (by simp), ownsRow_touch hs T0 (by simp), rfl, hz, T0.more (by simp), fun i hi => by
        split
        · rfl
        · rename_i hh
          have hf : f (i : Int) = none := by
            cases hf : f (i : Int) with
            | none => rfl
            | some v => exact absurd (hD2 _ v hf) hh
          have hw : RD.writes d.row i = [] := by
            cases hw : RD.writes d.row i with
            | nil => rfl
            | cons a l =>
              obtain ⟨v, hv⟩ := hr2 i (by rw [hw]; simp)
              rw [hf] at hv
              cases hv
          rw [RD.last_writes]
          simp [hw]⟩
    have HCS := Lib.hid hcs
    have HM := Lib.hid hm
    have HR := Lib.hid hr
    have HD1 := Lib.hid hD1
    have HK1 := Lib.hid k1
    have HK2 := Lib.hid k2
    have HM4 := Lib.hid (And.intro m1 (And.intro m2 (And.intro m3 m4)))
    have HLT := Lib.hid hlt
    have HZ2 := Lib.hid hz2
    clear hr hD1 hD2 hwf k1 k2 k3 m1 m2 m3 m4 hlt hr2 hrg0 hg0 hs0 T0 hs hb hm hD hn e1 e2 hcs hz hz2 c1
    go_loopw [4, 5] (fun _ _ wr => RangeAt w1 p (.slice A d.sector.length cap) mb w1.heap.size n D cs d wr) (fun _ _ wr => wr.rangeLeft mb w1.heap.size)
    case atStart => exact HST.out
    case round =>
      obtain ⟨left, cnt, s, hrg, rb, rs, rl, rz, rT, rv⟩ := hrel
      have HLE := Lib.hid hrg.left_eq
      go_wp2_with (at_next; refine wpList_next_held wr rfl (.tmp 17) rfl 3 K Try.underlying3 mb w1.heap.size n D left cnt rfl hrg ?_ ?_)
      · intro hc0 hl0
        have y2 : wr.cell? ⟨p, 2, none⟩ = some (.map (some mb)) := by rw [← HCS.out] at rb; exact rb.cell 2
        have hmr : IMap wr mb n f := HM.out.touch rT (fun hh => by
          rcases List.mem_cons.1 hh with hh | hh
          · omega
          · exact HK1.out.2.2 (by simpa using hh))
        obtain ⟨w9, hclr, hm9, hgr9⟩ := hmr.clear Try.underlying62
        have H9 := Lib.hid (And.intro hm9 hgr9)
        clear hm9 hgr9 hmr
        go_wp2
        go_ret
        have TC := touch_mb H9.out.2
        obtain ⟨M1, M2, M3, M4⟩ := HM4.out
        have TF : Touch F1 w1 wr := ⟨rT.os, rT.tape, rT.output, rT.size, fun k hk hn => rT.block k hk (fun hh => by
          rcases List.mem_cons.1 hh with rfl | hh
          · omega
          · exact hn (M3 k (by simpa using hh)))⟩
        have TE : Touch F1 w1 w9 := TF.trans (TC.more (by intro k hk; rw [List.mem_singleton.1 hk]; exact M2)) (Grows.refl _ _)
        have hss : s = RD.synced d.row d.sector := by
          refine List.ext_getElem (by rw [rl, RD.synced_length]) (fun j h1 h2 => ?_)
          have h3 := rv j (by omega)
          rw [hl0, if_neg (by simp), ← RD.synced_at d.row j d.sector (by omega)] at h3
          simpa [List.getD_eq_getElem?_getD, h1, h2] using h3
        refine ⟨rfl, F1, ⟨.slice A d.sector.length cap, mb, 0, fun _ => none, ?_, ?_, H9.out.1, by simp, by simp, fun i h => absurd rfl h, HK1.out, by simp, by simp, ⟨M1, M2, M3, by simp⟩, fun k hk => Nat.lt_of_lt_of_le (HLT.out k hk) TE.size, ?_, by simp⟩, HG1.out.1.trans TE HG1.out.2, HG1.out.2⟩
        · rw [← HCS.out] at rb
          exact rb.touch TC (by simp; exact HK1.out.1)
        · show World.ownsRow _ 0 82 128 _ (RD.synced d.row d.sector).length _
          rw [RD.synced_length, ← hss]
          exact ownsRow_touch rs TC (fun g hg hh => HK1.out.2.2 (by rw [hg, List.mem_singleton.1 hh]))
        · show All128 (RD.synced d.row d.sector)
          rw [← hss]
          exact rz
      · intro x v w2 cnt2 hwx hlx hat hrg2 hlt2 hgr2 hsz2 hen2
        have hfv := HD1.out x v hwx hat
        obtain ⟨i, rfl, hi, hwi, ho⟩ := HR.out x v hfv
        have hvk := HK2.out i v hfv
        have hvF := HM4.out.2.2.2 i v hfv
        have hvl := ownsRow_lt ho
        obtain ⟨Av, capv, rfl⟩ := ownsRow_slice ho
        have hml := RD.writes_length_le d.row i
        have TR : Touch [w1.heap.size] wr w2 := ⟨hgr2.os, hgr2.tape, hgr2.output, hgr2.size, fun k hk hn => hgr2.block k hk (fun e => hn (by injection e with e; simp [e]))⟩
        have hrs : w1.heap.size ∉ (Value.slice A d.sector.length cap).ownBlock.toList := fun hh => by have := HLT.out _ (HM4.out.2.2.1 _ (by simpa using hh)); omega
        have T2 : Touch (w1.heap.size :: (Value.slice A d.sector.length cap).ownBlock.toList) w1 w2 := rT.trans (TR.more (by simp)) (Grows.refl _ _)
        have rb2 := rb.touch TR (by simp; omega)
        have rs2 := ownsRow_touch rs TR (fun g hg hh => hrs (by simp only [List.mem_singleton] at hh; subst hh; simpa using hg))
        have ho2 := ownsRow_touch ho T2 (fun g hg hh => by
          rcases List.mem_cons.1 hh with rfl | hh
          · have := hvl _ hg; omega
          · exact hvk.2.2 g hg (by simpa using hh))
        rcases rs2.2 with ⟨_, h0⟩ | ⟨g, _, _, hsv, _⟩
        · omega
        injection hsv with ea _ _
        subst ea
        have hpg : p ≠ g := fun e => HK1.out.2.1 (by rw [e]; rfl)
        have hmg : mb ≠ g := fun e => HK1.out.2.2 (by rw [e]; rfl)
        have hrg' : w1.heap.size ≠ g := fun e => hrs (by rw [e]; simp [Value.ownBlock])
        have hLz : All128 (RD.writes d.row i) := by
          intro s hs
          unfold RD.writes at hs
          obtain ⟨x, hx, rfl⟩ := List.mem_map.1 hs
          exact HZ2.out x (List.mem_filter.1 hx).1
        have hlk : ∀ wx : World, Touch [g] w2 wx → (Instr.lookup 62 (.map (some mb)) (.int .i64 i) false).run Try.prog wx = .ok (.slice Av (RD.writes d.row i).length capv) wx := fun wx hx => by
          have hmx : IMap wx mb n f := (HM.out.touch T2 (fun hh => by
            rcases List.mem_cons.1 hh with hh | hh
            · omega
            · exact HK1.out.2.2 (by simpa using hh))).touch hx (by simpa using hmg)
          have := hmx.lookup Try.underlying62 Try.underlying3 (zero55 wx) i
          rwa [hfv] at this
        have hrb := rb2
        rw [← HCS.out, ← rl] at hrb
        rw [← rl] at rs2 hi
        have KP := Lib.hid (dev_keep w2 p mb g cap _ _ _ _ _ s (RD.writes d.row i) i (RD.writes d.row i).length hrb rs2 rz hi hpg (hvk.2.2 g · rfl) hlk ho2 hLz (Nat.le_refl _) (by omega))
        obtain ⟨m, hm⟩ : ∃ m : Nat, (RD.writes d.row i).length = m := ⟨_, rfl⟩
        have hm0 : 0 < m := by rw [← hm]; exact List.length_pos_iff.2 hwi
        obtain ⟨y, hy⟩ : ∃ y : ByteArray, (RD.writes d.row i).getD (m - 1) ⟨#[]⟩ = y := ⟨_, rfl⟩
        have hy8 : y.size = 128 := by
          rw [← hy, List.getD_eq_getElem?_getD, List.getElem?_eq_getElem (by omega)]
          exact hLz.get (by omega)
        have HX : Hid (∀ u, RD.last d.row i u = y) := Lib.hid (fun u => by
          rw [RD.last_writes, ← hy, List.getLast_eq_getElem, List.getD_eq_getElem?_getD, List.getElem?_eq_getElem (by omega)]
          obtain ⟨q, rfl⟩ : ∃ q, m = q + 1 := ⟨m - 1, by omega⟩
          simp [hm])
        have HKE : Hid (kept s i (RD.writes d.row i) m = s.set i y) := Lib.hid (by unfold kept; rw [if_neg (by omega), hy])
        rw [hm] at KP hen2
        clear hm hy hlk ho2 hLz ho hwi hfv hat hlx hml
        simp only [HKE.out] at KP
        go_wp2_with (go_at_call 37; refine KP.out.mono ?_; rintro _ w3 ⟨rfl, hown3, hgr3⟩)
        have hrg3 := hrg2.kept hgr3 (fun e => hmg (by injection e)) (fun e => hrg' (by injection e))
        have T3 := touch_mb hgr3
        go_roundw
        case rel =>
          refine ⟨fun z => left z && !z.sameKey (.int .i64 i), cnt2, s.set i y, hrg3, rb2.touch T3 (by simpa using hpg), ?_, by simp [rl], rz.set i hy8, T2.trans (T3.more (by simp [Value.ownBlock])) (Grows.refl _ _), ?_⟩
          · rw [rl] at hown3
            exact hown3
          · intro j hj
            by_cases hji : i = j
            · subst hji
              rw [if_neg (by simp [Lit.sameKey]), HX.out]
              simp [List.getD_eq_getElem?_getD, hi]
            · have e1 : (Lit.int .i64 (j : Int)).sameKey (.int .i64 (i : Int)) = false := by simp [Lit.sameKey]; omega
              simp only [e1, Bool.not_false, Bool.and_true]
              rw [← rv j hj]
              simp [List.getD_eq_getElem?_getD, hji]
        case measure =>
          have h4 := hrg3.left_eq
          rw [HLE.out]
          exact Nat.lt_of_le_of_lt (Nat.le_of_eq h4) hlt2
end Go.Proofs.Ytjgmlpfallakmaa
end
section
namespace Go.Proofs.Ytjgmlpfallakmaa
open Go.Shelf
def Try.keysA_ren : Go.Shelf.Ren := ⟨fun | 7 => 36 | 10 => 52 | n => n, fun | 23 => 62 | 26 => 3 | 3 => 61 | 28 => 75 | 0 => 0 | 27 => 74 | 33 => 80 | 4 => 4 | n => n, fun | n => n⟩
theorem Try.keysA : Go.Proofs.SlLaysZI.n7 Try.prog Try.keysA_ren := {
  mixed := by kernel_rfl
  f7 := ⟨Try.f36.name, by decide, Try.func36.trans (congrArg some (by kernel_rfl))⟩
  f10 := ⟨Try.f52.name, by decide, Try.func52.trans (congrArg some (by kernel_rfl))⟩
  t0 := Try.underlying0
  a0 := Try.isAgg0
  z0 := Try.sizeOf0
  v0 := Try.zeroValue0
  t4 := Try.underlying4
  a4 := Try.isAgg4
  z4 := Try.sizeOf4
  v4 := Try.zeroValue4
  t23 := Try.underlying62
  a23 := Try.isAgg62
  z23 := Try.sizeOf62
  v23 := Try.zeroValue62
  t26 := Try.underlying3
  a26 := Try.isAgg3
  z26 := Try.sizeOf3
  v26 := Try.zeroValue3
  t27 := Try.underlying74
  a27 := Try.isAgg74
  z27 := Try.sizeOf74
  v27 := Try.zeroValue74
  t28 := Try.underlying75
  a28 := Try.isAgg75
  z28 := Try.sizeOf75
  v28 := Try.zeroValue75
  t33 := Try.underlying80
  a33 := Try.isAgg80
  z33 := Try.sizeOf80
  v33 := Try.zeroValue80 }
def Try.sortedA_ren : Go.Shelf.Ren := ⟨fun | 6 => 35 | 8 => 50 | 9 => 51 | 11 => 59 | 13 => 61 | 12 => 60 | 23 => 75 | 24 => 76 | 14 => 66 | 15 => 67 | 16 => 68 | 17 => 69 | 18 => 70 | 19 => 71 | 20 => 72 | 21 => 73 | 22 => 74 | 25 => 85 | 26 => 86 | 27 => 87 | 28 => 88 | 29 => 89 | 30 => 90 | 31 => 97 | n => n, fun | 26 => 3 | 28 => 75 | 24 => 35 | 0 => 0 | 3 => 3 | 37 => 104 | 48 => 97 | 50 => 105 | 4 => 4 | 40 => 112 | 39 => 111 | 45 => 116 | 5 => 5 | 9 => 9 | 51 => 131 | 55 => 135 | 57 => 143 | 58 => 144 | 33 => 80 | n => n, fun | n => n⟩
theorem Try.sortedA : Go.Proofs.SlLaysZI.n6 Try.prog Try.sortedA_ren := {
  mixed := by kernel_rfl
  f6 := ⟨Try.f35.name, by decide, Try.func35.trans (congrArg some (by kernel_rfl))⟩
  f8 := ⟨Try.f50.name, by decide, Try.func50.trans (congrArg some (by kernel_rfl))⟩
  f11 := ⟨Try.f59.name, by decide, Try.func59.trans (congrArg some (by kernel_rfl))⟩
  t0 := Try.underlying0
  a0 := Try.isAgg0
  z0 := Try.sizeOf0
  v0 := Try.zeroValue0
  t24 := Try.underlying35
  a24 := Try.isAgg35
  z24 := Try.sizeOf35
  v24 := Try.zeroValue35
  t26 := Try.underlying3
  a26 := Try.isAgg3
  z26 := Try.sizeOf3
  v26 := Try.zeroValue3
  t28 := Try.underlying75
  a28 := Try.isAgg75
  z28 := Try.sizeOf75
  v28 := Try.zeroValue75
  i26 := by kernel_rfl }
def Try.sortA_ren : Go.Shelf.Ren := ⟨fun | 5 => 51 | 8 => 61 | 7 => 60 | 19 => 75 | 20 => 76 | 10 => 66 | 11 => 67 | 12 => 68 | 13 => 69 | 14 => 70 | 15 => 71 | 16 => 72 | 17 => 73 | 18 => 74 | 30 => 85 | 31 => 86 | 32 => 87 | 33 => 88 | 34 => 89 | 35 => 90 | 40 => 97 | n => n, fun | 23 => 35 | 25 => 3 | 3 => 3 | 32 => 104 | 22 => 35 | 0 => 0 | 44 => 97 | 46 => 105 | 4 => 4 | 36 => 112 | 35 => 111 | 41 => 116 | 5 => 5 | 9 => 9 | 53 => 131 | 57 => 135 | 63 => 143 | 64 => 144 | n => n, fun | n => n⟩
theorem Try.sortA : Go.Proofs.SlLaysM.n5 Try.prog Try.sortA_ren := {
  mixed := by kernel_rfl
  f5 := ⟨Try.f51.name, by decide, Try.func51.trans (congrArg some (by kernel_rfl))⟩
  f7 := ⟨Try.f60.name, by decide, Try.func60.trans (congrArg some (by kernel_rfl))⟩
  f8 := Try.func61.trans (congrArg some (by kernel_rfl))
  f10 := ⟨Try.f66.name, by decide, Try.func66.trans (congrArg some (by kernel_rfl))⟩
  f11 := ⟨Try.f67.name, by decide, Try.func67.trans (congrArg some (by kernel_rfl))⟩
  f12 := ⟨Try.f68.name, by decide, Try.func68.trans (congrArg some (by kernel_rfl))⟩
  f13 := ⟨Try.f69.name, by decide, Try.func69.trans (congrArg some (by kernel_rfl))⟩
  f14 := ⟨Try.f70.name, by decide, Try.func70.trans (congrArg some (by kernel_rfl))⟩
  f15 := ⟨Try.f71.name, by decide, Try.func71.trans (congrArg some (by kernel_rfl))⟩
  f16 := ⟨Try.f72.name, by decide, Try.func72.trans (congrArg some (by kernel_rfl))⟩
  f17 := ⟨Try.f73.name, by decide, Try.func73.trans (congrArg some (by kernel_rfl))⟩
  f18 := ⟨Try.f74.name, by decide, Try.func74.trans (congrArg some (by kernel_rfl))⟩
  f19 := Try.func75.trans (congrArg some (by kernel_rfl))
  f20 := Try.func76.trans (congrArg some (by kernel_rfl))
  f30 := ⟨Try.f85.name, by decide, Try.func85.trans (congrArg some (by kernel_rfl))⟩
  f31 := Try.func86.trans (congrArg some (by kernel_rfl))
  f32 := Try.func87.trans (congrArg some (by kernel_rfl))
  f33 := ⟨Try.f88.name, by decide, Try.func88.trans (congrArg some (by kernel_rfl))⟩
  f34 := ⟨Try.f89.name, by decide, Try.func89.trans (congrArg some (by kernel_rfl))⟩
  f35 := ⟨Try.f90.name, by decide, Try.func90.trans (congrArg some (by kernel_rfl))⟩
  f40 := ⟨Try.f97.name, by decide, Try.func97.trans (congrArg some (by kernel_rfl))⟩
  t0 := Try.underlying0
  a0 := Try.isAgg0
  z0 := Try.sizeOf0
  v0 := Try.zeroValue0
  t3 := Try.underlying3
  a3 := Try.isAgg3
  z3 := Try.sizeOf3
  v3 := Try.zeroValue3
  t4 := Try.underlying4
  a4 := Try.isAgg4
  z4 := Try.sizeOf4
  v4 := Try.zeroValue4
  t5 := Try.underlying5
  a5 := Try.isAgg5
  z5 := Try.sizeOf5
  v5 := Try.zeroValue5
  t9 := Try.underlying9
  a9 := Try.isAgg9
  z9 := Try.sizeOf9
  v9 := Try.zeroValue9
  t22 := Try.underlying35
  a22 := Try.isAgg35
  z22 := Try.sizeOf35
  v22 := Try.zeroValue35
  t23 := Try.underlying35
  a23 := Try.isAgg35
  z23 := Try.sizeOf35
  v23 := Try.zeroValue35
  t25 := Try.underlying3
  a25 := Try.isAgg3
  z25 := Try.sizeOf3
  v25 := Try.zeroValue3
  t32 := Try.underlying104
  a32 := Try.isAgg104
  z32 := Try.sizeOf104
  v32 := Try.zeroValue104
  t35 := Try.underlying111
  a35 := Try.isAgg111
  z35 := Try.sizeOf111
  v35 := Try.zeroValue111
  t36 := Try.underlying112
  a36 := Try.isAgg112
  z36 := Try.sizeOf112
  v36 := Try.zeroValue112
  t41 := Try.underlying116
  a41 := Try.isAgg116
  z41 := Try.sizeOf116
  v41 := Try.zeroValue116
  t44 := Try.underlying97
  a44 := Try.isAgg97
  z44 := Try.sizeOf97
  v44 := Try.zeroValue97
  t46 := Try.underlying105
  a46 := Try.isAgg105
  z46 := Try.sizeOf105
  v46 := Try.zeroValue105
  t53 := Try.underlying131
  a53 := Try.isAgg131
  z53 := Try.sizeOf131
  v53 := Try.zeroValue131
  t57 := Try.underlying135
  a57 := Try.isAgg135
  z57 := Try.sizeOf135
  v57 := Try.zeroValue135
  t63 := Try.underlying143
  a63 := Try.isAgg143
  z63 := Try.sizeOf143
  v63 := Try.zeroValue143
  t64 := Try.underlying144
  a64 := Try.isAgg144
  z64 := Try.sizeOf144
  v64 := Try.zeroValue144 }
end Go.Proofs.Ytjgmlpfallakmaa
end
section
namespace Go.Proofs.Ytjgmlpfallakmaa
open Go.RowKit Go.Maps Go.Sort Go.Shelf
/-- slices.Sort's two contracts at this program -/
theorem sorts_in (m : Nat) : AnyZI.SortsIn Try.prog Try.sortedA_ren Fence.wide m :=
  ⟨fun blk off cap ss W hH hblk hsz => callsIn_wide.2 (AnyM.slices_Sort_int Try.sortA blk off cap ss W hH hblk hsz),
   fun p cap W => callsIn_wide.2 (AnyM.slices_Sort_int_none Try.sortA p cap W)⟩
theorem keys_call (mb : Option Nat) (W : World) : Calls Try.prog 36 #[.map mb] W fun e w' => e = .returned (.func (.func 52) #[] #[.pointer (some ⟨W.heap.size, 0, none⟩)]) ∧ w' = W.alloc (.cells #[.map mb] 62) :=
  (callsIn_wide (n := 5)).1 (AnyZI.keys_in Try.keysA Fence.wide 5 trivial rfl mb W)
set_option maxHeartbeats 1000000 in
theorem sorted_call {H : Type} (b nn : Nat) (D0 : DataW H) (R : Value → Option (DataW H × List MemPlace)) (w : World) (hown : w.ownsMap Try.prog 3 R b nn D0) (hmax : Maps.size D0 ≤ maxLen) (hbytes : Maps.size D0 * 8 ≤ 140737488355328) :
    Calls Try.prog 35 #[.func (.func 52) #[] #[.pointer (some ⟨w.heap.size, 0, none⟩)]] (w.alloc (.cells #[.map (some b)] 62)) fun e w' => ∃ (v : Value) (ss : List Int), e = .returned v ∧ ss.Perm (intKeys D0) ∧
      w'.ownsRow w.heap.size 3 1 v ss.length ((ss.mergeSort (fun x y => decide (x ≤ y))).map encZ) ∧ Below (w.alloc (.cells #[.map (some b)] 62)).heap.size (w.alloc (.cells #[.map (some b)] 62)) w' := by
  have hbl := hown.lt
  have hseq : SeqGives Fence.wide 2 Try.prog 52 #[.pointer (some ⟨w.heap.size, 0, none⟩)] encZ (fun ss => ss.Perm (intKeys D0)) (Maps.size D0) (w.alloc (.cells #[.map (some b)] 62)) :=
    AnyZI.keys_gives (ρ := Try.keysA_ren) { Try.keysA with } Fence.wide _ trivial rfl (by omega) w.heap.size b nn D0 _ (by simp) (by simp) (by
      obtain ⟨es, clock, hb, Ft, hs, hD⟩ := hown
      exact ⟨es, clock, (Below.heap_alloc _ _ b hbl).trans hb, Ft, hs, hD⟩)
  have cS := AnyZI.sorted_in Try.sortedA Fence.wide 5 trivial trivial trivial trivial rfl (by omega) (sorts_in _) (enters_of Try.func51 (by kernel_rfl) rfl) 52 #[.pointer (some ⟨w.heap.size, 0, none⟩)] trivial (enters_of Try.func52 (by kernel_rfl) rfl) _ _ hmax hbytes _ hseq
  change CallsIn _ _ Try.prog 35 _ _ _ at cS
  refine ((callsIn_wide (n := 5)).1 cS).mono ?_
  rintro e w' ⟨v, ss, rfl, hS, hrow, hnil, hb⟩
  exact ⟨v, ss, rfl, hS, ownsRow_base_a hrow (by simp), hb⟩
end Go.Proofs.Ytjgmlpfallakmaa
end
section
namespace Go.Proofs.Ytjgmlpfallakmaa
open Go.RowKit
attribute [local go_sem ↓] Go.wp_at_zero Go.wp_at_succ
/-- sector by sector of those that wait -/
def startL (picks : List Int) (row : List (Nat × ByteArray)) : List Nat → Nat → List ByteArray → List ByteArray
  | [], _, s => s
  | i :: l, turn, s => startL picks row l (turn + 1) (kept s i (RD.writes row i) (RD.keeps picks turn (RD.writes row i).length))
theorem started_eq (picks : List Int) (row : List (Nat × ByteArray)) : ∀ (n i turn : Nat) (s : List ByteArray),
    RD.started picks row n i turn s = startL picks row ((List.range' i n).filter fun j => decide ((RD.writes row j).length ≠ 0)) turn s
  | 0, _, _, _ => rfl
  | n + 1, i, turn, s => by
    rw [List.range'_succ]
    by_cases h : (RD.writes row i).length = 0
    · rw [RD.started_skip _ _ _ _ _ _ h, started_eq, List.filter_cons_of_neg (by simp [h])]
    · rw [RD.started_take _ _ _ _ _ _ h, started_eq, List.filter_cons_of_pos (by simpa using h)]
      rfl
/-- the sectors that wait -/
def dueOf (d : RD) : List Nat := (List.range' 0 d.sector.length).filter fun j => decide ((RD.writes d.row j).length ≠ 0)
theorem mem_due (d : RD) (j : Nat) : j ∈ dueOf d ↔ j < d.sector.length ∧ RD.writes d.row j ≠ [] := by
  unfold dueOf
  rw [List.mem_filter, List.mem_range']
  simp
theorem range_rises (n : Nat) : (List.range' 0 n).Pairwise (· < ·) := by
  rw [← List.range_eq_range']
  exact List.pairwise_lt_range
/-- the keys of the map, sorted, are the sectors that wait in their order -/
theorem sorted_due {w : World} {b n nn : Nat} {d : RD} {f : Int → Option Value} {D : DataW Value} {kt : TypeId} {P : Program} (hk : P.underlying kt = some (.int .i64)) (hown : w.ownsMap P kt heldR b nn D)
    (h1 : ∀ k v, f k = some v → Maps.has D (.int .i64 k) = true) (h2 : ∀ k, Maps.has D (.int .i64 k) = true → ∃ v, f k = some v)
    (hr : ∀ k v, f k = some v → ∃ i : Nat, k = i ∧ i < d.sector.length ∧ RD.writes d.row i ≠ []) (hr2 : ∀ i : Nat, RD.writes d.row i ≠ [] → ∃ v, f i = some v)
    (ss : List Int) (hp : ss.Perm (intKeys D)) (hn : n = ss.length) : ss.mergeSort (fun x y => decide (x ≤ y)) = (dueOf d).map (fun i : Nat => (i : Int)) ∧ n = (dueOf d).length := by
  have hc : CollectedI D (fun _ => false) ((dueOf d).map (fun i : Nat => (i : Int))) := by
    refine ⟨?_, fun x => ?_⟩
    · refine List.pairwise_map.2 ?_
      refine (((range_rises d.sector.length).filter _).imp ?_)
      intro a b hab e
      omega
    · rw [List.mem_map]
      constructor
      · rintro ⟨j, hj, rfl⟩
        obtain ⟨v, hv⟩ := hr2 j ((mem_due d j).1 hj).2
        exact ⟨h1 _ v hv, rfl⟩
      · rintro ⟨hx, _⟩
        obtain ⟨v, hv⟩ := h2 x hx
        obtain ⟨i, rfl, hi, hw⟩ := hr x v hv
        exact ⟨i, (mem_due d i).2 ⟨hi, hw⟩, rfl⟩
  have hperm := hp.trans (hc.perm hown (Maps.int_keyed hk) hk (fun _ => rfl)).symm
  refine ⟨?_, by rw [hn, hperm.length_eq, List.length_map]⟩
  rw [mergeSort_of_perm_i hperm]
  refine List.mergeSort_of_pairwise ?_
  refine List.pairwise_map.2 (((range_rises d.sector.length).filter _).imp ?_)
  intro a b hab
  simp
  omega
/-- the pick of the k-th -/
def pickAt (picks : List Int) (k : Nat) : Int := if picks.length = 0 then 0 else picks.getD (k % picks.length) 0
set_option maxRecDepth 100000 in
theorem pickOf40 (w : World) (F : List Nat) (v : Value) (picks : List Int) (h : NumsAt w F v picks) (k : Nat) :
    Calls Try.prog 39 #[v, .int .i64 k] w fun e w' => e = .returned (.int .i64 (pickAt picks k)) ∧ w = w' := by
  obtain ⟨A, cap, rfl, hl, hz, hc⟩ := h
  by_cases h0 : picks.length = 0
  · have d0 : ((picks.length : Int) == 0) = true := by rw [h0]; rfl
    have HP : Hid (pickAt picks k = 0) := Lib.hid (by unfold pickAt; rw [if_pos h0])
    clear hc hz h0
    go_enter Try.func39, Try.ntmps39
    go_wp2
    go_ret
    exact ⟨by rw [HP.out]; rfl, rfl⟩
  · have d0 : ((picks.length : Int) == 0) = false := by rw [beq_eq_false_iff_ne]; omega
    have hm : k % picks.length < picks.length := Nat.mod_lt _ (by omega)
    obtain ⟨b, off, rfl, _, _, hcell⟩ := hc (k % picks.length) hm
    obtain ⟨x, hx⟩ : ∃ x, picks[k % picks.length] = x := ⟨_, rfl⟩
    have HP : Hid (pickAt picks k = x) := Lib.hid (by unfold pickAt; rw [if_neg h0, ← hx, List.getD_eq_getElem?_getD, List.getElem?_eq_getElem hm]; rfl)
    rw [hx] at hcell
    obtain ⟨q, hq⟩ : ∃ q : Nat, k % picks.length = q := ⟨_, rfl⟩
    rw [hq] at hm hcell
    obtain ⟨n, hn⟩ : ∃ n : Nat, picks.length = n := ⟨_, rfl⟩
    rw [hn] at d0 hm hq hl
    have hrem : Int.tmod (k : Int) (n : Int) = (q : Int) := by rw [← hq]; rfl
    have i1 : (0 : Int) ≤ (q : Int) := by omega
    have i2 : (q : Int) < (n : Int) := by omega
    clear hc hz hx
    rw [hn]
    go_enter Try.func39, Try.ntmps39
    go_wp2
    go_ret
    exact ⟨by rw [HP.out]; rfl, rfl⟩
theorem pickAt_in {w : World} {F : List Nat} {v : Value} {picks : List Int} (h : NumsAt w F v picks) (k : Nat) : -9223372036854775808 ≤ pickAt picks k ∧ pickAt picks k ≤ 9223372036854775807 := by
  obtain ⟨_, _, _, _, hz, _⟩ := h
  unfold pickAt
  split
  · omega
  · rename_i h0
    have hm : k % picks.length < picks.length := Nat.mod_lt _ (by omega)
    rw [List.getD_eq_getElem?_getD, List.getElem?_eq_getElem hm]
    exact hz _ (List.getElem_mem hm)
theorem keeps_eq (picks : List Int) (k m : Nat) : RD.keeps picks k m = if 0 < pickAt picks k then (pickAt picks k % ((m : Int) + 1)).toNat else 0 := by
  unfold RD.keeps pickAt
  by_cases h : picks.length = 0
  · rw [if_pos h, if_pos h]; rfl
  · rw [if_neg h, if_neg h]
set_option maxRecDepth 100000 in
theorem picked39 (w : World) (picks : List Int) (k m : Nat) (hm : m ≤ 1000000) (hz : -9223372036854775808 ≤ pickAt picks k ∧ pickAt picks k ≤ 9223372036854775807) :
    Calls Try.prog 38 #[.int .i64 (pickAt picks k), .int .i64 m] w fun e w' => e = .returned (.int .i64 (RD.keeps picks k m : Nat)) ∧ w = w' := by
  have HK := Lib.hid (keeps_eq picks k m)
  obtain ⟨x, hx⟩ : ∃ x, pickAt picks k = x := ⟨_, rfl⟩
  rw [hx] at HK hz ⊢
  by_cases h0 : x < 0
  · have d0 : decide (x < 0) = true := decide_eq_true h0
    have HV : Hid (RD.keeps picks k m = 0) := Lib.hid (by rw [HK.out, if_neg (by omega)])
    clear hz h0
    go_enter Try.func38, Try.ntmps38
    go_wp2
    go_ret
    exact ⟨by rw [HV.out]; rfl, rfl⟩
  · have d0 : decide (x < 0) = false := decide_eq_false h0
    obtain ⟨y, rfl⟩ := Int.eq_ofNat_of_zero_le (show 0 ≤ x by omega)
    have HV : Hid (RD.keeps picks k m = y % (m + 1)) := Lib.hid (by
      rw [HK.out]
      split
      · rw [show ((m : Int) + 1) = ((m + 1 : Nat) : Int) by omega, ← Int.natCast_emod, Int.toNat_natCast]
      · rw [show y = 0 by omega, Nat.zero_mod])
    obtain ⟨q, hq⟩ : ∃ q : Nat, y % (m + 1) = q := ⟨_, rfl⟩
    have hrem : Int.tmod (y : Int) ((m : Int) + 1) = (q : Int) := by rw [← hq]; rfl
    have hqm : q < m + 1 := by rw [← hq]; exact Nat.mod_lt _ (by omega)
    rw [hq] at HV
    clear hz h0 hq
    go_enter Try.func38, Try.ntmps38
    go_wp2
    go_ret
    exact ⟨by rw [HV.out]; rfl, rfl⟩
end Go.Proofs.Ytjgmlpfallakmaa
end
section
namespace Go.Proofs.Ytjgmlpfallakmaa
open Go.RowKit
attribute [local go_sem ↓] Go.wp_at_zero Go.wp_at_succ
theorem steps_4 {P : Program} {md : Region.Mode} {Q : Exit → Act → World → Prop} {S : World → Prop} {x0 x1 x2 x3 o : Oper} {l : List Oper} {fuel : Nat} {listed : Array Bool} {a : Act} {w : World}
    (hr : Region.ready md (x0 :: x1 :: x2 :: x3 :: o :: l).toArray listed = [4])
    (h : ∀ K' : Act → World → Prop, Shut (∀ a w, S w → (S w → wpAnyH P md (x0 :: x1 :: x2 :: x3 :: o :: l).toArray Q S fuel (listed.setIfInBounds 4 true) a w) → K' a w) → if Region.wanted o (yielded (x0 :: x1 :: x2 :: x3 :: o :: l).toArray a.tmps) = true then Oper.wp P o a w K' Q else K' (a.put o.dst undef) w) :
    wpAnyH P md (x0 :: x1 :: x2 :: x3 :: o :: l).toArray Q S (fuel + 1) listed a w :=
  wpAnyH_ready hr (by simp) (AllReadyH.cons (o := o) rfl h AllReadyH.nil)
/-- what holds at a round of Start's loop -/
def StartedAt (w3 : World) (p : Nat) (vs : Value) (cs : Array Value) (d : RD) (picks : List Int) (fin : List ByteArray) (j : Nat) (wr : World) : Prop :=
  ∃ s : List ByteArray, Blk wr p cs 64 ∧ wr.ownsRow 0 82 128 vs d.sector.length (secs s) ∧ s.length = d.sector.length ∧ All128 s ∧ Touch vs.ownBlock.toList w3 wr ∧ startL picks d.row ((dueOf d).drop j) j s = fin
set_option maxRecDepth 4000 in
set_option maxHeartbeats 3200000 in
theorem dev_start (w : World) (p : Nat) (d : RD) (F : List Nat) (K : Nat) (hK : K ≤ 1000000) (ok : RD.Ok K d) (h : DevAt w p d F) (v : Value) (picks : List Int) (hp : NumsAt w F v picks) :
    Calls Try.prog 18 #[.pointer (some ⟨p, 0, none⟩), v] w (Did DevAt w p F (d.startD picks) (.returned (.int .i64 d.startE))) := by
  have hl := ok.row
  have hl2 := ok.len
  cases ho : d.off
  · have HD : Hid (d.startD picks = d ∧ d.startE = 10) := Lib.hid (by unfold RD.startD RD.startE; rw [ho]; exact ⟨rfl, rfl⟩)
    have HA := Lib.hid h
    obtain ⟨vs, mb, n, f, hb, _⟩ := h
    have c0 : w.cell? ⟨p, 0, none⟩ = some (.bool (!d.off)) := hb.cell 0
    rw [ho] at c0
    clear hb hl hl2 ho
    go_enter Try.func18, Try.ntmps18
    go_wp2
    go_ret
    refine ⟨by rw [HD.out.2]; rfl, ?_⟩
    rw [HD.out.1]
    exact ⟨F, HA.out, Touch.refl _ _, Grows.refl _ _⟩
  · obtain ⟨fin, hfin⟩ : ∃ fin, startL picks d.row (dueOf d) 0 d.sector = fin := ⟨_, rfl⟩
    have HD : Hid (d.startD picks = { d with sector := fin, row := [], off := false } ∧ d.startE = 0) := Lib.hid (by
      unfold RD.startD RD.startE; rw [ho, started_eq]; exact ⟨by rw [← hfin]; rfl, rfl⟩)
    obtain ⟨vs, mb, n, f, hb, hs, hm, hn, hr, hr2, k1, k2, k3, ⟨m1, m2, m3, m4⟩, hlt, hz, hz2⟩ := h
    have hwf : ∀ k v, f k = some v → (Lit.int .i64 k).wf = true := by
      intro k v hf
      obtain ⟨i, rfl, hi, _⟩ := hr k v hf
      simp [Lit.wf, IntKind.min, IntKind.max, IntKind.bits, IntKind.signed]
      omega
    obtain ⟨A, cap, rfl⟩ := ownsRow_slice hs
    obtain ⟨D, hD, hD1, hD2, hD3⟩ := hm.owns Try.underlying3 (by simp only [maxLen]; omega) hwf
    have hsz := hD.size_le
    have c0 : w.cell? ⟨p, 0, none⟩ = some (.bool (!d.off)) := hb.cell 0
    have c2 : w.cell? ⟨p, 2, none⟩ = some (.map (some mb)) := hb.cell 2
    rw [ho] at c0
    have KC := Lib.hid (keys_call (some mb) w)
    have SC := Lib.hid (sorted_call mb n D heldR w hD (by simp only [maxLen]; omega) (by omega))
    have HSD := Lib.hid (fun (n : Nat) (ss : List Int) hp hn => sorted_due (w := w) (b := mb) (n := n) (nn := _) (d := d) (f := f) (D := D) (kt := 3) (P := Try.prog) Try.underlying3 hD hD2 hD3 (fun k v hf => by obtain ⟨i, e, h1, h2, _⟩ := hr k v hf; exact ⟨i, e, h1, h2⟩) hr2 ss hp hn)
    obtain ⟨cs, hcs⟩ : ∃ cs : Array Value, #[.bool (!d.off), .slice A d.sector.length cap, .map (some mb), .int .i64 d.left, .int .i64 d.wrote, .int .i64 d.count] = cs := ⟨_, rfl⟩
    have HCS := Lib.hid hcs
    have HOFF := Lib.hid ho
    have HB := Lib.hid hb
    have HS := Lib.hid hs
    have HM := Lib.hid hm
    have HR := Lib.hid hr
    have HR2 := Lib.hid hr2
    have HK1 := Lib.hid k1
    have HK2 := Lib.hid k2
    have HM4 := Lib.hid (And.intro m1 (And.intro m2 (And.intro m3 m4)))
    have HLT := Lib.hid hlt
    have HZ := Lib.hid hz
    have HZ2 := Lib.hid hz2
    have HP := Lib.hid hp
    obtain ⟨PA, pcap, rfl, _⟩ := hp
    have HFIN := Lib.hid hfin
    clear hr hD hD1 hD2 hD3 hwf k1 k2 k3 m1 m2 m3 m4 hlt hr2 hs hb hm hz hz2 hfin ho hcs
    go_enter Try.func18, Try.ntmps18
    go_upto_region 6 with (first | (go_at_call 36; refine KC.out.mono ?_; rintro e w2 ⟨rfl, rfl⟩) | (go_at_call 35; refine SC.out.mono ?_; rintro e w3 ⟨kv, ss, rfl, hperm, hrow, hb3⟩; obtain ⟨kA, kcap, rfl⟩ := ownsRow_slice hrow))
    have B3 : Below w.heap.size w w3 := ((Below.refl _ w).alloc (Nat.le_refl _) _).trans (hb3.mono (by simp))
    obtain ⟨q1, q2⟩ := HSD.out ss.length ss hperm rfl
    obtain ⟨T, hT⟩ : ∃ T, dueOf d = T := ⟨_, rfl⟩
    rw [q1] at hrow
    rw [hT] at hrow q2 HFIN
    obtain ⟨N, hN⟩ : ∃ N : Nat, ss.length = N := ⟨_, rfl⟩
    rw [hN] at hrow q2 ⊢
    have HKC : Hid (∀ j (h : j < T.length), ∃ gk, kA = some ⟨gk, 0, none⟩ ∧ w.heap.size ≤ gk ∧ gk < w3.heap.size ∧ w3.cell? ⟨gk, j, none⟩ = some (.int .i64 T[j])) := Lib.hid (fun j hj => by
      rcases hrow.2 with ⟨_, h0⟩ | ⟨gk, _, _, hkv, hge, _⟩
      · omega
      injection hkv with ea _ _
      subst ea
      have := hrow.cells (g := gk) rfl j (.int .i64 T[j]) (by simp [hj])
      rw [Addr.add_mid, Nat.zero_add] at this
      exact ⟨gk, rfl, hge, World.block_lt_of_cell? _ _ this, this⟩)
    have HTM : Hid (∀ i ∈ T, i < d.sector.length ∧ RD.writes d.row i ≠ []) := Lib.hid (fun i hi => by rw [← hT] at hi; exact (mem_due d i).1 hi)
    have hTl : T.length ≤ 2048 := by
      rw [← hT]
      unfold dueOf
      exact Nat.le_trans (List.length_filter_le _ _) (by rw [List.length_range']; exact hl2)
    have HQ2 := Lib.hid q2
    have HST : Hid (StartedAt w3 p (.slice A d.sector.length cap) cs d picks fin 0 w3) := Lib.hid
      ⟨d.sector, by rw [← HCS.out]; exact HB.out.touch (Touch.ofBelow B3) (by simp), ownsRow_touch HS.out (Touch.ofBelow B3) (by simp), rfl, HZ.out, Touch.refl _ _, by rw [hT]; exact HFIN.out⟩
    have HB3 := Lib.hid B3
    have HT := Lib.hid hT
    have hN2 : N ≤ 2048 := by omega
    clear hperm hrow hb3 B3 q1 q2 hN hT c0 c2 hsz hTl
    clear ss
    go_loopw [5, 6, 20] (fun _ _ x wr => ∃ j : Nat, j ≤ N ∧ x = .int .i64 j ∧ StartedAt w3 p (.slice A d.sector.length cap) cs d picks fin j wr) (fun _ _ x _ => N - (intOf x).toNat)
    case atStart => exact ⟨0, by omega, rfl, HST.out⟩
    case round =>
      obtain ⟨j, hj, rfl, s, rb, rs, rl, rz, rT, rf⟩ := hrel
      by_cases hlt : j < N
      · have d0 : decide ((j : Int) < (N : Int)) = true := decide_eq_true (by omega)
        have hjT : j < T.length := by rw [← HQ2.out]; exact hlt
        obtain ⟨gk, rfl, hge, hgl, hkc⟩ := HKC.out j hjT
        obtain ⟨i, hi⟩ : ∃ i, T[j] = i := ⟨_, rfl⟩
        obtain ⟨hil, hwi⟩ := HTM.out i (by rw [← hi]; exact List.getElem_mem hjT)
        rw [hi] at hkc
        have T03 : Touch [] w w3 := Touch.ofBelow HB3.out
        have Twr : Touch (Value.slice A d.sector.length cap).ownBlock.toList w wr := (T03.more (by simp)).trans rT (Grows.refl _ _)
        obtain ⟨vi, hvi⟩ := HR2.out i hwi
        obtain ⟨i', hii, _, _, ho⟩ := HR.out i vi hvi
        obtain rfl : i = i' := by omega
        have hvk := HK2.out i vi hvi
        obtain ⟨Av, capv, rfl⟩ := ownsRow_slice ho
        have hml := RD.writes_length_le d.row i
        have how := ownsRow_touch ho Twr (fun g hg hh => hvk.2.2 g hg (by simpa using hh))
        rcases rs.2 with ⟨_, h0⟩ | ⟨g, _, _, hsv, _⟩
        · omega
        injection hsv with ea _ _
        subst ea
        have hpg : p ≠ g := fun e => HK1.out.2.1 (by rw [e]; rfl)
        have hmg : mb ≠ g := fun e => HK1.out.2.2 (by rw [e]; rfl)
        have hgF : g ∈ F := HM4.out.2.2.1 g rfl
        have hkg : gk ≠ g := fun e => by have := HLT.out g hgF; omega
        have kcell : wr.cell? ⟨gk, j, none⟩ = some (.int .i64 i) := (rT.cell (p := ⟨gk, j, none⟩) hgl (by simpa [Value.ownBlock] using hkg)).trans hkc
        have hLz : All128 (RD.writes d.row i) := by
          intro s hs
          unfold RD.writes at hs
          obtain ⟨x, hx, rfl⟩ := List.mem_map.1 hs
          exact HZ2.out x (List.mem_filter.1 hx).1
        have hlk : ∀ wx : World, Touch [g] wr wx → (Instr.lookup 62 (.map (some mb)) (.int .i64 i) false).run Try.prog wx = .ok (.slice Av (RD.writes d.row i).length capv) wx := fun wx hx => by
          have hmx : IMap wx mb n f := (HM.out.touch Twr (fun hh => HK1.out.2.2 (by simpa using hh))).touch hx (by simpa using hmg)
          have := hmx.lookup Try.underlying62 Try.underlying3 (zero55 wx) i
          rwa [hvi] at this
        have hrb := rb
        rw [← HCS.out, ← rl] at hrb
        have rs' := rs
        rw [← rl] at rs' hil
        have Tdr : Touch [] wr wr.drew := (Touch.refl _ _).drew
        have KP := Lib.hid (dev_keep wr.drew p mb g cap _ _ _ _ _ s (RD.writes d.row i) i (RD.keeps picks j (RD.writes d.row i).length) hrb rs' rz hil hpg (hvk.2.2 g · rfl) (fun wx hx => hlk wx ((Tdr.more (by simp)).trans hx (Grows.refl _ _))) how hLz (RD.keeps_le _ _ _) (by omega))
        have hpw : NumsAt wr.drew F (.slice PA picks.length pcap) picks := (HP.out.touch Twr (by
          intro k hk
          have : k = g := by simpa [Value.ownBlock, eq_comm] using hk
          rw [this]; exact hgF)).touch Tdr (by simp)
        have PK := Lib.hid (pickOf40 wr.drew F _ picks hpw j)
        have PD := Lib.hid (picked39 wr.drew picks j (RD.writes d.row i).length (by omega) (pickAt_in hpw j))
        have hc2 : wr.drew.cell? ⟨p, 2, none⟩ = some (.map (some mb)) := hrb.cell 2
        have HC2 : Hid (∀ wx : World, Touch [g] wr wx → wx.cell? ⟨p, 2, none⟩ = some (.map (some mb))) := Lib.hid (fun wx hx => (hrb.touch hx (by simpa using hpg)).cell 2)
        have hl1 := hlk wr.drew (Tdr.more (by simp))
        have HLK := Lib.hid hlk
        obtain ⟨L, hL⟩ : ∃ L, RD.writes d.row i = L := ⟨_, rfl⟩
        obtain ⟨x, hx⟩ : ∃ x, pickAt picks j = x := ⟨_, rfl⟩
        rw [hL] at KP PD HLK hl1 hLz
        rw [hx] at PK PD
        obtain ⟨kn, hkn⟩ : ∃ kn : Nat, RD.keeps picks j L.length = kn := ⟨_, rfl⟩
        have hkl : kn ≤ L.length := by rw [← hkn]; exact RD.keeps_le _ _ _
        rw [hkn] at KP PD
        have hk8 : All128 (kept s i L kn) := by
          unfold kept
          split
          · exact rz
          · rename_i h0
            refine rz.set i ?_
            rw [List.getD_eq_getElem?_getD, List.getElem?_eq_getElem (by omega)]
            exact hLz.get (by omega)
        have HFN : Hid (startL picks d.row (T.drop (j + 1)) (j + 1) (kept s i L kn) = fin) := Lib.hid (by
          rw [HT.out, List.drop_eq_getElem_cons hjT, hi] at rf
          rw [← rf, startL, hL, hkn])
        have HRB := Lib.hid rb
        have HRT := Lib.hid rT
        have HK8 := Lib.hid hk8
        obtain ⟨lw, hlw⟩ : ∃ lw : Nat, L.length = lw := ⟨_, rfl⟩
        rw [hlw] at HLK hl1 PD
        have i1 : (0 : Int) ≤ (j : Int) := by omega
        have i2 : (j : Int) < (N : Int) := by omega
        clear hlk how ho hrb rs rs' hvi hwi hml hpw hLz rf rb rT Twr T03 hL hx hkn hk8 hkc hi hlw hvk
        go_wp2
        refine wp_region_held_drew (S := fun w' => w'.cell? ⟨p, 2, none⟩ = some (.map (some mb)) ∧ (Instr.lookup 62 (.map (some mb)) (.int .i64 i) false).run Try.prog w' = .ok (.slice Av lw capv) w') (by kernel_rfl) ⟨hc2, hl1⟩ (fun hHeld => ?_)
        refine take_0 (v := ?v0) (by kernel_rfl) (by kernel_rfl) (by kernel_rfl) (fun _ _ _ h => h) (by rfl) ?y0 hHeld ?r0
        case y0 => (intro wS hSw; (try dsimp only at hSw); go_simp; try with_reducible rfl)
        try simp only [Act.put, List.setIfInBounds_toArray, List.set_cons_zero, List.set_cons_succ]
        refine take_1 (v := ?v1) (by kernel_rfl) (by kernel_rfl) (by kernel_rfl) (fun _ _ _ h => h) (by rfl) ?y1 hHeld ?r1
        case y1 => (intro wS hSw; (try dsimp only at hSw); go_simp; try with_reducible rfl)
        try simp only [Act.put, List.setIfInBounds_toArray, List.set_cons_zero, List.set_cons_succ]
        refine take_2 (v := ?v2) (by kernel_rfl) (by kernel_rfl) (by kernel_rfl) (fun _ _ _ h => h) (by rfl) ?y2 hHeld ?r2
        case y2 => (intro wS hSw; (try dsimp only at hSw); go_simp; try with_reducible rfl)
        try simp only [Act.put, List.setIfInBounds_toArray, List.set_cons_zero, List.set_cons_succ]
        refine take_3 (v := ?v3) (by kernel_rfl) (by kernel_rfl) (by kernel_rfl) (fun _ _ _ h => h) (by rfl) ?y3 hHeld ?r3
        case y3 => (intro wS hSw; (try dsimp only at hSw); go_simp; try with_reducible rfl)
        try simp only [Act.put, List.setIfInBounds_toArray, List.set_cons_zero, List.set_cons_succ]
        refine takes_5 (v := ?v5) (by kernel_rfl) (by kernel_rfl) (by kernel_rfl) (fun _ _ _ h => h) (by rfl) ?y5 hHeld ?r5
        case y5 => (intro wS hSw; (try dsimp only at hSw); go_simp; try with_reducible rfl)
        try simp only [Act.put, List.setIfInBounds_toArray, List.set_cons_zero, List.set_cons_succ]
        refine take_6 (v := ?v6) (by kernel_rfl) (by kernel_rfl) (by kernel_rfl) (fun _ _ _ h => h) (by rfl) ?y6 hHeld ?r6
        case y6 => (intro wS hSw; (try dsimp only at hSw); go_simp; try with_reducible rfl)
        try simp only [Act.put, List.setIfInBounds_toArray, List.set_cons_zero, List.set_cons_succ]
        refine take_7 (v := ?v7) (by kernel_rfl) (by kernel_rfl) (by kernel_rfl) (fun _ _ _ h => h) (by rfl) ?y7 hHeld ?r7
        case y7 => (intro wS hSw; (try dsimp only at hSw); go_simp; try with_reducible rfl)
        try simp only [Act.put, List.setIfInBounds_toArray, List.set_cons_zero, List.set_cons_succ]
        refine take_8 (v := ?v8) (by kernel_rfl) (by kernel_rfl) (by kernel_rfl) (fun _ _ _ h => h) (by rfl) ?y8 hHeld ?r8
        case y8 => (intro wS hSw; (try dsimp only at hSw); go_simp; try with_reducible rfl)
        try simp only [Act.put, List.setIfInBounds_toArray, List.set_cons_zero, List.set_cons_succ]
        refine take_9 (v := ?v9) (by kernel_rfl) (by kernel_rfl) (by kernel_rfl) (fun _ _ _ h => h) (by rfl) ?y9 hHeld ?r9
        case y9 => (intro wS hSw; (try dsimp only at hSw); go_simp; try with_reducible rfl)
        try simp only [Act.put, List.setIfInBounds_toArray, List.set_cons_zero, List.set_cons_succ]
        refine take_10 (v := ?v10) (by kernel_rfl) (by kernel_rfl) (by kernel_rfl) (fun _ _ _ h => h) (by rfl) ?y10 hHeld ?r10
        case y10 => (intro wS hSw; (try dsimp only at hSw); go_simp; try with_reducible rfl)
        try simp only [Act.put, List.setIfInBounds_toArray, List.set_cons_zero, List.set_cons_succ]
        refine takes_11 (v := ?v11) (by kernel_rfl) (by kernel_rfl) (by kernel_rfl) (fun _ _ _ h => h) (by rfl) ?y11 hHeld ?r11
        case y11 => (intro wS hSw; (try dsimp only at hSw); go_simp; try with_reducible rfl)
        try simp only [Act.put, List.setIfInBounds_toArray, List.set_cons_zero, List.set_cons_succ]
        refine steps_4 (by kernel_rfl) (fun K hK => ?_)
        go_simp
        refine PK.out.mono ?_
        rintro e _ ⟨rfl, rfl⟩
        go_wp2_with fail
        refine hK.out _ _ ⟨hc2, hl1⟩ (fun hHeld => ?_)
        clear hK K
        try simp only [Act.put, List.setIfInBounds_toArray, List.set_cons_zero, List.set_cons_succ]
        refine steps_12 (by kernel_rfl) (fun K hK => ?_)
        go_simp
        refine PD.out.mono ?_
        rintro e _ ⟨rfl, rfl⟩
        go_wp2_with fail
        refine hK.out _ _ ⟨hc2, hl1⟩ (fun hHeld => ?_)
        clear hK K
        try simp only [Act.put, List.setIfInBounds_toArray, List.set_cons_zero, List.set_cons_succ]
        refine steps_13 (by kernel_rfl) (fun K hK => ?_)
        go_simp
        refine KP.out.mono ?_
        rintro e w5 ⟨rfl, hown5, hgr5⟩
        have T5 : Touch [g] wr w5 := (Tdr.more (by simp)).trans (touch_mb hgr5) (Grows.refl _ _)
        go_wp2_with fail
        refine hK.out _ _ ⟨HC2.out _ T5, HLK.out _ T5⟩ (fun hHeld => ?_)
        clear hK K
        try simp only [Act.put, List.setIfInBounds_toArray, List.set_cons_zero, List.set_cons_succ]
        refine ⟨by kernel_rfl, ?_⟩
        try simp only [Act.put, List.setIfInBounds_toArray, List.set_cons_zero, List.set_cons_succ]
        rw [rl] at hown5
        have HO := Lib.hid hown5
        have HT5 := Lib.hid T5
        clear hown5 hgr5 T5 hHeld
        go_wp2
        go_roundw
        case rel =>
          refine ⟨j + 1, by omega, by go_num, kept s i L kn, HRB.out.touch HT5.out (by simpa using hpg), HO.out, ?_, HK8.out, HRT.out.trans (HT5.out.more (by simp [Value.ownBlock])) (Grows.refl _ _), by rw [HT.out]; exact HFN.out⟩
          unfold kept
          split
          · exact rl
          · rw [List.length_set]; exact rl
        case measure => simp [intOf]; omega
      · obtain rfl : j = N := by omega
        have d0 : decide ((j : Int) < (j : Int)) = false := by simp
        have hfin : s = fin := by
          rw [HT.out, List.drop_eq_nil_of_le (by rw [← HQ2.out]; exact Nat.le_refl _)] at rf
          exact rf
        have T03 : Touch [] w w3 := Touch.ofBelow HB3.out
        have Twr : Touch (Value.slice A d.sector.length cap).ownBlock.toList w wr := (T03.more (by simp)).trans rT (Grows.refl _ _)
        rw [← HCS.out] at rb
        have y2 : wr.cell? ⟨p, 2, none⟩ = some (.map (some mb)) := rb.cell 2
        obtain ⟨w9, hclr, hm9, hgr9⟩ := (HM.out.touch Twr (fun hh => HK1.out.2.2 (by simpa using hh))).clear Try.underlying62
        have TC := touch_mb hgr9
        have rb9 := rb.touch TC (by simp; exact HK1.out.1)
        have y0 : w9.cell? ⟨p, 0, none⟩ = some (.bool (!d.off)) := rb9.cell 0
        have y1 := rb9.free 0
        have y3 := rb9.lt
        have H9 := Lib.hid (And.intro rb9 (And.intro hm9 TC))
        have HRS := Lib.hid rs
        have HTW := Lib.hid Twr
        clear hm9 hgr9 TC rb9 rs Twr T03 rb rT rf
        go_wp2
        go_ret
        obtain ⟨rb9, hm9, TC⟩ := H9.out
        obtain ⟨M1, M2, M3, M4⟩ := HM4.out
        have TP : Touch [p] w9 (w9.setCell ⟨p, 0, none⟩ (.bool true)) := (Touch.refl _ _).setCell (.inl (by simp)) _
        have TF : Touch F w wr := HTW.out.more (fun k hk => M3 k (by simpa using hk))
        have TE : Touch F w (w9.setCell ⟨p, 0, none⟩ (.bool true)) := (TF.trans (TC.more (by intro k hk; rw [List.mem_singleton.1 hk]; exact M2)) (Grows.refl _ _)).trans (TP.more (by intro k hk; rw [List.mem_singleton.1 hk]; exact M1)) (Grows.refl _ _)
        refine ⟨by rw [HD.out.2]; rfl, ?_⟩
        rw [HD.out.1]
        refine ⟨F, ⟨.slice A d.sector.length cap, mb, 0, fun _ => none, rb9.set 0 _, ?_, hm9.touch TP (by simp; exact Ne.symm HK1.out.1), by simp, by simp, fun i h => absurd rfl h, HK1.out, by simp, by simp, ⟨M1, M2, M3, by simp⟩, fun k hk => Nat.lt_of_lt_of_le (HLT.out k hk) TE.size, ?_, by simp⟩, TE, Grows.refl _ _⟩
        · show World.ownsRow _ 0 82 128 _ fin.length (secs fin)
          rw [← hfin, rl]
          refine ownsRow_touch (ownsRow_touch HRS.out TC (fun g hg hh => HK1.out.2.2 (by rw [hg, List.mem_singleton.1 hh]))) TP (fun g hg hh => HK1.out.2.1 (by rw [hg, List.mem_singleton.1 hh]))
        · show All128 fin
          rw [← hfin]
          exact rz
end Go.Proofs.Ytjgmlpfallakmaa
end
