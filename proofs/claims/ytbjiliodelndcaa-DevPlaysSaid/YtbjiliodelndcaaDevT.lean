/-
  Contracts of the program's dev.sectorOf and sector.text: a sector's bytes as an array by value. No conditions but those typed.
-/
import Derived.Test.YtbjiliodelndcaaKit
import Derived.Deep.MidRow
import Derived.Deep.WholeRow
import Derived.Lib.BufferWrite
import Derived.Lib.SlBuf
namespace Go.Proofs.Ytbjiliodelndcaa
open Go.RowKit
attribute [local go_sem ↓] Go.wp_at_zero Go.wp_at_succ
/-- a sector's cells -/
def sbytes (s : ByteArray) : List Value := bv s.data.toList
theorem sbytes_length (s : ByteArray) : (sbytes s).length = s.size := by unfold sbytes; rw [bv_length, Array.length_toList]; rfl
theorem sbytes_one (s : ByteArray) : ∀ u ∈ sbytes s, u.oneCell' = true := bv_one _
def sagg (s : ByteArray) : Value := .agg (sbytes s).toArray
/-- 'string(b)' of a slice whose block bears another type's mark -/
theorem run_string_marked {P : Program} (w : World) (src dst e : TypeId) (hs : P.underlying src = some (.slice e)) (he : P.underlying e = some (.int .u8)) (hd : P.underlying dst = some .string)
    (g n cap : Nat) (l : List UInt8) (hn : n = l.length) (hc : ∀ j u, (bv l)[j]? = some u → w.cell? ⟨g, j, none⟩ = some u) : (convert src dst (.slice (some ⟨g, 0, none⟩) n cap)).run P w = .ok (.string ⟨l.toArray⟩) w := by
  subst hn
  have hadd : ∀ j, (⟨g, 0, none⟩ : Addr).add j = ⟨g, j, none⟩ := fun j => by unfold Addr.add; split <;> simp_all
  have hl : (loadCells ⟨g, 0, none⟩ l.length).run P w = .ok ((l.map fun b => (b.toNat : Int)).map (Value.int .u8)).toArray w := by
    have := run_loadCells_list (P := P) w ⟨g, 0, none⟩ (bv l) (fun j u hj => by rw [hadd]; exact hc j u hj)
    rw [bv_length] at this
    simpa [bv, Function.comp_def] using this
  rw [run_convert_bytes_string w src dst e _ l.length cap hs he hd, run_bytesToString w _ l.length cap _ hl, foldl_push_bytes]
  have : (l.map fun b => (b.toNat : Int)).map (fun n => UInt8.ofNat n.toNat) = l := by
    rw [List.map_map]
    conv => rhs; rw [← List.map_id l]
    apply List.map_congr_left
    intro b _
    simp
  rw [this]
  simp [ByteArray.empty, ByteArray.emptyWithCapacity]
  rfl
section
variable {P : Program} {w w' : World} {ops : Array Oper} {rest : List Oper} {op : Oper} {a : Act} {Q : Exit → Act → World → Prop}
/-- a load, where its run is known by an equation -/
theorem wpList_load_run (hgd : op.guard = none) (ty : TypeId) (x : Operand) (ho : op.op = .load ty x) {p v : Value} (hx : a.eval x = p) (hr : (Instr.loadAt ty p).run P w = .ok v w)
    (h : wpList P ops Q rest (a.put op.dst v) w) : wpList P ops Q (op :: rest) a w :=
  wpList_plain hgd fun _ hK => by
    unfold Oper.wp execOp
    simp only [ho, hx, hr, Sem.run_bind, Result.andThen_ok, Sem.run_pure]
    exact hK _ _ h
/-- a store, where its run is known by an equation -/
theorem wpList_store_run (hgd : op.guard = none) (ty : TypeId) (x y : Operand) (ho : op.op = .store ty x y) {p v : Value} (hx : a.eval x = p) (hy : a.eval y = v) (hr : (Instr.storeAt ty p v).run P w = .ok () w')
    (h : wpList P ops Q rest (a.put op.dst undef) w') : wpList P ops Q (op :: rest) a w :=
  wpList_plain hgd fun _ hK => by
    unfold Oper.wp execOp
    simp only [ho, hx, hy, hr, Sem.run_bind, Result.andThen_ok, Sem.run_pure]
    exact hK _ _ h
end
theorem text34 (s : ByteArray) (hs : s.size = 128) (w : World) : Calls Try.prog 34 #[sagg s] w fun e w' => e = .returned (.string s) ∧ Below w.heap.size w w' := by
  obtain ⟨C, hC⟩ : ∃ C, (sbytes s).toArray = C := ⟨_, rfl⟩
  have hst := run_string_marked (P := Try.prog) (w.alloc (.cells C 62)) 59 9 5 Try.underlying59 Try.underlying5 Try.underlying9 w.heap.size 128 128 s.data.toList (by rw [← hs]; simp) (fun j u hu => by
    rw [cell_of_row _ _ j C 62 (0, 0) (heap_alloc_new w _), ← hC]
    simpa [sbytes] using hu)
  rw [str_data] at hst
  unfold sagg
  rw [hC]
  go_enter Try.func34, Try.ntmps34
  go_wp2
  go_ret
  exact ⟨rfl, (Below.refl _ w).alloc (Nat.le_refl _) _⟩
theorem info62 : (Try.prog.info? 62).map (fun i => (i.zero, i.size)) = some (some (.agg (Array.replicate 128 (.int .u8 0))), 128) := by kernel_rfl
theorem size62 : (Try.prog.info? 62).map (·.size) = some 128 := (zero_of_info info62).2
theorem zero62 (w : World) : (zeroValue 62).run Try.prog w = .ok (.agg (Array.replicate 128 (.int .u8 0))) w := (zero_of_info info62).1 w
set_option maxHeartbeats 800000 in
theorem sectorOf42 (s : ByteArray) (hs : s.size = 128) (w : World) : Calls Try.prog 42 #[.string s] w fun e w' => e = .returned (sagg s) ∧ Below w.heap.size w w' := by
  obtain ⟨Z, hZ⟩ : ∃ Z : Array Value, Array.replicate 128 (.int .u8 0) = Z := ⟨_, rfl⟩
  have hZs : Z.size = 128 := by rw [← hZ]; simp
  have hz : ∀ w, (zeroValue 62).run Try.prog w = .ok (.agg Z) w := fun w => by rw [zero62, hZ]
  obtain ⟨C, hC⟩ : ∃ C, (sbytes s).toArray = C := ⟨_, rfl⟩
  have hCs : C.size = 128 := by rw [← hC, List.size_toArray, sbytes_length, hs]
  have hC1 : C.all (·.oneCell') = true := by rw [← hC]; exact all_oneCell_toArray (sbytes_one s)
  have w2s : ((w.alloc (.cells Z 62)).alloc (.cells Z 62)).heap[(w.alloc (.cells Z 62)).heap.size]? = some (.cells Z 62 (0, 0)) := heap_alloc_new _ _
  have hcp := fun ty => Lib.run_copy_row_string (P := Try.prog) ((w.alloc (.cells Z 62)).alloc (.cells Z 62)) 59 9 ty 5 (w.heap.size + 1) 0 128 128 s Z 62 Try.underlying59 (by kernel_rfl) (by simpa using w2s) (by omega) (by omega)
  have hX : (Z.toList.take 0 ++ Lib.byteCells s.data.toList ++ Z.toList.drop (0 + s.size)).toArray = C := by
    rw [← hC, List.drop_eq_nil_of_le (by simp; omega)]
    simp [sbytes, bv, Lib.byteCells]
  have hw2 : ((w.alloc (.cells Z 62)).alloc (.cells Z 62)).setRow (w.heap.size + 1) C = (w.alloc (.cells Z 62)).alloc (.cells C 62) := by
    have := World.setRow_alloc_new (w.alloc (.cells Z 62)) Z C 62
    simpa using this
  simp only [hX, hw2] at hcp
  have hs1 : (w.alloc (.cells Z 62)).heap.size = w.heap.size + 1 := by simp
  have hld := run_loadAt_new (P := Try.prog) (w.alloc (.cells Z 62)) 62 C 128 5 Try.underlying62 (by rw [size62, hCs])
  rw [hs1] at hld
  have hb0 : ((w.alloc (.cells Z 62)).alloc (.cells C 62)).heap[w.heap.size]? = some (.cells Z 62 (0, 0)) := (Below.heap_alloc _ _ _ (by simp)).trans (heap_alloc_new w _)
  have hst0 := run_storeVar_row (P := Try.prog) _ w.heap.size 62 62 Z C hb0 (by rw [size62, hCs]) (by omega) hC1
  obtain ⟨w4, hw4⟩ : ∃ w4, ((w.alloc (.cells Z 62)).alloc (.cells C 62)).setRow w.heap.size C = w4 := ⟨_, rfl⟩
  rw [hw4] at hst0
  have hst : (storeCells ⟨w.heap.size, 0, none⟩ C.toList).run Try.prog ((w.alloc (.cells Z 62)).alloc (.cells C 62)) = .ok () w4 := by
    obtain ⟨i, hi, hs⟩ : ∃ i, Try.prog.info? 62 = some i ∧ i.size = 128 := by
      cases hq : Try.prog.info? 62 with
      | none => have := size62; rw [hq] at this; cases this
      | some i => have := size62; rw [hq] at this; exact ⟨i, rfl, by simpa using this⟩
    simpa [storeVar, sizeOf, typeInfo, hi, Value.cells, hs, hCs] using hst0
  have hbl : w4.heap[w.heap.size]? = some (.cells C 62 (0, 0)) := by rw [← hw4]; exact setRow_heap _ _ _ _ _ _ hb0
  have hbel : Below w.heap.size w w4 := by
    rw [← hw4]
    refine (((Below.refl _ w).alloc (Nat.le_refl _) (.cells Z 62)).alloc (by simp) (.cells C 62)).trans ⟨rfl, rfl, rfl, by simp, fun k hk => setRow_other _ _ _ _ (by omega)⟩
  have HC : Hid (Value.agg C = sagg s) := Lib.hid (by rw [← hC]; rfl)
  clear hX hw2 w2s hZ hC hst0 hb0 hw4 hs1 hC1
  go_enter Try.func42, Try.ntmps42
  go_wp2_with (refine wpList_load_run rfl 62 _ rfl (p := .pointer (some ⟨w.heap.size + 1, 0, none⟩)) (v := .agg C) (by rfl) hld ?_)
  exact bodyPost_ret (v := .agg C) (results_cell_row rfl _ _ _ _ _ _ _ rfl hbl Try.underlying62 rfl (by rw [size62, hCs])) rfl ⟨HC.out ▸ rfl, hbel⟩
end Go.Proofs.Ytbjiliodelndcaa
