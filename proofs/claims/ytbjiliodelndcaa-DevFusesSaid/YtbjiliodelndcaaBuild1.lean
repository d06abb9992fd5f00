/-
  A slice literal of one sector: what '[]sector{x}' makes. No conditions but those typed.
-/
import Derived.Test.YtbjiliodelndcaaDevT
namespace Go.Proofs.Ytbjiliodelndcaa
open Go.RowKit
theorem foldl_put : ∀ (l : List Value) (k : Nat) (cells : Array Value), k + l.length ≤ cells.size →
    (l.zipIdx k).foldl (fun (cs : Array Value) (x : Value × Nat) => cs.setIfInBounds (0 + x.2) x.1) cells = (cells.toList.take k ++ l ++ cells.toList.drop (k + l.length)).toArray
  | [], k, cells, _ => by simp
  | c :: l, k, cells, h => by
    rw [List.zipIdx_cons, List.foldl_cons, foldl_put l (k + 1) _ (by simp at h ⊢; omega)]
    have e := list_seg_step cells.toList k c l (by simp at h ⊢; omega)
    simp only [Nat.zero_add]
    rw [Array.toList_setIfInBounds, List.length_cons, show k + (l.length + 1) = k + 1 + l.length by omega]
    congr 1
    simpa [Nat.add_assoc, Nat.add_comm, Nat.add_left_comm] using e
theorem run_build1 (w : World) (C : Array Value) (hC : C.size = 128) : (Instr.buildSlice 55 1 #[(0, .agg C)]).run Try.prog w = .ok (.slice (some ⟨w.heap.size, 0, none⟩) 1 1) (w.alloc (.cells C 62)) := by
  obtain ⟨i, hi, hs⟩ : ∃ i, Try.prog.info? 62 = some i ∧ i.size = 128 := by
    cases hq : Try.prog.info? 62 with
    | none => have := size62; rw [hq] at this; cases this
    | some i => have := size62; rw [hq] at this; exact ⟨i, rfl, by simpa using this⟩
  have hz := zero62
  obtain ⟨Z, hZ⟩ : ∃ Z : Array Value, Array.replicate 128 (.int .u8 0) = Z := ⟨_, rfl⟩
  rw [hZ] at hz
  obtain ⟨X, hX⟩ : ∃ X : Array Value, (Array.range 128).map (fun j => Z[j % Z.size]!) = X := ⟨_, rfl⟩
  have hXs : X.size = 128 := by rw [← hX]; simp
  have hf : Instr.fill (fun i => some (i * 128, 128)) X [(0, .agg C)] = some C := by
    have h1 := foldl_put C.toList 0 X (by simp; omega)
    simp only [Instr.fill, Value.cells, hC, hXs, Nat.zero_mul, Nat.zero_add] at h1 ⊢
    simp only [ne_eq, not_true_eq_false, decide_false, Nat.lt_irrefl, gt_iff_lt, Bool.or_self, Bool.false_eq_true, ↓reduceIte]
    rw [← Array.foldl_toList, Array.toList_zipIdx]
    congr 1
    rw [h1, List.drop_eq_nil_of_le (by simp; omega)]
    simp
  simp [Instr.buildSlice, run_underlying Try.underlying55, sizeOf, typeInfo, hi, hs, hz, hX, hf, newRow, Value.cells, Result.andThen]
end Go.Proofs.Ytbjiliodelndcaa
