/-
  The landed list of free pages in memory: one block of 512 slots, each a mark and a transaction. Conditions: those of a list that may be.
-/
import Derived.Test.YtjgndgcegenikaaProg
import Derived.Test.YtjgndgcegenikaaFrKit
import Derived.Test.YtjgndgcegenikaaLoadRun
import Derived.Lib.Hide
import Derived.Deep.QuietTactic
import Derived.BigQuiet
namespace Go.Proofs.Ytjgndgcegenikaa
open Go.RowKit
namespace Fr
/-- which pages are free, and by whom -/
abbrev St := Nat → Option Int
def stCell (o : Option Int) : List Value := [.bool o.isSome, .int .i64 (o.getD 0)]
def stL (t : St) (n : Nat) : List Value := (List.range n).flatMap fun k => stCell (t k)
def stA (t : St) : Array Value := (stL t 512).toArray
def St.set (t : St) (k : Nat) (o : Option Int) : St := fun j => if j = k then o else t j
theorem stL_length (t : St) (n : Nat) : (stL t n).length = 2 * n := by
  induction n with
  | zero => rfl
  | succ n ih =>
    unfold stL at ih ⊢
    rw [List.range_succ, List.flatMap_append, List.length_append, ih]
    show 2 * n + 2 = _
    omega
theorem stL_get (t : St) (n : Nat) : ∀ k, k < n → ∀ i, i < 2 → (stL t n)[k * 2 + i]? = (stCell (t k))[i]? := by
  induction n with
  | zero => intro k hk; omega
  | succ n ih =>
    intro k hk i hi
    have hs : stL t (n + 1) = stL t n ++ stCell (t n) := by unfold stL; rw [List.range_succ, List.flatMap_append]; simp
    have hl := stL_length t n
    rw [hs]
    by_cases h : k < n
    · rw [List.getElem?_append_left (by omega)]
      exact ih k h i hi
    · obtain rfl : k = n := by omega
      rw [List.getElem?_append_right (by omega)]
      congr 1
      omega
theorem stA_size (t : St) : (stA t).size = 1024 := by unfold stA; rw [List.size_toArray, stL_length]
theorem stA_get (t : St) (k i : Nat) (hk : k < 512) (hi : i < 2) : (stA t)[k * 2 + i]? = (stCell (t k))[i]? := by
  unfold stA
  rw [List.getElem?_toArray]
  exact stL_get t 512 k hk i hi
theorem stA_set (t : St) (k : Nat) (hk : k < 512) (o : Option Int) : ((stA t).setIfInBounds (k * 2) (.bool o.isSome)).setIfInBounds (k * 2 + 1) (.int .i64 (o.getD 0)) = stA (t.set k o) := by
  apply Array.ext_getElem?
  intro j
  rw [Array.getElem?_setIfInBounds, Array.getElem?_setIfInBounds, Array.size_setIfInBounds, stA_size]
  by_cases hj : j < 1024
  · obtain ⟨m, i, hi, rfl⟩ : ∃ m i, i < 2 ∧ j = m * 2 + i := ⟨j / 2, j % 2, by omega, by omega⟩
    have hm : m < 512 := by omega
    rw [stA_get _ m i hm hi, stA_get _ m i hm hi]
    by_cases e : m = k
    · subst e
      rcases (by omega : i = 0 ∨ i = 1) with rfl | rfl
      · rw [if_neg (by omega), if_pos (by omega), if_pos (by omega)]
        simp [St.set, stCell]
      · rw [if_pos (by omega), if_pos (by omega)]
        simp [St.set, stCell]
    · rw [if_neg (by omega), if_neg (by omega)]
      unfold St.set
      rw [if_neg e]
  · rw [if_neg (by omega), if_neg (by omega), Array.getElem?_eq_none (by rw [stA_size]; omega), Array.getElem?_eq_none (by rw [stA_size]; omega)]
theorem one_cells (t : St) (n : Nat) : ∀ u ∈ stL t n, u.oneCell' = true := by
  intro u hu
  unfold stL at hu
  rw [List.mem_flatMap] at hu
  obtain ⟨k, _, hk⟩ := hu
  simp only [stCell, List.mem_cons, List.not_mem_nil, or_false] at hk
  rcases hk with rfl | rfl <;> rfl
/-- the slots tell the list -/
def Tells (t : St) (l : List FP) : Prop := ∀ (k : Nat) (x : Int), t k = some x ↔ (x, (k : Int)) ∈ l
end Fr
/-- the landed list -/
def FLAt (w : World) (p : Nat) (l : List FP) (F : List Nat) : Prop := ∃ t, Blk w p (Fr.stA t) 57 ∧ Fr.Tells t l ∧ F = [p]
theorem FLAt.lt {w : World} {p : Nat} {l : List FP} {F : List Nat} (h : FLAt w p l F) : ∀ k ∈ F, k < w.heap.size := by
  obtain ⟨t, hp, _, rfl⟩ := h
  intro k hk
  simp only [List.mem_cons, List.not_mem_nil, or_false] at hk
  subst hk
  exact hp.lt
theorem FLAt.touch {w w' : World} {p : Nat} {l : List FP} {F S : List Nat} (h : FLAt w p l F) (hT : Touch S w w') (hS : ∀ k ∈ S, k ∉ F) : FLAt w' p l F := by
  obtain ⟨t, hp, ht, rfl⟩ := h
  exact ⟨t, hp.touch hT (fun hk => hS _ hk (by simp)), ht, rfl⟩
theorem flInfo : (Try.prog.info? 57).map (fun i => (i.zero, i.size)) = some (some (.agg (Fr.stA fun _ => none)), 1024) := by kernel_rfl
theorem flZero (w : World) : (zeroValue 57).run Try.prog w = .ok (.agg (Fr.stA fun _ => none)) w := (zero_of_info flInfo).1 w
theorem flSize : (Try.prog.info? 57).map (·.size) = some 1024 := (zero_of_info flInfo).2
theorem flSize2 : (Try.prog.info? 55).map (·.size) = some 1024 := by kernel_rfl
theorem stInfo : (Try.prog.info? 54).map (·.size) = some 2 := by kernel_rfl
theorem stIsAgg (w : World) : (isAgg 54).run Try.prog w = .ok true w := by kernel_rfl
theorem stSizeOf (w : World) : (Go.sizeOf 54).run Try.prog w = .ok 2 w := by kernel_rfl
theorem undA : Try.prog.underlying 55 = some (.array 512 54) := by kernel_rfl
/-- the whole row is read -/
theorem fl_load {w : World} {p : Nat} {t : Fr.St} (h : Blk w p (Fr.stA t) 57) : (Instr.loadAt 55 (.pointer (some ⟨p, 0, none⟩))).run Try.prog w = .ok (.agg (Fr.stA t)) w :=
  run_loadAt_mid w p 0 55 (Fr.stL t 512) _ (fun j v hv => by rw [h.cell, Nat.zero_add]; unfold Fr.stA; rw [List.getElem?_toArray]; exact hv) undA rfl (by rw [flSize2, Fr.stL_length])
theorem fl_load2 {w : World} {p : Nat} {t : Fr.St} (h : Blk w p (Fr.stA t) 57) : (Instr.loadAt 57 (.pointer (some ⟨p, 0, none⟩))).run Try.prog w = .ok (.agg (Fr.stA t)) w := by
  exact run_loadAt_mid w p 0 57 (Fr.stL t 512) _ (fun j v hv => by rw [h.cell, Nat.zero_add]; unfold Fr.stA; rw [List.getElem?_toArray]; exact hv) Try.underlying57 rfl (by rw [flSize, Fr.stL_length])
/-- one slot of the row's value -/
theorem fl_index (w : World) (t : Fr.St) (k : Nat) (hk : k < 512) : (Instr.index 55 (.agg (Fr.stA t)) (.int .i64 (k : Nat))).run Try.prog w = .ok (.agg #[.bool (t k).isSome, .int .i64 ((t k).getD 0)]) w := by
  have he : (Fr.stA t).extract (k * 2) (k * 2 + 2) = #[.bool (t k).isSome, .int .i64 ((t k).getD 0)] := by
    apply Array.ext_getElem?
    intro j
    rw [Array.getElem?_extract]
    by_cases hj : j < 2
    · rw [if_pos (by rw [Fr.stA_size]; omega), Fr.stA_get t k j hk hj]
      rcases (by omega : j = 0 ∨ j = 1) with rfl | rfl <;> rfl
    · rw [if_neg (by rw [Fr.stA_size]; omega)]
      rcases j with _ | _ | j <;> first | omega | rfl
  have hc : (0 : Int) ≤ (k : Int) ∧ (k : Int) < (512 : Nat) := by omega
  simp only [Instr.index, asIntOf, Sem.run_bind, Sem.run_pure, Result.andThen_ok, run_underlying undA w, if_pos hc, part, stIsAgg, stSizeOf, Int.toNat_natCast, he, if_true]
end Go.Proofs.Ytjgndgcegenikaa
