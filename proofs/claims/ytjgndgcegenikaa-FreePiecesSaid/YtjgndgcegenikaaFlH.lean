/-
  The landed list of free pages: All, by the library's contract of slices.SortFunc. Conditions: those of a list that may be.
-/
import Derived.Test.YtjgndgcegenikaaFlD
import Derived.Test.YtjgndgcegenikaaFlG
import Derived.Test.YtjgndgcegenikaaSortf
namespace Go.Proofs.Ytjgndgcegenikaa
open Go.RowKit Go.Sort Go.Lib Go.Shelf
namespace Fr
theorem ltOf_less (a b : FP) : ltOf cmpF a b = less a b := cmpF_less a b
theorem swoF : SWO (ltOf cmpF) where
  irrefl x := by rw [ltOf_less, ← Bool.not_eq_true, less_iff]; omega
  trans x y z h1 h2 := by rw [ltOf_less] at *; exact less_trans h1 h2
  ntrans x y z h1 h2 := by
    rw [ltOf_less, ← Bool.not_eq_true, less_iff] at *
    omega
theorem flat_fvs (D : List FP) : (flatK fcells 2 D.toArray).toList = fvs D := by
  apply List.ext_getElem?
  intro j
  have hs : (flatK fcells 2 D.toArray).size = D.length * 2 := by rw [size_flatK]; simp
  by_cases hj : j < D.length * 2
  · obtain ⟨k, i, hi, rfl⟩ : ∃ k i, i < 2 ∧ j = k * 2 + i := ⟨j / 2, j % 2, by omega, by omega⟩
    have hk : k < D.length := by omega
    have h1 := get_flatK fcells 2 D.toArray (k * 2 + i) (by simpa using hj)
    rw [show (k * 2 + i) / 2 = k by omega, show (k * 2 + i) % 2 = i by omega] at h1
    rw [Array.getElem?_toList, Array.getElem?_eq_getElem (by omega), fvs_get D k hk i hi, ← getElem!_pos _ _ (by omega), h1]
    have h2 : (D.toArray)[k]! = D[k] := by rw [getElem!_pos _ _ (by simpa using hk)]; simp
    rw [h2]
    rcases (by omega : i = 0 ∨ i = 1) with rfl | rfl <;> rfl
  · rw [List.getElem?_eq_none (by simp only [Array.length_toList]; omega), List.getElem?_eq_none (by rw [fvs_length]; omega)]
end Fr
theorem heap_sortedF {w : World} {g n : Nat} {os : Array Obj} {cur : Array Value} {e : TypeId} {fr : Nat × Nat} (F : Array Value) (hb : w.heap[g]? = some (.cells cur e fr)) :
    (grow (putRow id (Sort.ahead w n) g 0 F) os).heap[g]? = some (.cells (putCells id 0 F cur) e fr) := by
  have hg : g < w.heap.size := (Array.getElem?_eq_some_iff.1 hb).1
  rw [heap_grow_old _ _ (by simpa using hg)]
  simp [putRow, mapBlock, Sort.ahead, Array.getElem?_modify, hb, onCells]
theorem grownBy_sortedF {w : World} {g n : Nat} {os : Array Obj} (F : Array Value) : w.grownBy (grow (putRow id (Sort.ahead w n) g 0 F) os) (some g) := by
  refine ⟨rfl, rfl, rfl, by simp, fun k hk hne => ?_⟩
  rw [heap_grow_old _ _ (by simpa using hk)]
  have : g ≠ k := fun e => hne (by rw [e])
  simp [putRow, mapBlock, Sort.ahead, Array.getElem?_modify, this]
theorem take_putCellsF (cur F : Array Value) (h : F.size ≤ cur.size) : (putCells id 0 F cur).toList.take F.size = F.toList := by
  apply List.ext_getElem?
  intro j
  by_cases hj : j < F.size
  · rw [List.getElem?_take_of_lt hj, Array.getElem?_toList]
    simp [putCells, hj, show j < cur.size by omega]
  · rw [List.getElem?_take_eq_none (by omega), List.getElem?_eq_none (by simp; omega)]
theorem sIsAgg (w : World) : (isAgg 31).run Try.prog w = .ok true w := by kernel_rfl
theorem sSizeOf (w : World) : (Go.sizeOf 31).run Try.prog w = .ok 2 w := by kernel_rfl
theorem flsort_ok (w : World) (base : Nat) (v : Value) (L : List FP) (hown : OwnF w base v L) (hlen : L.length ≤ 1000) (hbase : base ≤ w.heap.size) (once : L.Pairwise (fun a b => a.2 ≠ b.2)) : Calls Try.prog 33 #[v, .func (.func 34) #[] #[]] w fun e w' => e = .returned (.tuple #[]) ∧ (∃ D, OwnF w' base v D ∧ Fr.Rise D ∧ D.Perm L) ∧ Below base w w' := by
  rcases hown.2 with ⟨rfl, h0⟩ | ⟨g, cap, cur, rfl, hg0, hg, h1, h2, h3, ht⟩
  · have hS := AnyF.slices_SortFunc_none Try.sortF none 0 (.func (.func 34) #[] #[]) w
    refine Calls.mono hS ?_
    rintro _ _ ⟨rfl, rfl⟩
    obtain rfl := List.eq_nil_of_length_eq_zero h0
    exact ⟨rfl, ⟨[], hown, List.Pairwise.nil, List.Perm.refl _⟩, Below.refl _ _⟩
  · have hlt := (Array.getElem?_eq_some_iff.1 hg).1
    have hH : HoldsK fcells 2 w g 0 L.toArray := by
      intro j hj
      have hj' : j < L.length * 2 := by simpa using hj
      refine ⟨?_, by simp [World.frozen?, hg]⟩
      have e1 : (flatK fcells 2 L.toArray)[j]? = (fvs L)[j]? := by rw [← Fr.flat_fvs, Array.getElem?_toList]
      rw [getElem!_pos (flatK fcells 2 L.toArray) j hj]
      rw [Array.getElem?_eq_getElem hj, ← ht, List.getElem?_take_of_lt (by omega), Array.getElem?_toList] at e1
      rw [Nat.zero_add, cell_of_row w g j cur _ (0, 0) hg, ← e1]
      rfl
    have eg : ∀ args w, (callFunc 34 args).run Try.prog w = .ok (.enter 34 args) w := enters_of Try.func34 (by kernel_rfl) rfl
    have hS := AnyQ.slices_SortFunc Try.sortF 2 sIsAgg sSizeOf fcells (fun _ => rfl) (fun x u hu => by simp [fcells] at hu; rcases hu with rfl | rfl <;> rfl) Fr.cmpF Fr.swoF 34 #[] g 0 cap L.toArray w eg (fun m os dk _ x y => order_ok _ x y) hH hlt (by simp; omega)
    have hsz : L.toArray.size = L.length := by simp
    rw [hsz] at hS
    refine Calls.mono hS ?_
    rintro _ w' ⟨rfl, d', n, os, hp, hs, rfl⟩
    have hd : d'.size = L.length := by rw [hp.1, hsz]
    have hl : d'.toList.length = L.length := by rw [Array.length_toList, hd]
    have hperm : d'.toList.Perm L := by
      have := hp.2.2
      rw [Array.extract_eq_self_of_le (by omega), Array.extract_eq_self_of_le (by simp)] at this
      simpa using this
    have honce : d'.toList.Pairwise (fun a b => a.2 ≠ b.2) := (hperm.pairwise_iff (fun {_ _} h => fun e => h e.symm)).2 once
    have hF : (flatK fcells 2 d').toList = fvs d'.toList := by have := Fr.flat_fvs d'.toList; simpa using this
    have hFs : (flatK fcells 2 d').size = L.length * 2 := by rw [size_flatK, hd]
    refine ⟨rfl, ⟨d'.toList, ?_, ?_, hperm⟩, ((Below.refl base w).grown (grownBy_sortedF _) hbase (fun k hk => by injection hk with hk; subst hk; exact hg0))⟩
    · unfold OwnF
      rw [hl]
      refine ⟨by rw [fvs_length, hl, Nat.mul_comm], .inr ⟨g, cap, _, rfl, hg0, heap_sortedF _ hg, h1, h2, by simp [putCells, h3], ?_⟩⟩
      rw [← hFs, take_putCellsF cur _ (by rw [hFs, h3]; exact Nat.mul_le_mul_right 2 h1), hF]
    · unfold Fr.Rise
      rw [List.pairwise_iff_getElem]
      intro i j hi hj hij
      have hi' : i < d'.size := by rw [← Array.length_toList]; exact hi
      have hj' : j < d'.size := by rw [← Array.length_toList]; exact hj
      have := hs i j (Nat.zero_le _) hij (by omega)
      rw [Fr.ltOf_less, getElem!_pos d' i hi', getElem!_pos d' j hj'] at this
      have hne := List.pairwise_iff_getElem.1 honce i j hi hj hij
      simp only [Array.getElem_toList] at hne ⊢
      exact Fr.less_total (fun e => hne e.symm) this
end Go.Proofs.Ytjgndgcegenikaa
