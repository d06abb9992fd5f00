/-
  Plain laws of no statement: cells that fit in a page, and one more, are halved into two parts that fit; any beginning of what fits does (P6.4). No conditions but those typed.
-/
import Derived.Test.YtegmffeokfahjaaNodeVal
namespace Go.Proofs.Ytegmffeokfahjaa
namespace Node
def szs (leaf : Bool) (l : List CV) : List Nat := l.map fun c => 2 + long leaf c.cl
def halveV (leaf : Bool) (l : List CV) : Nat := halve (szs leaf l)
theorem countV_sum (leaf : Bool) (l : List CV) : countV leaf l = 2 + (szs leaf l).sum := by
  unfold countV count szs
  rw [List.map_map]
  rfl
theorem long_le {leaf : Bool} {c : CV} (h : c.ok leaf = true) : 2 + long leaf c.cl ≤ 223 := by
  have hk := CV.cl_ok h
  unfold CellOk at hk
  unfold long
  cases leaf with
  | false => simp only [Bool.false_eq_true, if_false] at hk ⊢; omega
  | true =>
    simp only [if_true] at hk ⊢
    split
    · omega
    · rcases hk.2.2.2 with h | h
      · omega
      · omega
theorem sum_take_le (zs : List Nat) (k : Nat) : (zs.take k).sum ≤ zs.sum := by
  have := sum_split zs k
  omega
theorem count_take_le (leaf : Bool) (l : List CV) (k : Nat) : countV leaf (l.take k) ≤ countV leaf l := by
  rw [countV_sum, countV_sum]
  have e : szs leaf (l.take k) = (szs leaf l).take k := by unfold szs; rw [List.map_take]
  rw [e]
  have := sum_take_le (szs leaf l) k
  omega
theorem one_more (leaf : Bool) (l : List CV) (k : Nat) (c : CV) (hf : fits leaf l = true) (hc : c.ok leaf = true) (h2 : 2 ≤ l.length) (hk : k ≤ l.length) :
    let all := l.take k ++ c :: l.drop k
    1 ≤ halveV leaf all ∧ halveV leaf all < all.length ∧ countV leaf (all.take (halveV leaf all)) ≤ 488 ∧ countV leaf (all.drop (halveV leaf all)) ≤ 488 := by
  intro all
  unfold fits at hf
  simp only [Bool.and_eq_true, decide_eq_true_eq] at hf
  have hr := right_all hf.1
  have hall : ∀ x ∈ all, x.ok leaf = true := by
    intro x hx
    rcases List.mem_append.1 hx with h | h
    · exact hr x (List.mem_of_mem_take h)
    · rcases List.mem_cons.1 h with rfl | h
      · exact hc
      · exact hr x (List.mem_of_mem_drop h)
  have hm : ∀ z ∈ szs leaf all, z ≤ 223 := by
    intro z hz
    unfold szs at hz
    rw [List.mem_map] at hz
    obtain ⟨x, hx, rfl⟩ := hz
    exact long_le (hall x hx)
  have hlen : (szs leaf all).length = all.length := by unfold szs; rw [List.length_map]
  have hal : all.length = l.length + 1 := by
    show (l.take k ++ c :: l.drop k).length = _
    rw [List.length_append, List.length_cons, List.length_take, List.length_drop]
    omega
  have hsum : (szs leaf all).sum = (szs leaf l).sum + (2 + long leaf c.cl) := by
    show (szs leaf (l.take k ++ c :: l.drop k)).sum = _
    have e1 : (szs leaf l).sum = (szs leaf (l.take k)).sum + (szs leaf (l.drop k)).sum := by
      rw [← List.sum_append]
      unfold szs
      rw [← List.map_append, List.take_append_drop]
    rw [e1]
    unfold szs
    rw [List.map_append, List.sum_append, List.map_cons, List.sum_cons]
    omega
  have hc2 := hf.2
  rw [countV_sum] at hc2
  have hcl := long_le hc
  obtain ⟨a, b, d, e⟩ := halve_fits (szs leaf all) 223 486 hm (by omega) (by omega) (by omega)
  have t1 : szs leaf (all.take (halveV leaf all)) = (szs leaf all).take (halveV leaf all) := by unfold szs; rw [List.map_take]
  have t2 : szs leaf (all.drop (halveV leaf all)) = (szs leaf all).drop (halveV leaf all) := by unfold szs; rw [List.map_drop]
  refine ⟨a, by unfold halveV; omega, ?_, ?_⟩
  · rw [countV_sum, t1]; exact d
  · rw [countV_sum, t2]; exact e
end Node
end Go.Proofs.Ytegmffeokfahjaa
