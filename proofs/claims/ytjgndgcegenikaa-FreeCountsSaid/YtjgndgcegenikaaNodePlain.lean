/-
  Plain laws of no statement: where cells are cut (chapter 6): the greater part is as little as can be; what fits in a page, and one more, is cut into two parts that fit. No conditions but those typed.
-/
namespace Go.Proofs.Ytjgndgcegenikaa
namespace Node
/-- the greater part's bytes, of cells of these sizes (with their places) that are cut at i -/
def part (zs : List Nat) (i : Nat) : Nat := max (2 + (zs.take i).sum) (2 + (zs.drop i).sum)
/-- the best of the places 1 to k, the first of several; 0: there is none -/
def best (zs : List Nat) : Nat → Nat
  | 0 => 0
  | k + 1 => if best zs k = 0 ∨ part zs (k + 1) < part zs (best zs k) then k + 1 else best zs k
def halve (zs : List Nat) : Nat := best zs (zs.length - 1)
theorem best_in (zs : List Nat) : ∀ k, 1 ≤ k → 1 ≤ best zs k ∧ best zs k ≤ k ∧ ∀ i, 1 ≤ i → i ≤ k → part zs (best zs k) ≤ part zs i
  | 0, h => by omega
  | 1, _ => by
    have e : best zs 1 = 1 := by simp [best]
    rw [e]
    refine ⟨by omega, by omega, fun i h1 h2 => ?_⟩
    have : i = 1 := by omega
    rw [this]
    exact Nat.le_refl _
  | k + 2, _ => by
    obtain ⟨h1, h2, h3⟩ := best_in zs (k + 1) (by omega)
    rw [best]
    split
    · rename_i h
      refine ⟨by omega, by omega, fun i a b => ?_⟩
      rcases h with h | h
      · omega
      · by_cases hi : i = k + 2
        · rw [hi]; exact Nat.le_refl _
        · exact Nat.le_of_lt (Nat.lt_of_lt_of_le h (h3 i a (by omega)))
    · rename_i h
      refine ⟨h1, by omega, fun i a b => ?_⟩
      by_cases hi : i = k + 2
      · rw [hi]
        have : ¬ part zs (k + 1 + 1) < part zs (best zs (k + 1)) := fun x => h (.inr x)
        exact Nat.le_of_not_lt this
      · exact h3 i a (by omega)
theorem sum_split (zs : List Nat) (i : Nat) : (zs.take i).sum + (zs.drop i).sum = zs.sum := by
  rw [← List.sum_append, List.take_append_drop]
theorem sum_take_succ (zs : List Nat) (i : Nat) (h : i < zs.length) : (zs.take (i + 1)).sum = (zs.take i).sum + zs[i] := by
  rw [List.take_succ_eq_append_getElem h, List.sum_append]
  simp
/-- a place at which both parts fit -/
theorem some_cut (zs : List Nat) (m c : Nat) (hm : ∀ z ∈ zs, z ≤ m) (hn : 2 ≤ zs.length) (h1 : m ≤ c) (h2 : zs.sum ≤ 2 * c - m) : ∃ i, 1 ≤ i ∧ i < zs.length ∧ (zs.take i).sum ≤ c ∧ (zs.drop i).sum ≤ c := by
  have key : ∀ k, 1 ≤ k → k ≤ zs.length → (∃ i, 1 ≤ i ∧ i < zs.length ∧ (zs.take i).sum ≤ c ∧ (zs.drop i).sum ≤ c) ∨ (zs.take k).sum ≤ c := by
    intro k hk
    induction k with
    | zero => omega
    | succ k ih =>
      intro hl
      by_cases hk0 : k = 0
      · subst hk0
        right
        rw [sum_take_succ _ _ (by omega)]
        have := hm zs[0] (List.getElem_mem (by omega))
        simp
        omega
      · rcases ih (by omega) (by omega) with h | h
        · exact .inl h
        · by_cases h' : (zs.take (k + 1)).sum ≤ c
          · exact .inr h'
          · left
            refine ⟨k, by omega, by omega, h, ?_⟩
            have e1 := sum_take_succ zs k (by omega)
            have e2 := sum_split zs k
            have e3 := hm zs[k] (List.getElem_mem (by omega))
            omega
  rcases key zs.length (by omega) (Nat.le_refl _) with h | h
  · exact h
  · rw [List.take_length] at h
    refine ⟨1, by omega, by omega, ?_, ?_⟩
    · have := sum_split zs 1; omega
    · have := sum_split zs 1; omega
/-- what fits in c, and one more, is halved into two parts that fit -/
theorem halve_fits (zs : List Nat) (m c : Nat) (hm : ∀ z ∈ zs, z ≤ m) (hn : 2 ≤ zs.length) (h1 : m ≤ c) (h2 : zs.sum ≤ 2 * c - m) :
    1 ≤ halve zs ∧ halve zs < zs.length ∧ 2 + (zs.take (halve zs)).sum ≤ 2 + c ∧ 2 + (zs.drop (halve zs)).sum ≤ 2 + c := by
  obtain ⟨b1, b2, b3⟩ := best_in zs (zs.length - 1) (by omega)
  obtain ⟨i, i1, i2, i3, i4⟩ := some_cut zs m c hm hn h1 h2
  have h := b3 i i1 (by omega)
  have e : part zs i ≤ 2 + c := by unfold part; omega
  have f : part zs (best zs (zs.length - 1)) ≤ 2 + c := Nat.le_trans h e
  unfold part at f
  exact ⟨b1, by unfold halve; omega, by unfold halve; omega, by unfold halve; omega⟩
end Node
end Go.Proofs.Ytjgndgcegenikaa
