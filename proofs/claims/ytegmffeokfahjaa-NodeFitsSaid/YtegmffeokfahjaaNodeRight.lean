/-
  Plain laws of no statement: when cells may be a node's, cell by cell. No conditions but those typed.
-/
import Derived.Test.YtegmffeokfahjaaNodeSeekP
namespace Go.Proofs.Ytegmffeokfahjaa
namespace Node
theorem rises_iff (l : List CV) : rises l = true ↔ ∀ k (h : k + 1 < l.length), cmpL (l[k]'(by omega)).key.data.toList l[k + 1].key.data.toList < 0 := by
  induction l with
  | nil => exact ⟨fun _ k h => by simp at h, fun _ => rfl⟩
  | cons a l ih =>
    cases l with
    | nil => exact ⟨fun _ k h => by simp at h, fun _ => rfl⟩
    | cons b l =>
      rw [rises, Bool.and_eq_true, decide_eq_true_eq, ih]
      constructor
      · rintro ⟨h1, h2⟩ k hk
        cases k with
        | zero => exact h1
        | succ k => exact h2 k (by simpa using hk)
      · intro h
        exact ⟨h 0 (by simp), fun k hk => h (k + 1) (by simpa using hk)⟩
/-- the cell at k is fine behind those before it -/
def FineAt (leaf : Bool) (l : List CV) (k : Nat) : Prop := ∀ (h : k < l.length), l[k].ok leaf = true ∧ ∀ (_ : 0 < k), cmpL (l[k - 1]'(by omega)).key.data.toList l[k].key.data.toList < 0
theorem right_by (leaf : Bool) (l : List CV) (h : ∀ k, k < l.length → FineAt leaf l k) : right leaf l = firstOk leaf l := by
  unfold right
  have h1 : l.all (CV.ok leaf) = true := by
    rw [List.all_eq_true]
    intro c hc
    obtain ⟨k, hk, rfl⟩ := List.getElem_of_mem hc
    exact (h k hk hk).1
  have h2 : rises l = true := by
    rw [rises_iff]
    intro k hk
    exact (h (k + 1) hk hk).2 (by omega)
  rw [h1, h2]
  rfl
theorem right_not (leaf : Bool) (l : List CV) (k : Nat) (hk : k < l.length) (h : ¬ FineAt leaf l k) : right leaf l = false := by
  rw [← Bool.not_eq_true]
  intro hr
  apply h
  unfold right at hr
  simp only [Bool.and_eq_true, List.all_eq_true] at hr
  obtain ⟨⟨h1, h2⟩, _⟩ := hr
  intro _
  refine ⟨h1 _ (List.getElem_mem hk), fun h0 => ?_⟩
  obtain ⟨j, rfl⟩ : ∃ j, k = j + 1 := ⟨k - 1, by omega⟩
  exact (rises_iff l).1 h2 j hk
theorem right_first (leaf : Bool) (l : List CV) (h : firstOk leaf l = false) : right leaf l = false := by
  unfold right
  rw [h, Bool.and_false]
theorem firstOk_leaf (l : List CV) : firstOk true l = true := rfl
theorem firstOk_at (l : List CV) (h : 0 < l.length) : firstOk false l = decide (l[0].key.size = 0) := by
  cases l with
  | nil => simp at h
  | cons c l => rfl
theorem firstOk_nil : firstOk false [] = false := rfl
end Node
end Go.Proofs.Ytegmffeokfahjaa
