/-
  Plain laws of no statement: any bytes are one list's, or none's. No conditions but those typed.
-/
import Derived.Test.YtegmffeokfahjaaRNodeJ
namespace Go.Proofs.Ytegmffeokfahjaa
namespace Node
/-- bytes are read as the one list whose bytes they are -/
theorem dec_iff (leaf : Bool) (s : ByteArray) (l : List CV) : dec leaf s = some l ↔ fits leaf l = true ∧ encS leaf l = s := by
  constructor
  · intro h
    refine ⟨dec_fits h, ?_⟩
    unfold dec at h
    split at h
    · split at h
      · cases h
      · split at h
        · rename_i hh
          injection h with h
          rw [← h]
          exact hh.2
        · cases h
    · cases h
  · rintro ⟨h1, h2⟩
    rw [← h2]
    exact dec_enc leaf l h1
theorem dec_none_iff (leaf : Bool) (s : ByteArray) : dec leaf s = none ↔ ∀ l, fits leaf l = true → encS leaf l ≠ s := by
  constructor
  · intro h l hf he
    have := (dec_iff leaf s l).2 ⟨hf, he⟩
    rw [h] at this
    cases this
  · intro h
    cases hd : dec leaf s with
    | none => rfl
    | some l =>
      obtain ⟨h1, h2⟩ := (dec_iff leaf s l).1 hd
      exact absurd h2 (h l h1)
/-- what is read of bytes that are none's -/
theorem dec_by (leaf : Bool) (s : ByteArray) (l : List CV) (h : ∀ m, fits leaf m = true → encS leaf m = s → m = l) : dec leaf s = if fits leaf l = true ∧ encS leaf l = s then some l else none := by
  by_cases hh : fits leaf l = true ∧ encS leaf l = s
  · rw [if_pos hh]
    exact (dec_iff leaf s l).2 hh
  · rw [if_neg hh, dec_none_iff]
    intro m hm he
    apply hh
    have := h m hm he
    subst this
    exact ⟨hm, he⟩
end Node
end Go.Proofs.Ytegmffeokfahjaa
