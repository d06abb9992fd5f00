/-
  Plain definitions and laws of no statement: where a key is found among cells (P6.2). No conditions but those typed.
-/
import Derived.Test.YtegmffeokfahjaaNodeFitsP
namespace Go.Proofs.Ytegmffeokfahjaa
theorem cmpL_self (a : List UInt8) : cmpL a a = 0 := by
  induction a with
  | nil => rfl
  | cons x a ih =>
    have h : ¬ x < x := by rw [UInt8.lt_iff_toNat_lt]; omega
    simp only [cmpL, if_neg h]
    exact ih
theorem cmpL_eq {a b : List UInt8} (h : cmpL a b = 0) : a = b := by
  induction a generalizing b with
  | nil =>
    cases b with
    | nil => rfl
    | cons y b => simp [cmpL] at h
  | cons x a ih =>
    cases b with
    | nil => simp [cmpL] at h
    | cons y b =>
      simp only [cmpL] at h
      split at h
      · omega
      · split at h
        · omega
        · rename_i h1 h2
          have e : x = y := by
            rw [UInt8.lt_iff_toNat_lt] at h1 h2
            apply UInt8.toNat_inj.1
            omega
          rw [e, ih h]
theorem cmpL_swap (a b : List UInt8) : cmpL b a = - cmpL a b := by
  induction a generalizing b with
  | nil => cases b <;> simp [cmpL]
  | cons x a ih =>
    cases b with
    | nil => simp [cmpL]
    | cons y b =>
      simp only [cmpL]
      by_cases h1 : x < y
      · have h2 : ¬ y < x := by rw [UInt8.lt_iff_toNat_lt] at h1 ⊢; omega
        rw [if_pos h1, if_neg h2, if_pos h1]
        rfl
      · by_cases h2 : y < x
        · rw [if_pos h2, if_neg h1, if_pos h2]
        · rw [if_neg h2, if_neg h1, if_neg h1, if_neg h2, ih]
theorem cmpL_trans {a b c : List UInt8} (h1 : cmpL a b < 0) (h2 : cmpL b c ≤ 0) : cmpL a c < 0 := by
  induction a generalizing b c with
  | nil =>
    cases b with
    | nil => simp [cmpL] at h1
    | cons y b =>
      cases c with
      | nil => simp [cmpL] at h2
      | cons z c => simp [cmpL]
  | cons x a ih =>
    cases b with
    | nil => simp [cmpL] at h1
    | cons y b =>
      cases c with
      | nil => simp [cmpL] at h2
      | cons z c =>
        simp only [cmpL] at h1 h2 ⊢
        simp only [UInt8.lt_iff_toNat_lt] at h1 h2 ⊢
        by_cases a1 : x.toNat < y.toNat
        · by_cases a2 : y.toNat < z.toNat
          · rw [if_pos (by omega)]; omega
          · rw [if_neg a2] at h2
            by_cases a3 : z.toNat < y.toNat
            · rw [if_pos a3] at h2; omega
            · rw [if_pos (by omega)]; omega
        · rw [if_neg a1] at h1
          by_cases a4 : y.toNat < x.toNat
          · rw [if_pos a4] at h1; omega
          · rw [if_neg a4] at h1
            by_cases a2 : y.toNat < z.toNat
            · rw [if_pos (by omega)]; omega
            · rw [if_neg a2] at h2
              by_cases a3 : z.toNat < y.toNat
              · rw [if_pos a3] at h2; omega
              · rw [if_neg a3] at h2
                rw [if_neg (by omega), if_neg (by omega)]
                exact ih h1 h2
namespace Node
def cmpK (c : CV) (key : ByteArray) : Int := cmpL c.key.data.toList key.data.toList
/-- the place of the first cell from k on whose key is not less -/
def seekGo (key : ByteArray) : List CV → Nat → Nat
  | [], k => k
  | c :: l, k => if 0 ≤ cmpK c key then k else seekGo key l (k + 1)
def seekAt (key : ByteArray) (l : List CV) : Nat := seekGo key l 0
theorem seekGo_shift (key : ByteArray) (l : List CV) : ∀ k, seekGo key l k = k + seekGo key l 0 := by
  induction l with
  | nil => intro k; rfl
  | cons c l ih =>
    intro k
    rw [seekGo, seekGo]
    split
    · omega
    · rw [ih (k + 1), ih 1]; omega
theorem seekAt_cons (key : ByteArray) (c : CV) (l : List CV) : seekAt key (c :: l) = if 0 ≤ cmpK c key then 0 else 1 + seekAt key l := by
  unfold seekAt
  rw [seekGo, seekGo_shift key l (0 + 1)]
theorem seekAt_le (key : ByteArray) (l : List CV) : seekAt key l ≤ l.length := by
  induction l with
  | nil => exact Nat.le_refl _
  | cons c l ih => rw [seekAt_cons, List.length_cons]; split <;> omega
theorem before (key : ByteArray) (l : List CV) : ∀ i (h : i < l.length), i < seekAt key l → cmpK l[i] key < 0 := by
  induction l with
  | nil => intro i h; simp at h
  | cons c l ih =>
    intro i h hs
    rw [seekAt_cons] at hs
    split at hs
    · omega
    · rename_i hc
      cases i with
      | zero => exact Int.not_le.1 hc
      | succ i => exact ih i (by simpa using h) (by omega)
theorem at_place (key : ByteArray) (l : List CV) (h : seekAt key l < l.length) : 0 ≤ cmpK l[seekAt key l] key := by
  induction l with
  | nil => simp at h
  | cons c l ih =>
    by_cases hc : 0 ≤ cmpK c key
    · have e : seekAt key (c :: l) = 0 := by rw [seekAt_cons, if_pos hc]
      simp only [e, List.getElem_cons_zero]
      exact hc
    · have e : seekAt key (c :: l) = seekAt key l + 1 := by rw [seekAt_cons, if_neg hc]; omega
      simp only [e, List.getElem_cons_succ]
      exact ih (by rw [e, List.length_cons] at h; omega)
theorem rises_tail {c : CV} {l : List CV} (h : rises (c :: l) = true) : rises l = true := by
  cases l with
  | nil => rfl
  | cons d l =>
    rw [rises, Bool.and_eq_true] at h
    exact h.2
theorem rises_head {c : CV} {l : List CV} (h : rises (c :: l) = true) : ∀ x ∈ l, cmpL c.key.data.toList x.key.data.toList < 0 := by
  induction l generalizing c with
  | nil => intro x hx; cases hx
  | cons d l ih =>
    intro x hx
    rw [rises, Bool.and_eq_true, decide_eq_true_eq] at h
    rcases List.mem_cons.1 hx with rfl | hx
    · exact h.1
    · exact cmpL_trans h.1 (Int.le_of_lt (ih h.2 x hx))
theorem rises_lt {l : List CV} (h : rises l = true) : ∀ i k (hk : k < l.length) (hik : i < k), cmpL (l[i]'(by omega)).key.data.toList l[k].key.data.toList < 0 := by
  induction l with
  | nil => intro i k hk; simp at hk
  | cons c l ih =>
    intro i k hk hik
    cases k with
    | zero => omega
    | succ k =>
      cases i with
      | zero => exact rises_head h _ (List.getElem_mem (by simpa using hk))
      | succ i => exact ih (rises_tail h) i k (by simpa using hk) (by omega)
/-- behind the place that is found all keys are greater -/
theorem behind (key : ByteArray) (l : List CV) (h : rises l = true) (i : Nat) (hi : i < l.length) (hs : seekAt key l < i) : 0 < cmpK l[i] key := by
  have h1 := at_place key l (by omega)
  have h2 := rises_lt h (seekAt key l) i hi hs
  unfold cmpK at h1 ⊢
  rw [cmpL_swap] at h2
  have h3 : cmpL key.data.toList (l[seekAt key l]'(by omega)).key.data.toList ≤ 0 := by rw [cmpL_swap]; omega
  have h4 : cmpL (l[seekAt key l]'(by omega)).key.data.toList l[i].key.data.toList < 0 := by rw [cmpL_swap]; omega
  have h5 : cmpL key.data.toList l[i].key.data.toList < 0 := by
    by_cases hz : cmpL key.data.toList (l[seekAt key l]'(by omega)).key.data.toList = 0
    · rw [cmpL_eq hz]; exact h4
    · exact cmpL_trans (by omega) (Int.le_of_lt h4)
  rw [cmpL_swap]
  omega
end Node
end Go.Proofs.Ytegmffeokfahjaa
