/-
  Plain definitions and laws of no statement: free pages (chapter 8), as a list in the order in which they came. No conditions but those typed.
-/
import Derived.Test.YtjgndgcegenikaaOwn
namespace Go.Proofs.Ytjgndgcegenikaa
open Go.RowKit
/-- a free page: its transaction and its number -/
abbrev FP := Int × Int
namespace Fr
def right (f : FP) : Bool := decide (0 ≤ f.1) && decide (f.1 ≤ 1099511627776) && decide (1 ≤ f.2) && decide (f.2 ≤ 511)
theorem right_iff (f : FP) : right f = true ↔ 0 ≤ f.1 ∧ f.1 ≤ 1099511627776 ∧ 1 ≤ f.2 ∧ f.2 ≤ 511 := by
  unfold right
  simp only [Bool.and_eq_true, decide_eq_true_eq]
  omega
def less (a b : FP) : Bool := decide (a.1 < b.1) || (decide (a.1 = b.1) && decide (a.2 < b.2))
theorem less_iff (a b : FP) : less a b = true ↔ a.1 < b.1 ∨ (a.1 = b.1 ∧ a.2 < b.2) := by unfold less; simp
/-- a list as may be: each page once -/
structure Ok (l : List FP) : Prop where
  right : ∀ f ∈ l, right f = true
  once : l.Pairwise (fun a b => a.2 ≠ b.2)
theorem Ok.nil : Ok [] := ⟨(fun f h => by cases h), List.Pairwise.nil⟩
def has (l : List FP) (p : Int) : Bool := l.any (fun f => decide (f.2 = p))
theorem has_iff (l : List FP) (p : Int) : has l p = true ↔ ∃ f ∈ l, f.2 = p := by unfold has; simp
theorem has_not (l : List FP) (p : Int) : has l p = false ↔ ∀ f ∈ l, f.2 ≠ p := by
  rw [← Bool.not_eq_true, has_iff]
  exact ⟨fun h f hf e => h ⟨f, hf, e⟩, fun h ⟨f, hf, e⟩ => h f hf e⟩
theorem Ok.same {l : List FP} (h : Ok l) {a b : FP} (ha : a ∈ l) (hb : b ∈ l) (e : a.2 = b.2) : a = b := by
  obtain ⟨i, hi, rfl⟩ := List.getElem_of_mem ha
  obtain ⟨j, hj, rfl⟩ := List.getElem_of_mem hb
  have hp := List.pairwise_iff_getElem.1 h.once
  rcases Nat.lt_trichotomy i j with hij | hij | hij
  · exact absurd e (hp i j hi hj hij)
  · subst hij; rfl
  · exact absurd e.symm (hp j i hj hi hij)
def adds (l : List FP) (f : FP) : Bool := right f && !has l f.2
def addL (l : List FP) (f : FP) : List FP := if adds l f then l ++ [f] else l
def addE (l : List FP) (f : FP) : Int := if right f then (if has l f.2 then 8 else 0) else 1
theorem addL_ok {l : List FP} (h : Ok l) (f : FP) : Ok (addL l f) := by
  unfold addL
  split
  · rename_i ha
    unfold adds at ha
    simp only [Bool.and_eq_true, Bool.not_eq_true'] at ha
    obtain ⟨h1, h2⟩ := ha
    rw [has_not] at h2
    refine ⟨fun g hg => ?_, ?_⟩
    · rcases List.mem_append.1 hg with hg | hg
      · exact h.right g hg
      · rw [List.mem_singleton] at hg; subst hg; exact h1
    · rw [List.pairwise_append]
      refine ⟨h.once, List.pairwise_singleton _ _, fun a ha b hb => ?_⟩
      rw [List.mem_singleton] at hb
      subst hb
      exact h2 a ha
  · exact h
/-- the better one of what was found and the next one -/
def better (u : Int) (o : Option FP) (f : FP) : Option FP :=
  if f.1 ≤ u then (match o with
    | none => some f
    | some g => if less f g then some f else some g) else o
def least (l : List FP) (u : Int) : Option FP := l.foldl (better u) none
def takeL (l : List FP) (u : Int) : List FP := match least l u with
  | none => l
  | some f => l.filter (fun g => decide (g.2 ≠ f.2))
def takeP (l : List FP) (u : Int) : Int := match least l u with
  | none => 0
  | some f => f.2
def takeB (l : List FP) (u : Int) : Bool := (least l u).isSome
theorem least_take (l : List FP) (u : Int) (k : Nat) (h : k < l.length) : least (l.take (k + 1)) u = better u (least (l.take k) u) l[k] := by
  unfold least
  rw [List.take_succ_eq_append_getElem h, List.foldl_append]
  rfl
theorem fold_some (u : Int) (l : List FP) : ∀ (o : Option FP) (f : FP), l.foldl (better u) o = some f → (o = some f ∨ f ∈ l ∧ f.1 ≤ u) ∧ (∀ g, (o = some g ∨ g ∈ l ∧ g.1 ≤ u) → less g f = false) := by
  have irr : ∀ a : FP, less a a = false := fun a => by rw [← Bool.not_eq_true, less_iff]; omega
  have trans : ∀ a b c : FP, less a b = false → less b c = false → less a c = false := fun a b c h1 h2 => by
    rw [← Bool.not_eq_true, less_iff] at h1 h2 ⊢
    omega
  induction l with
  | nil =>
    intro o f h
    simp only [List.foldl_nil] at h
    refine ⟨.inl h, fun g hg => ?_⟩
    rcases hg with hg | ⟨hg, _⟩
    · rw [h] at hg; injection hg with hg; subst hg; exact irr f
    · cases hg
  | cons x l ih =>
    intro o f h
    rw [List.foldl_cons] at h
    obtain ⟨h1, h2⟩ := ih _ f h
    have key : ∀ g, (o = some g ∨ (g = x ∧ g.1 ≤ u)) → ∃ b, better u o x = some b ∧ less g b = false := by
      intro g hg
      unfold better
      by_cases hx : x.1 ≤ u
      · rw [if_pos hx]
        cases o with
        | none =>
          rcases hg with hg | ⟨rfl, _⟩
          · cases hg
          · exact ⟨g, rfl, irr g⟩
        | some b =>
          simp only
          by_cases hl : less x b = true
          · rw [if_pos hl]
            refine ⟨x, rfl, ?_⟩
            rcases hg with hg | ⟨rfl, _⟩
            · injection hg with hg
              subst hg
              rw [less_iff] at hl
              rw [← Bool.not_eq_true, less_iff]
              omega
            · exact irr g
          · rw [if_neg hl]
            refine ⟨b, rfl, ?_⟩
            rcases hg with hg | ⟨rfl, _⟩
            · injection hg with hg
              subst hg
              exact irr b
            · simpa using hl
      · rw [if_neg hx]
        rcases hg with hg | ⟨rfl, hgu⟩
        · exact ⟨g, hg, irr g⟩
        · exact absurd hgu hx
    constructor
    · rcases h1 with h1 | ⟨h1, h3⟩
      · unfold better at h1
        by_cases hx : x.1 ≤ u
        · rw [if_pos hx] at h1
          cases o with
          | none => injection h1 with h1; subst h1; exact .inr ⟨List.mem_cons_self .., hx⟩
          | some b =>
            simp only at h1
            split at h1
            · injection h1 with h1; subst h1; exact .inr ⟨List.mem_cons_self .., hx⟩
            · exact .inl h1
        · rw [if_neg hx] at h1; exact .inl h1
      · exact .inr ⟨List.mem_cons_of_mem _ h1, h3⟩
    · intro g hg
      have : (o = some g ∨ (g = x ∧ g.1 ≤ u)) ∨ (g ∈ l ∧ g.1 ≤ u) := by
        rcases hg with hg | ⟨hg, hgu⟩
        · exact .inl (.inl hg)
        · rcases List.mem_cons.1 hg with rfl | hg
          · exact .inl (.inr ⟨rfl, hgu⟩)
          · exact .inr ⟨hg, hgu⟩
      rcases this with hg | hg
      · obtain ⟨b, hb, hgb⟩ := key g hg
        exact trans g b f hgb (h2 b (.inl hb))
      · exact h2 g (.inr hg)
theorem fold_none (u : Int) (l : List FP) : ∀ (o : Option FP), l.foldl (better u) o = none → o = none ∧ ∀ f ∈ l, ¬ f.1 ≤ u := by
  induction l with
  | nil => intro o h; exact ⟨h, fun f hf => by cases hf⟩
  | cons x l ih =>
    intro o h
    rw [List.foldl_cons] at h
    obtain ⟨h1, h2⟩ := ih _ h
    unfold better at h1
    by_cases hx : x.1 ≤ u
    · rw [if_pos hx] at h1
      cases o with
      | none => cases h1
      | some b => simp only at h1; split at h1 <;> cases h1
    · rw [if_neg hx] at h1
      refine ⟨h1, fun f hf => ?_⟩
      rcases List.mem_cons.1 hf with rfl | hf
      · exact hx
      · exact h2 f hf
/-- the least of those that may be taken -/
theorem least_some {l : List FP} {u : Int} {f : FP} (h : least l u = some f) : f ∈ l ∧ f.1 ≤ u ∧ ∀ g ∈ l, g.1 ≤ u → less g f = false := by
  obtain ⟨h1, h2⟩ := fold_some u l none f h
  rcases h1 with h1 | ⟨h1, h3⟩
  · cases h1
  · exact ⟨h1, h3, fun g hg hgu => h2 g (.inr ⟨hg, hgu⟩)⟩
theorem least_none {l : List FP} {u : Int} (h : least l u = none) : ∀ f ∈ l, ¬ f.1 ≤ u := (fold_none u l none h).2
/-- what is the least, told by what it is -/
theorem least_is {l : List FP} (hl : Ok l) {u : Int} {f : FP} (h1 : f ∈ l) (h2 : f.1 ≤ u) (h3 : ∀ g ∈ l, g.1 ≤ u → less g f = false) : least l u = some f := by
  cases h : least l u with
  | none => exact absurd h2 (least_none h f h1)
  | some g =>
    obtain ⟨g1, g2, g3⟩ := least_some h
    have a := h3 g g1 g2
    have b := g3 f h1 h2
    rw [← Bool.not_eq_true, less_iff] at a b
    rw [hl.same g1 h1 (by omega)]
theorem least_is_none {l : List FP} {u : Int} (h : ∀ f ∈ l, ¬ f.1 ≤ u) : least l u = none := by
  cases hh : least l u with
  | none => rfl
  | some g =>
    obtain ⟨g1, g2, _⟩ := least_some hh
    exact absurd g2 (h g g1)
theorem takeL_ok {l : List FP} (h : Ok l) (u : Int) : Ok (takeL l u) := by
  unfold takeL
  split
  · exact h
  · exact ⟨fun f hf => h.right f (List.mem_filter.1 hf).1, h.once.sublist (List.filter_sublist)⟩
/-- a list taken out one -/
theorem erase_filter {l : List FP} (h : Ok l) (k : Nat) (hk : k < l.length) : l.filter (fun g => decide (g.2 ≠ (l[k]).2)) = l.eraseIdx k := by
  induction l generalizing k with
  | nil => simp at hk
  | cons x l ih =>
    have hp := List.pairwise_cons.1 h.once
    have hl : Ok l := ⟨fun f hf => h.right f (List.mem_cons_of_mem _ hf), hp.2⟩
    cases k with
    | zero =>
      rw [List.eraseIdx_cons_zero, List.getElem_cons_zero, List.filter_cons, if_neg (by simp), List.filter_eq_self]
      intro a ha
      have := hp.1 a ha
      simp only [ne_eq, decide_eq_true_eq]
      exact fun e => this e.symm
    | succ k =>
      have hk' : k < l.length := by simpa using hk
      rw [List.eraseIdx_cons_succ, List.getElem_cons_succ, List.filter_cons, if_pos (by
        simp only [ne_eq, decide_eq_true_eq]
        exact hp.1 _ (List.getElem_mem hk')), ih hl k hk']
/-- in order, each once -/
def Rise (l : List FP) : Prop := l.Pairwise (fun a b => less a b = true)
/-- one more at its place -/
def insertF (f : FP) : List FP → List FP
  | [] => [f]
  | g :: l => if less g f then g :: insertF f l else f :: g :: l
def sorted (l : List FP) : List FP := l.foldl (fun out f => insertF f out) []
theorem insert_mem (f g : FP) (l : List FP) : g ∈ insertF f l ↔ g = f ∨ g ∈ l := by
  induction l with
  | nil => simp [insertF]
  | cons x l ih =>
    unfold insertF
    split
    · rw [List.mem_cons, ih, List.mem_cons]
      constructor
      · rintro (h | h | h)
        · exact .inr (.inl h)
        · exact .inl h
        · exact .inr (.inr h)
      · rintro (h | h | h)
        · exact .inr (.inl h)
        · exact .inl h
        · exact .inr (.inr h)
    · rw [List.mem_cons, List.mem_cons]
theorem insert_length (f : FP) (l : List FP) : (insertF f l).length = l.length + 1 := by
  induction l with
  | nil => rfl
  | cons x l ih =>
    unfold insertF
    split
    · rw [List.length_cons, ih, List.length_cons]
    · rfl
theorem less_total {a b : FP} (h : a.2 ≠ b.2) (hn : less a b = false) : less b a = true := by
  rw [← Bool.not_eq_true, less_iff] at hn
  rw [less_iff]
  omega
theorem less_trans {a b c : FP} (h1 : less a b = true) (h2 : less b c = true) : less a c = true := by
  rw [less_iff] at h1 h2 ⊢
  omega
theorem insert_rise {f : FP} {l : List FP} (h : Rise l) (hn : ∀ g ∈ l, g.2 ≠ f.2) : Rise (insertF f l) := by
  induction l with
  | nil => exact List.pairwise_singleton _ _
  | cons x l ih =>
    obtain ⟨h1, h2⟩ := List.pairwise_cons.1 h
    unfold insertF
    split
    · rename_i hx
      refine List.pairwise_cons.2 ⟨fun g hg => ?_, ih h2 (fun g hg => hn g (List.mem_cons_of_mem _ hg))⟩
      rcases (insert_mem f g l).1 hg with rfl | hg
      · exact hx
      · exact h1 g hg
    · rename_i hx
      have hfx := less_total (hn x (List.mem_cons_self ..)) (by simpa using hx)
      refine List.pairwise_cons.2 ⟨fun g hg => ?_, h⟩
      rcases List.mem_cons.1 hg with rfl | hg
      · exact hfx
      · exact less_trans hfx (h1 g hg)
theorem sorted_snoc (l : List FP) (f : FP) : sorted (l ++ [f]) = insertF f (sorted l) := by
  unfold sorted
  rw [List.foldl_append]
  rfl
theorem sorted_spec (l : List FP) (h : Ok l) : Rise (sorted l) ∧ (∀ g, g ∈ sorted l ↔ g ∈ l) ∧ (sorted l).length = l.length := by
  have gen : ∀ k, k ≤ l.length → Rise (sorted (l.take k)) ∧ (∀ g, g ∈ sorted (l.take k) ↔ g ∈ l.take k) ∧ (sorted (l.take k)).length = k := by
    intro k
    induction k with
    | zero => intro _; rw [List.take_zero]; exact ⟨List.Pairwise.nil, fun g => by simp [sorted], rfl⟩
    | succ k ih =>
      intro hk
      obtain ⟨h1, h2, h3⟩ := ih (by omega)
      have e := List.take_succ_eq_append_getElem (l := l) (i := k) (by omega)
      rw [e, sorted_snoc]
      refine ⟨insert_rise h1 (fun g hg => ?_), fun g => ?_, by rw [insert_length, h3]⟩
      · have hg := (h2 g).1 hg
        obtain ⟨i, hi, rfl⟩ := List.getElem_of_mem hg
        rw [List.length_take] at hi
        rw [List.getElem_take]
        exact List.pairwise_iff_getElem.1 h.once i k (by omega) (by omega) (by omega)
      · rw [insert_mem, h2, List.mem_append, List.mem_singleton]
        exact Or.comm
  have := gen l.length (Nat.le_refl _)
  rw [List.take_length] at this
  exact this
/-- of the same free pages there is one list in order -/
theorem rise_one (a b : List FP) (ha : Rise a) (hb : Rise b) (h : ∀ g, g ∈ a ↔ g ∈ b) : a = b := by
  induction a generalizing b with
  | nil =>
    cases b with
    | nil => rfl
    | cons y b => exact absurd ((h y).2 (List.mem_cons_self ..)) (by simp)
  | cons x a ih =>
    cases b with
    | nil => exact absurd ((h x).1 (List.mem_cons_self ..)) (by simp)
    | cons y b =>
      obtain ⟨a1, a2⟩ := List.pairwise_cons.1 ha
      obtain ⟨b1, b2⟩ := List.pairwise_cons.1 hb
      have irr : ∀ z : FP, less z z = false := fun z => by rw [← Bool.not_eq_true, less_iff]; omega
      have e : x = y := by
        rcases List.mem_cons.1 ((h x).1 (List.mem_cons_self ..)) with e | hx
        · exact e
        · rcases List.mem_cons.1 ((h y).2 (List.mem_cons_self ..)) with e | hy
          · exact e.symm
          · have c1 := b1 x hx
            have c2 := a1 y hy
            have := less_trans c1 c2
            rw [irr] at this
            cases this
      subst e
      congr 1
      refine ih b a2 b2 (fun g => ?_)
      constructor
      · intro hg
        rcases List.mem_cons.1 ((h g).1 (List.mem_cons_of_mem _ hg)) with rfl | hx
        · have := a1 g hg
          rw [irr] at this
          cases this
        · exact hx
      · intro hg
        rcases List.mem_cons.1 ((h g).2 (List.mem_cons_of_mem _ hg)) with rfl | hx
        · have := b1 g hg
          rw [irr] at this
          cases this
        · exact hx
end Fr
end Go.Proofs.Ytjgndgcegenikaa
