/-
  Plain definitions and laws of no statement: who reads which version (chapter 7), as a list of four numbers, -1 for a free slot. No conditions but those typed.
-/
import Derived.Test.YtmfbjdfekgbamaaOwn
namespace Go.Proofs.Ytmfbjdfekgbamaa
open Go.RowKit
namespace Rd
/-- four slots; each is free, or a transaction's -/
def Ok (l : List Int) : Prop := l.length = 4 ∧ ∀ x ∈ l, -1 ≤ x ∧ x ≤ 1099511627776
def none4 : List Int := [-1, -1, -1, -1]
theorem none4_ok : Ok none4 := ⟨rfl, fun x hx => by simp [none4] at hx; omega⟩
theorem Ok.at_ {l : List Int} (h : Ok l) (k : Nat) (hk : k < l.length) : -1 ≤ l[k] ∧ l[k] ≤ 1099511627776 := h.2 _ (List.getElem_mem hk)
/-- may a transaction read? -/
def may (n : Int) : Bool := decide (0 ≤ n) && decide (n ≤ 1099511627776)
def free (l : List Int) : Nat := l.findIdx (fun x => decide (x < 0))
def enters (l : List Int) (n : Int) : Bool := may n && decide (free l < 4)
def enterL (l : List Int) (n : Int) : List Int := if enters l n then l.set (free l) n else l
def enterI (l : List Int) (n : Int) : Int := if enters l n then (free l : Nat) else 0
def enterE (l : List Int) (n : Int) : Int := if may n then (if free l < 4 then 0 else 9) else 1
def has (i : Int) : Bool := decide (0 ≤ i) && decide (i ≤ 3)
def at_ (l : List Int) (i : Int) : Int := l.getD i.toNat (-1)
def there (l : List Int) (i : Int) : Bool := has i && decide (0 ≤ at_ l i)
def leaveL (l : List Int) (i : Int) : List Int := if there l i then l.set i.toNat (-1) else l
def leaveE (l : List Int) (i : Int) : Int := if has i then (if at_ l i < 0 then 7 else 0) else 1
def readN (l : List Int) (i : Int) : Int := if there l i then at_ l i else 0
def step (m x : Int) : Int := if 0 ≤ x then min m x else m
def oldest (l : List Int) (now : Int) : Int := l.foldl step now
/-- how many read -/
def count (l : List Int) : Nat := 4 - l.count (-1)
/-- a list of all transactions that are read, rising -/
structure Live (l L : List Int) : Prop where
  perm : L.Perm (l.filter (fun x => decide (0 ≤ x)))
  rise : L.Pairwise (· ≤ ·)
theorem free_ok {l : List Int} (h : Ok l) (hf : free l < 4) : l[free l]'(by rw [h.1]; exact hf) = -1 := by
  have hlt : free l < l.length := by rw [h.1]; exact hf
  have h1 : decide (l[free l] < 0) = true := List.findIdx_getElem (p := fun x => decide (x < 0)) (w := hlt)
  have := h.at_ (free l) hlt
  have := of_decide_eq_true h1
  omega
theorem free_is (l : List Int) (k : Nat) (hk : k < l.length) (h : l[k] < 0) (hb : ∀ j (hj : j < l.length), j < k → 0 ≤ l[j]) : free l = k := by
  unfold free
  rw [List.findIdx_eq hk]
  exact ⟨decide_eq_true h, fun j hj => decide_eq_false (by have := hb j (by omega) hj; omega)⟩
theorem free_full (l : List Int) (hb : ∀ j (hj : j < l.length), 0 ≤ l[j]) : free l = l.length := by
  unfold free
  rw [List.findIdx_eq_length]
  intro x hx
  obtain ⟨j, hj, rfl⟩ := List.getElem_of_mem hx
  exact decide_eq_false (by have := hb j hj; omega)
theorem set_ok {l : List Int} (h : Ok l) (k : Nat) (n : Int) (hn : -1 ≤ n ∧ n ≤ 1099511627776) : Ok (l.set k n) := by
  refine ⟨by rw [List.length_set]; exact h.1, fun x hx => ?_⟩
  rcases List.mem_or_eq_of_mem_set hx with hx | rfl
  · exact h.2 x hx
  · exact hn
theorem may_iff (n : Int) : may n = true ↔ 0 ≤ n ∧ n ≤ 1099511627776 := by unfold may; simp
theorem enterL_ok {l : List Int} (h : Ok l) (n : Int) : Ok (enterL l n) := by
  unfold enterL
  split
  · rename_i he
    unfold enters at he
    rw [Bool.and_eq_true, may_iff] at he
    exact set_ok h _ _ (by omega)
  · exact h
theorem leaveL_ok {l : List Int} (h : Ok l) (i : Int) : Ok (leaveL l i) := by
  unfold leaveL
  split
  · exact set_ok h _ _ (by omega)
  · exact h
theorem fold_min (l : List Int) (m n : Int) : l.foldl step (min m n) = min (l.foldl step m) n := by
  induction l generalizing m with
  | nil => rfl
  | cons x l ih =>
    have e : step (min m n) x = min (step m x) n := by unfold step; split <;> omega
    rw [List.foldl_cons, List.foldl_cons, e, ih]
theorem oldest_set (l : List Int) (k : Nat) (hk : k < l.length) (h : l[k] < 0) (n now : Int) (hn : 0 ≤ n) : oldest (l.set k n) now = min (oldest l now) n := by
  unfold oldest
  induction l generalizing k now with
  | nil => simp at hk
  | cons x l ih =>
    cases k with
    | zero =>
      simp only [List.getElem_cons_zero] at h
      rw [List.set_cons_zero, List.foldl_cons, List.foldl_cons]
      have e1 : step now n = min now n := by unfold step; rw [if_pos hn]
      have e2 : step now x = now := by unfold step; rw [if_neg (by omega)]
      rw [e1, e2, fold_min]
    | succ k =>
      rw [List.set_cons_succ, List.foldl_cons, List.foldl_cons]
      exact ih k (by simpa using hk) (by simpa using h) _
theorem set_back {l : List Int} (h : Ok l) (hf : free l < 4) (n : Int) : (l.set (free l) n).set (free l) (-1) = l := by
  rw [List.set_set]
  have := free_ok h hf
  conv => lhs; rw [← this]
  exact List.set_getElem_self _
theorem at_set {l : List Int} (k : Nat) (hk : k < l.length) (n : Int) : at_ (l.set k n) (k : Nat) = n := by
  unfold at_
  rw [List.getD_eq_getElem?_getD]
  simp [hk]
theorem Live.length {l L : List Int} (hl : Ok l) (h : Live l L) : L.length = count l := by
  rw [h.perm.length_eq]
  unfold count
  have h1 : l.length = (l.filter (fun x => decide (0 ≤ x))).length + l.count (-1) := by
    have := hl.2
    clear h hl
    induction l with
    | nil => rfl
    | cons x l ih =>
      have ih := ih (fun y hy => this y (List.mem_cons_of_mem _ hy))
      have hx := this x (List.mem_cons_self ..)
      rw [List.filter_cons, List.count_cons, List.length_cons]
      by_cases h0 : 0 ≤ x
      · rw [if_pos (decide_eq_true h0), List.length_cons]
        have : (x == -1) = false := by rw [beq_eq_false_iff_ne]; omega
        rw [this]
        simp only [Bool.false_eq_true, if_false]
        omega
      · rw [if_neg (by simpa using h0)]
        have : (x == -1) = true := by rw [beq_iff_eq]; omega
        rw [this]
        simp only [if_true]
        omega
  have := hl.1
  omega
theorem Live.count {l L : List Int} (h : Live l L) (k : Nat) (hk : k < L.length) : L.count L[k] = l.count L[k] := by
  rw [h.perm.count_eq]
  have hm : L[k] ∈ l.filter (fun x => decide (0 ≤ x)) := h.perm.mem_iff.1 (List.getElem_mem hk)
  rw [List.mem_filter] at hm
  exact List.count_filter (p := fun x => decide (0 ≤ x)) hm.2
theorem Live.rising {l L : List Int} (h : Live l L) (k : Nat) (hk : k + 1 < L.length) : L[k] ≤ L[k + 1] :=
  List.pairwise_iff_getElem.1 h.rise k (k + 1) (by omega) hk (by omega)
/-- counted up to k -/
theorem count_take_succ (L : List Int) (x : Int) (k : Nat) (hk : k < L.length) : (L.take (k + 1)).count x = (L.take k).count x + (if L[k] = x then 1 else 0) := by
  rw [List.take_succ_eq_append_getElem hk, List.count_append, List.count_singleton]
  congr 1
  by_cases h : L[k] = x
  · rw [if_pos h, if_pos (by simpa using h)]
  · rw [if_neg h, if_neg (by simpa using h)]
end Rd
end Go.Proofs.Ytmfbjdfekgbamaa
