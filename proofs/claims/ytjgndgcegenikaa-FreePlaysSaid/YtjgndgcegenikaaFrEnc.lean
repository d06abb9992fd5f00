/-
  Plain definitions and laws of no statement: a piece's bytes (chapter 8), as lists: what is laid is read, and what is read was laid. No conditions but those typed.
-/
import Derived.Test.YtjgndgcegenikaaFrSpec
import Derived.Test.YtjgndgcegenikaaNodeSpec
import Derived.Test.YtjgndgcegenikaaPageSpec
namespace Go.Proofs.Ytjgndgcegenikaa
open Go.RowKit
open Page (beN_whole)
namespace Fr
def item (f : FP) : List UInt8 := beB f.1.toNat 8 0 ++ beB f.2.toNat 4 0
def bytes (next : Int) (l : List FP) : List UInt8 := beB next.toNat 4 0 ++ (beB l.length 2 0 ++ l.flatMap item)
def before (a b : FP) : Bool := less a b && decide (a.2 ≠ b.2)
/-- may they be a piece's? -/
def okP (next : Int) (l : List FP) : Bool := decide (0 ≤ next) && decide (next ≤ 511) && decide (l.length ≤ 40) && l.all right && decide (l.Pairwise (fun a b => before a b = true))
structure Piece (next : Int) (l : List FP) : Prop where
  lo : 0 ≤ next
  hi : next ≤ 511
  few : l.length ≤ 40
  right : ∀ f ∈ l, right f = true
  rise : l.Pairwise (fun a b => before a b = true)
theorem okP_iff (next : Int) (l : List FP) : okP next l = true ↔ Piece next l := by
  unfold okP
  simp only [Bool.and_eq_true, decide_eq_true_eq, List.all_eq_true]
  exact ⟨fun ⟨⟨⟨⟨a, b⟩, c⟩, d⟩, e⟩ => ⟨a, b, c, d, e⟩, fun ⟨a, b, c, d, e⟩ => ⟨⟨⟨⟨a, b⟩, c⟩, d⟩, e⟩⟩
def encS (next : Int) (l : List FP) : ByteArray := if okP next l then ba (bytes next l) else ba []
def encE (next : Int) (l : List FP) : Int := if okP next l then 0 else 4
def readAll : Nat → List UInt8 → List FP
  | 0, _ => []
  | n + 1, s => if 12 ≤ s.length then (((beN (s.take 8) : Nat) : Int), ((beN ((s.drop 8).take 4) : Nat) : Int)) :: readAll n (s.drop 12) else []
def head (s : List UInt8) : Int := ((beN (s.take 4) : Nat) : Int)
/-- what any bytes are read as -/
def dec (s : ByteArray) : Option (Int × List FP) :=
  if 4 ≤ s.size ∧ s.size ≤ 486 then (if okP (head s.data.toList) (readAll 40 (s.data.toList.drop 6)) = true ∧ encS (head s.data.toList) (readAll 40 (s.data.toList.drop 6)) = s then some (head s.data.toList, readAll 40 (s.data.toList.drop 6)) else none) else none
theorem item_length (f : FP) : (item f).length = 12 := by unfold item; rw [List.length_append, beB_length, beB_length]
theorem items_length (l : List FP) : (l.flatMap item).length = 12 * l.length := by
  induction l with
  | nil => rfl
  | cons f l ih => rw [List.flatMap_cons, List.length_append, item_length, ih, List.length_cons]; omega
theorem bytes_length (next : Int) (l : List FP) : (bytes next l).length = 6 + 12 * l.length := by
  unfold bytes
  rw [List.length_append, List.length_append, beB_length, beB_length, items_length]
  omega
theorem readAll_items (l : List FP) (h : ∀ f ∈ l, right f = true) : ∀ n, l.length ≤ n → readAll n (l.flatMap item) = l := by
  induction l with
  | nil => intro n _; cases n <;> simp [readAll]
  | cons f l ih =>
    intro n hn
    obtain ⟨n, rfl⟩ : ∃ m, n = m + 1 := ⟨n - 1, by rw [List.length_cons] at hn; omega⟩
    have hf := (right_iff f).1 (h f (List.mem_cons_self ..))
    have hl : ((f :: l).flatMap item).length = 12 + 12 * l.length := by rw [items_length, List.length_cons]; omega
    have e : (f :: l).flatMap item = beB f.1.toNat 8 0 ++ (beB f.2.toNat 4 0 ++ l.flatMap item) := by rw [List.flatMap_cons]; unfold item; rw [List.append_assoc]
    have l8 : (beB f.1.toNat 8 0).length = 8 := beB_length _ _ _
    have l4 : (beB f.2.toNat 4 0).length = 4 := beB_length _ _ _
    rw [readAll, if_pos (by omega), e, List.take_left' l8, List.drop_left' l8, List.take_left' l4]
    have e12 : (beB f.1.toNat 8 0 ++ (beB f.2.toNat 4 0 ++ l.flatMap item)).drop 12 = l.flatMap item := by
      rw [← List.append_assoc, List.drop_left' (by rw [List.length_append, l8, l4])]
    rw [e12, ih (fun g hg => h g (List.mem_cons_of_mem _ hg)) n (by rw [List.length_cons] at hn; omega), beN_whole _ 8 (by omega), beN_whole _ 4 (by omega)]
    congr 1
    apply Prod.ext
    · simp only; omega
    · simp only; omega
theorem dec_enc (next : Int) (l : List FP) (h : okP next l = true) : dec (encS next l) = some (next, l) := by
  have hp := (okP_iff next l).1 h
  obtain ⟨a, b, c, d, _⟩ := hp
  have e : encS next l = ba (bytes next l) := by unfold encS; rw [if_pos h]
  have hs : (encS next l).data.toList = bytes next l := by rw [e, data_ba]
  have hz : (encS next l).size = 6 + 12 * l.length := by rw [e, ba_size, bytes_length]
  have l4 : (beB next.toNat 4 0).length = 4 := beB_length _ _ _
  have l2 : (beB l.length 2 0).length = 2 := beB_length _ _ _
  have h1 : head (bytes next l) = next := by
    unfold head bytes
    rw [List.take_left' l4, beN_whole _ 4 (by omega)]
    omega
  have h2 : (bytes next l).drop 6 = l.flatMap item := by
    unfold bytes
    rw [← List.append_assoc, List.drop_left' (by rw [List.length_append, l4, l2])]
  unfold dec
  rw [if_pos (by omega), hs, h1, h2, readAll_items l d 40 c, if_pos ⟨h, rfl⟩]
theorem dec_iff (s : ByteArray) (next : Int) (l : List FP) : dec s = some (next, l) ↔ okP next l = true ∧ encS next l = s := by
  constructor
  · intro h
    unfold dec at h
    split at h
    · split at h
      · rename_i hh
        injection h with h
        injection h with h1 h2
        subst h1 h2
        exact hh
      · cases h
    · cases h
  · rintro ⟨h1, h2⟩
    rw [← h2]
    exact dec_enc next l h1
theorem dec_none_iff (s : ByteArray) : dec s = none ↔ ∀ next l, okP next l = true → encS next l ≠ s := by
  constructor
  · intro h next l ho he
    have := (dec_iff s next l).2 ⟨ho, he⟩
    rw [h] at this
    cases this
  · intro h
    cases hd : dec s with
    | none => rfl
    | some q =>
      obtain ⟨next, l⟩ := q
      obtain ⟨h1, h2⟩ := (dec_iff s next l).1 hd
      exact absurd h2 (h next l h1)
theorem bytes_snoc (l : List FP) (k : Nat) (h : k < l.length) : (l.take (k + 1)).flatMap item = (l.take k).flatMap item ++ item l[k] := by
  rw [List.take_succ_eq_append_getElem h, List.flatMap_append]
  simp
theorem before_iff (a b : FP) : before a b = true ↔ less a b = true ∧ a.2 ≠ b.2 := by unfold before; simp
/-- how many pieces -/
def pieces (n : Int) : Nat := if n ≤ 0 then 0 else (n.toNat + 39) / 40
theorem pieces_is (n : Int) (k : Nat) (hn : n ≤ 40 * k) (hk : k = 0 ∨ 40 * ((k : Int) - 1) < n) : pieces n = k := by
  unfold pieces
  split
  · rcases hk with hk | hk <;> omega
  · omega
theorem pieces_spec (n : Int) : (n ≤ 0 ∧ pieces n = 0) ∨ (0 < n ∧ n ≤ 40 * (pieces n : Int) ∧ 40 * ((pieces n : Int) - 1) < n) := by
  unfold pieces
  split
  · rename_i h; exact .inl ⟨h, rfl⟩
  · rename_i h; right; omega
end Fr
end Go.Proofs.Ytjgndgcegenikaa
