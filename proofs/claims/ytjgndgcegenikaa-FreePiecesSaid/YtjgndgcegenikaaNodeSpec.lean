/-
  Plain laws of no statement: a node's bytes (chapter 6), as lists: what is laid is read as it was. No conditions but those typed.
-/
import Derived.Test.YtjgndgcegenikaaPagePlain
import Derived.Test.YtjgndgcegenikaaNodePlain
namespace Go.Proofs.Ytjgndgcegenikaa
namespace Node
open Page (beN_whole)
/-- a cell -/
structure CL where
  key : List UInt8
  child : Nat
  val : List UInt8
  over : Nat
  size : Nat
/-- what stands behind a cell's key -/
def tailOf (leaf : Bool) (c : CL) : List UInt8 :=
  if leaf then (if 0 < c.over then 1 :: (beB c.over 4 0 ++ beB c.size 4 0) else 0 :: (beB c.val.length 2 0 ++ c.val)) else beB c.child 4 0
def one (leaf : Bool) (c : CL) : List UInt8 := beB c.key.length 2 0 ++ (c.key ++ tailOf leaf c)
def long (leaf : Bool) (c : CL) : Nat := 2 + c.key.length + (if leaf then (if 0 < c.over then 9 else 3 + c.val.length) else 4)
theorem one_length (leaf : Bool) (c : CL) : (one leaf c).length = long leaf c := by
  unfold one tailOf long
  simp only [List.length_append, beB_length]
  cases leaf
  · simp only [Bool.false_eq_true, if_false, beB_length]; omega
  · simp only [if_true]
    split
    · simp only [List.length_cons, List.length_append, beB_length]; omega
    · simp only [List.length_cons, List.length_append, beB_length]; omega
def count (leaf : Bool) (l : List CL) : Nat := 2 + (l.map fun c => 2 + long leaf c).sum
def slots (leaf : Bool) : Nat → List CL → List UInt8
  | _, [] => []
  | at_, c :: l => beB at_ 2 0 ++ slots leaf (at_ + (one leaf c).length) l
def bytes (leaf : Bool) (l : List CL) : List UInt8 := beB l.length 2 0 ++ (slots leaf (2 + 2 * l.length) l ++ l.flatMap (one leaf))
/-- a cell may be -/
def CellOk (leaf : Bool) (c : CL) : Prop :=
  c.key.length ≤ 120 ∧ (if leaf then c.key ≠ [] ∧ c.child = 0 ∧ ((c.over = 0 ∧ c.size = 0 ∧ c.val.length ≤ 96) ∨ (c.val = [] ∧ 1 ≤ c.over ∧ c.over ≤ 511 ∧ 97 ≤ c.size ∧ c.size ≤ 4000)) else 1 ≤ c.child ∧ c.child ≤ 511 ∧ c.val = [] ∧ c.over = 0 ∧ c.size = 0)
theorem slots_length (leaf : Bool) (l : List CL) : ∀ a, (slots leaf a l).length = 2 * l.length := by
  induction l with
  | nil => intro a; rfl
  | cons c l ih => intro a; rw [slots, List.length_append, beB_length, ih, List.length_cons]; omega
theorem flat_length (leaf : Bool) (l : List CL) : (l.flatMap (one leaf)).length = (l.map (long leaf)).sum := by
  induction l with
  | nil => rfl
  | cons c l ih => rw [List.flatMap_cons, List.length_append, one_length, ih]; rfl
theorem sum_two (leaf : Bool) (l : List CL) : (l.map fun c => 2 + long leaf c).sum = 2 * l.length + (l.map (long leaf)).sum := by
  induction l with
  | nil => rfl
  | cons c l ih => simp only [List.map_cons, List.sum_cons, ih, List.length_cons]; omega
theorem bytes_length (leaf : Bool) (l : List CL) : (bytes leaf l).length = count leaf l := by
  unfold bytes count
  rw [List.length_append, List.length_append, beB_length, slots_length, flat_length, sum_two]
/-- a number at a place; 0: there is none -/
def num (s : List UInt8) (a k : Nat) : Nat := if a + k ≤ s.length then beN ((s.drop a).take k) else 0
def text (s : List UInt8) (a : Nat) : Option (List UInt8 × Nat) :=
  if a + 2 ≤ s.length ∧ a + 2 + num s a 2 ≤ s.length then some ((s.drop (a + 2)).take (num s a 2), a + 2 + num s a 2) else none
theorem num_at (pre post : List UInt8) (n k : Nat) (hn : n < 2 ^ (8 * k)) : num (pre ++ (beB n k 0 ++ post)) pre.length k = n := by
  unfold num
  have hl : (beB n k 0).length = k := beB_length _ _ _
  rw [if_pos (by simp only [List.length_append, hl]; omega), List.drop_left' rfl, List.take_left' hl, beN_whole n k hn]
theorem text_at (pre post t : List UInt8) (ht : t.length < 65536) : text (pre ++ (beB t.length 2 0 ++ (t ++ post))) pre.length = some (t, pre.length + 2 + t.length) := by
  have hn := num_at pre (t ++ post) t.length 2 (by omega)
  unfold text
  rw [hn, if_pos (by simp only [List.length_append, beB_length]; omega)]
  have e : pre ++ (beB t.length 2 0 ++ (t ++ post)) = (pre ++ beB t.length 2 0) ++ (t ++ post) := by rw [List.append_assoc]
  rw [e, List.drop_left' (by rw [List.length_append, beB_length]), List.take_left' rfl]
/-- one cell, as it is read, and where it ends -/
def readOne (leaf : Bool) (s : List UInt8) (a : Nat) : Option (CL × Nat) :=
  match text s a with
  | none => none
  | some (k, b) =>
    if leaf then (if num s b 1 = 1 then some (⟨k, 0, [], num s (b + 1) 4, num s (b + 5) 4⟩, b + 9)
      else match text s (b + 1) with
        | none => none
        | some (v, e) => some (⟨k, 0, v, 0, 0⟩, e))
    else some (⟨k, num s b 4, [], 0, 0⟩, b + 4)
theorem beB_one : beB 1 1 0 = [1] ∧ beB 0 1 0 = [0] := by decide
theorem readOne_one (leaf : Bool) (c : CL) (h : CellOk leaf c) (pre post : List UInt8) : readOne leaf (pre ++ (one leaf c ++ post)) pre.length = some (c, pre.length + (one leaf c).length) := by
  obtain ⟨hk, h⟩ := h
  obtain ⟨key, child, val, over, size⟩ := c
  simp only at hk h
  have e1 : pre ++ (one leaf ⟨key, child, val, over, size⟩ ++ post) = pre ++ (beB key.length 2 0 ++ (key ++ (tailOf leaf ⟨key, child, val, over, size⟩ ++ post))) := by
    unfold one; simp only [List.append_assoc]
  have ht := text_at pre (tailOf leaf ⟨key, child, val, over, size⟩ ++ post) key (by omega)
  have e2 : pre ++ (beB key.length 2 0 ++ (key ++ (tailOf leaf ⟨key, child, val, over, size⟩ ++ post))) = (pre ++ (beB key.length 2 0 ++ key)) ++ (tailOf leaf ⟨key, child, val, over, size⟩ ++ post) := by simp only [List.append_assoc]
  have hl : (pre ++ (beB key.length 2 0 ++ key)).length = pre.length + 2 + key.length := by simp only [List.length_append, beB_length]; omega
  unfold readOne
  rw [one_length, e1, ht, e2]
  simp only
  cases leaf with
  | false =>
    simp only [Bool.false_eq_true, if_false] at h ⊢
    obtain ⟨h1, h2, rfl, rfl, rfl⟩ := h
    have hn := num_at (pre ++ (beB key.length 2 0 ++ key)) post child 4 (by omega)
    rw [hl] at hn
    have : tailOf false ⟨key, child, [], 0, 0⟩ = beB child 4 0 := rfl
    rw [this, hn]
    unfold long
    simp only [Bool.false_eq_true, if_false]
    simp only [Option.some.injEq, Prod.mk.injEq, true_and]
    omega
  | true =>
    simp only [if_true] at h ⊢
    obtain ⟨_, rfl, h⟩ := h
    rcases h with ⟨rfl, rfl, hv⟩ | ⟨rfl, o1, o2, s1, s2⟩
    · have et : tailOf true ⟨key, 0, val, 0, 0⟩ = beB 0 1 0 ++ (beB val.length 2 0 ++ val) := by rw [beB_one.2]; rfl
      have hn := num_at (pre ++ (beB key.length 2 0 ++ key)) ((beB val.length 2 0 ++ val) ++ post) 0 1 (by omega)
      have e3 : (pre ++ (beB key.length 2 0 ++ key)) ++ (tailOf true ⟨key, 0, val, 0, 0⟩ ++ post) = (pre ++ (beB key.length 2 0 ++ key)) ++ (beB 0 1 0 ++ ((beB val.length 2 0 ++ val) ++ post)) := by rw [et]; simp only [List.append_assoc]
      have hv2 := text_at ((pre ++ (beB key.length 2 0 ++ key)) ++ beB 0 1 0) post val (by omega)
      have hl2 : ((pre ++ (beB key.length 2 0 ++ key)) ++ beB 0 1 0).length = pre.length + 2 + key.length + 1 := by rw [List.length_append, hl, beB_length]
      rw [hl2] at hv2
      have e4 : ((pre ++ (beB key.length 2 0 ++ key)) ++ beB 0 1 0) ++ (beB val.length 2 0 ++ (val ++ post)) = (pre ++ (beB key.length 2 0 ++ key)) ++ (beB 0 1 0 ++ ((beB val.length 2 0 ++ val) ++ post)) := by simp only [List.append_assoc]
      rw [e4] at hv2
      rw [hl] at hn
      rw [e3, hn, hv2]
      unfold long
      simp only [Nat.zero_ne_one, if_false, Nat.lt_irrefl, if_true]
      simp only [Option.some.injEq, Prod.mk.injEq, true_and]
      omega
    · have et : tailOf true ⟨key, 0, [], over, size⟩ = beB 1 1 0 ++ (beB over 4 0 ++ beB size 4 0) := by rw [beB_one.1]; unfold tailOf; simp only [if_true]; rw [if_pos (by omega)]; rfl
      have e3 : (pre ++ (beB key.length 2 0 ++ key)) ++ (tailOf true ⟨key, 0, [], over, size⟩ ++ post) = (pre ++ (beB key.length 2 0 ++ key)) ++ (beB 1 1 0 ++ (beB over 4 0 ++ (beB size 4 0 ++ post))) := by rw [et]; simp only [List.append_assoc]
      have hn := num_at (pre ++ (beB key.length 2 0 ++ key)) (beB over 4 0 ++ (beB size 4 0 ++ post)) 1 1 (by omega)
      have hn2 := num_at ((pre ++ (beB key.length 2 0 ++ key)) ++ beB 1 1 0) (beB size 4 0 ++ post) over 4 (by omega)
      have hn3 := num_at (((pre ++ (beB key.length 2 0 ++ key)) ++ beB 1 1 0) ++ beB over 4 0) post size 4 (by omega)
      have l2 : ((pre ++ (beB key.length 2 0 ++ key)) ++ beB 1 1 0).length = pre.length + 2 + key.length + 1 := by rw [List.length_append, hl, beB_length]
      have l3 : (((pre ++ (beB key.length 2 0 ++ key)) ++ beB 1 1 0) ++ beB over 4 0).length = pre.length + 2 + key.length + 5 := by rw [List.length_append, l2, beB_length]
      rw [hl] at hn
      rw [l2] at hn2
      rw [l3] at hn3
      have e4 : ((pre ++ (beB key.length 2 0 ++ key)) ++ beB 1 1 0) ++ (beB over 4 0 ++ (beB size 4 0 ++ post)) = (pre ++ (beB key.length 2 0 ++ key)) ++ (beB 1 1 0 ++ (beB over 4 0 ++ (beB size 4 0 ++ post))) := by simp only [List.append_assoc]
      have e5 : (((pre ++ (beB key.length 2 0 ++ key)) ++ beB 1 1 0) ++ beB over 4 0) ++ (beB size 4 0 ++ post) = (pre ++ (beB key.length 2 0 ++ key)) ++ (beB 1 1 0 ++ (beB over 4 0 ++ (beB size 4 0 ++ post))) := by simp only [List.append_assoc]
      rw [e4] at hn2
      rw [e5] at hn3
      rw [e3, hn, hn2, hn3]
      unfold long
      simp only [if_true]
      rw [if_pos (by omega)]
      simp only [Option.some.injEq, Prod.mk.injEq, true_and]
      omega
/-- cells read one behind the other, at most n -/
def readGo (leaf : Bool) (s : List UInt8) : Nat → Nat → List CL → Option (List CL)
  | 0, _, acc => some acc
  | n + 1, a, acc => if a < s.length then (match readOne leaf s a with
      | none => none
      | some (c, b) => readGo leaf s n b (acc ++ [c])) else some acc
theorem readGo_flat (leaf : Bool) (l : List CL) (h : ∀ c ∈ l, CellOk leaf c) : ∀ (pre : List UInt8) (acc : List CL), readGo leaf (pre ++ l.flatMap (one leaf)) l.length pre.length acc = some (acc ++ l) := by
  induction l with
  | nil => intro pre acc; simp [readGo]
  | cons c l ih =>
    intro pre acc
    have h1 := readOne_one leaf c (h c (List.mem_cons_self ..)) pre (l.flatMap (one leaf))
    have hlen : pre.length < (pre ++ (one leaf c ++ l.flatMap (one leaf))).length := by
      rw [List.length_append, List.length_append, one_length]
      unfold long
      omega
    rw [List.flatMap_cons, List.length_cons, readGo, if_pos hlen, h1]
    simp only
    have h2 := ih (fun c hc => h c (List.mem_cons_of_mem _ hc)) (pre ++ one leaf c) (acc ++ [c])
    rw [List.length_append, List.append_assoc, List.append_assoc] at h2
    exact h2
/-- what is laid is read as it was -/
theorem read_bytes (leaf : Bool) (l : List CL) (h : ∀ c ∈ l, CellOk leaf c) (hl : l.length < 65536) :
    num (bytes leaf l) 0 2 = l.length ∧ readGo leaf (bytes leaf l) l.length (2 + 2 * l.length) [] = some l := by
  constructor
  · exact num_at [] _ l.length 2 (by omega)
  · have e : bytes leaf l = (beB l.length 2 0 ++ slots leaf (2 + 2 * l.length) l) ++ l.flatMap (one leaf) := by unfold bytes; rw [List.append_assoc]
    have hp : (beB l.length 2 0 ++ slots leaf (2 + 2 * l.length) l).length = 2 + 2 * l.length := by rw [List.length_append, beB_length, slots_length]
    have := readGo_flat leaf l h (beB l.length 2 0 ++ slots leaf (2 + 2 * l.length) l) []
    rw [hp, ← e] at this
    exact this
end Node
end Go.Proofs.Ytjgndgcegenikaa
