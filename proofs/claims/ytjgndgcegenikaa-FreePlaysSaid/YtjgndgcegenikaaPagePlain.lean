/-
  Plain laws of no statement: a page's and a meta's bytes (chapter 4), as lists: what is packed is read as it was; what is read is packed. No conditions but those typed.
-/
import Derived.Test.YtjgndgcegenikaaNum
import Derived.Test.YtjgndgcegenikaaCrcPlain
namespace Go.Proofs.Ytjgndgcegenikaa
namespace Page
/-- a page -/
structure PG where
  kind : Nat
  no : Nat
  txn : Nat
  body : List UInt8
def right (p : PG) : Bool := decide (1 ≤ p.kind) && decide (p.kind ≤ 4) && decide (1 ≤ p.no) && decide (p.no ≤ 511) && decide (p.txn ≤ 1099511627776) && decide (p.body.length ≤ 488)
def noughts (n : Nat) : List UInt8 := List.replicate n 0
/-- a page's bytes with four bytes as sum -/
def withSum (p : PG) (sum : List UInt8) : List UInt8 :=
  [82, 66] ++ (beB p.kind 1 0 ++ ([0] ++ (beB p.body.length 2 0 ++ (beB p.no 4 0 ++ (beB p.txn 8 0 ++ (sum ++ ([0, 0] ++ (p.body ++ noughts (488 - p.body.length)))))))))
def sumOf (p : PG) : Nat := Crc.on 0 (withSum p (noughts 4))
def packed (p : PG) : List UInt8 := withSum p (beB (sumOf p) 4 0)
/-- the number that stands in so many bytes at a place -/
def at_ (l : List UInt8) (a k : Nat) : Nat := beN ((l.drop a).take k)
def fields (l : List UInt8) : PG := ⟨at_ l 2 1, at_ l 6 4, at_ l 10 8, (l.drop 24).take (at_ l 4 2)⟩
/-- what is read -/
def read (l : List UInt8) : Option PG :=
  if l.length = 512 ∧ at_ l 4 2 ≤ 488 ∧ at_ l 10 8 ≤ 1099511627776 ∧ right (fields l) = true ∧ packed (fields l) = l then some (fields l) else none
theorem on_lt (s : Nat) (l : List UInt8) : Crc.on s l < 2 ^ 32 := by unfold Crc.on; omega
theorem withSum_length (p : PG) (s : List UInt8) (hs : s.length = 4) (hb : p.body.length ≤ 488) : (withSum p s).length = 512 := by
  unfold withSum
  simp only [List.length_append, beB_length, List.length_cons, List.length_nil, hs, noughts, List.length_replicate]
  omega
theorem packed_length (p : PG) (hb : p.body.length ≤ 488) : (packed p).length = 512 := withSum_length p _ (beB_length _ _ _) hb
theorem drop_app {α : Type} (a b : List α) (n k : Nat) (h : a.length = k) (hn : k ≤ n) : (a ++ b).drop n = b.drop (n - k) := by
  subst h
  rw [List.drop_append, List.drop_eq_nil_of_le hn, List.nil_append]
theorem take_app {α : Type} (a b : List α) (k : Nat) (h : a.length = k) : (a ++ b).take k = a := by
  subst h
  simp
theorem beN_whole (n k : Nat) (hn : n < 2 ^ (8 * k)) : beN (beB n k 0) = n := by
  rw [beN_beB n k 0 (by omega) hn]
  simp
theorem withSum_fields (p : PG) (s : List UInt8) (hs : s.length = 4) (h : right p = true) : at_ (withSum p s) 4 2 = p.body.length ∧ at_ (withSum p s) 10 8 = p.txn ∧ fields (withSum p s) = p := by
  unfold right at h
  simp only [Bool.and_eq_true, decide_eq_true_eq] at h
  obtain ⟨⟨⟨⟨⟨h1, h2⟩, h3⟩, h4⟩, h5⟩, h6⟩ := h
  have k1 := beN_whole p.kind 1 (by omega)
  have k2 := beN_whole p.body.length 2 (by omega)
  have k3 := beN_whole p.no 4 (by omega)
  have k4 := beN_whole p.txn 8 (by omega)
  have l1 := beB_length p.kind 1 0
  have l2 := beB_length p.body.length 2 0
  have l3 := beB_length p.no 4 0
  have l4 := beB_length p.txn 8 0
  have e2 : at_ (withSum p s) 4 2 = p.body.length := by
    unfold at_ withSum
    rw [drop_app _ _ 4 2 rfl (by omega), drop_app _ _ 2 1 l1 (by omega), drop_app _ _ 1 1 rfl (by omega), Nat.sub_self, List.drop_zero, take_app _ _ 2 l2, k2]
  have e1 : at_ (withSum p s) 2 1 = p.kind := by
    unfold at_ withSum
    rw [drop_app _ _ 2 2 rfl (by omega), Nat.sub_self, List.drop_zero, take_app _ _ 1 l1, k1]
  have e3 : at_ (withSum p s) 6 4 = p.no := by
    unfold at_ withSum
    rw [drop_app _ _ 6 2 rfl (by omega), drop_app _ _ 4 1 l1 (by omega), drop_app _ _ 3 1 rfl (by omega), drop_app _ _ 2 2 l2 (by omega), Nat.sub_self, List.drop_zero, take_app _ _ 4 l3, k3]
  have e4 : at_ (withSum p s) 10 8 = p.txn := by
    unfold at_ withSum
    rw [drop_app _ _ 10 2 rfl (by omega), drop_app _ _ 8 1 l1 (by omega), drop_app _ _ 7 1 rfl (by omega), drop_app _ _ 6 2 l2 (by omega), drop_app _ _ 4 4 l3 (by omega), Nat.sub_self, List.drop_zero, take_app _ _ 8 l4, k4]
  have e5 : (withSum p s).drop 24 = p.body ++ noughts (488 - p.body.length) := by
    unfold withSum
    rw [drop_app _ _ 24 2 rfl (by omega), drop_app _ _ 22 1 l1 (by omega), drop_app _ _ 21 1 rfl (by omega), drop_app _ _ 20 2 l2 (by omega), drop_app _ _ 18 4 l3 (by omega), drop_app _ _ 14 8 l4 (by omega), drop_app _ _ 6 4 hs (by omega), drop_app _ _ 2 2 rfl (by omega), Nat.sub_self, List.drop_zero]
  refine ⟨e2, e4, ?_⟩
  unfold fields
  rw [e1, e2, e3, e4, e5, take_app _ _ _ rfl]
/-- what is packed is read as it was -/
theorem read_packed (p : PG) (h : right p = true) : read (packed p) = some p := by
  obtain ⟨e1, e2, e3⟩ := withSum_fields p (beB (sumOf p) 4 0) (beB_length _ _ _) h
  have hb : p.body.length ≤ 488 ∧ p.txn ≤ 1099511627776 := by
    unfold right at h
    simp only [Bool.and_eq_true, decide_eq_true_eq] at h
    omega
  unfold read
  show (if _ ∧ at_ (packed p) 4 2 ≤ 488 ∧ at_ (packed p) 10 8 ≤ 1099511627776 ∧ right (fields (packed p)) = true ∧ packed (fields (packed p)) = packed p then some (fields (packed p)) else none) = _
  rw [show fields (packed p) = p from e3, if_pos ⟨packed_length p hb.1, by rw [show at_ (packed p) 4 2 = _ from e1]; exact hb.1, by rw [show at_ (packed p) 10 8 = _ from e2]; exact hb.2, h, rfl⟩]
/-- what is read is packed so -/
theorem of_read (l : List UInt8) (p : PG) (h : read l = some p) : right p = true ∧ packed p = l := by
  unfold read at h
  split at h
  · rename_i h'
    injection h with h
    subst h
    exact ⟨h'.2.2.2.1, h'.2.2.2.2⟩
  · cases h
end Page
end Go.Proofs.Ytjgndgcegenikaa
