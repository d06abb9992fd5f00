/-
  Contracts of the reference's Less and Begins: what each call answers, and that nothing that was in memory before has changed. Conditions: texts of at most 1048576 bytes.
-/
import Derived.Test.YtjgndgcegenikaaNum
import Derived.Deep.QuietTactic
import Derived.BigQuiet
namespace Go.Proofs.Ytjgndgcegenikaa
open Go.RowKit

def cmpL : List UInt8 → List UInt8 → Int
  | [], [] => 0
  | [], _ :: _ => -1
  | _ :: _, [] => 1
  | x :: a, y :: b => if x < y then -1 else if y < x then 1 else cmpL a b
theorem drop_at (s : ByteArray) (k : Nat) (h : k < s.size) : s.data.toList.drop k = s[k] :: s.data.toList.drop (k + 1) := by
  rw [List.drop_eq_getElem_cons (by rw [Array.length_toList]; exact h)]
  rfl
theorem drop_all (s : ByteArray) (k : Nat) (h : s.size ≤ k) : s.data.toList.drop k = [] :=
  List.drop_of_length_le (by rw [Array.length_toList]; exact h)
theorem cmpL_at (a b : ByteArray) (k : Nat) (ha : k < a.size) (hb : k < b.size) : cmpL (a.data.toList.drop k) (b.data.toList.drop k) =
    if a[k] < b[k] then -1 else if b[k] < a[k] then 1 else cmpL (a.data.toList.drop (k + 1)) (b.data.toList.drop (k + 1)) := by
  rw [drop_at a k ha, drop_at b k hb]
  rfl
theorem cmpL_end1 (a b : ByteArray) (k : Nat) (ha : a.size ≤ k) (hb : k < b.size) : cmpL (a.data.toList.drop k) (b.data.toList.drop k) = -1 := by
  rw [drop_all a k ha, drop_at b k hb]
  rfl
theorem cmpL_end2 (a b : ByteArray) (k : Nat) (ha : k < a.size) (hb : b.size ≤ k) : cmpL (a.data.toList.drop k) (b.data.toList.drop k) = 1 := by
  rw [drop_at a k ha, drop_all b k hb]
  rfl
theorem cmpL_end3 (a b : ByteArray) (k : Nat) (ha : a.size ≤ k) (hb : b.size ≤ k) : cmpL (a.data.toList.drop k) (b.data.toList.drop k) = 0 := by
  rw [drop_all a k ha, drop_all b k hb]
  rfl
theorem _root_.Go.RowKit.Below.drewN {B : Nat} {a w : World} (h : Below B a w) (n : Nat) : Below B a (w.drewN n) := ⟨h.os, h.tape, h.output, h.size, h.block⟩
theorem ret_int {k : IntKind} {a b : Int} (h : a = b) : Ending.returned (.int k a) = .returned (.int k b) := by rw [h]

/-- only draws lie between the two worlds -/
def Drawn (w w' : World) : Prop := ∃ n, w' = w.drewN n
theorem Drawn.drewN {w w' : World} (h : Drawn w w') (n : Nat) : Drawn w (w'.drewN n) := by
  obtain ⟨m, rfl⟩ := h
  exact ⟨m + n, World.drewN_drewN _ _ _⟩
theorem beq_str_true {x y : ByteArray} (h : x = y) : (x.toList == y.toList) = true := by rw [h]; simp
theorem beq_str_false {x y : ByteArray} (h : x ≠ y) : (x.toList == y.toList) = false := by
  rw [beq_eq_false_iff_ne]
  intro e
  rw [ByteArray.toList_eq, ByteArray.toList_eq] at e
  exact h (ByteArray.ext (Array.ext' e))
theorem begins_iff (a b : ByteArray) : a.data.toList <+: b.data.toList ↔ (a.size ≤ b.size ∧ b.extract 0 a.size = a) := by
  have ha : a.data.toList.length = a.size := by rw [Array.length_toList]; rfl
  have hb : b.data.toList.length = b.size := by rw [Array.length_toList]; rfl
  have he : (b.extract 0 a.size).data.toList = b.data.toList.take a.size := by rw [ByteArray.data_extract]; simp
  constructor
  · intro h
    refine ⟨by have := h.length_le; omega, ?_⟩
    apply ByteArray.ext
    apply Array.ext'
    rw [he, ← ha]
    exact (List.prefix_iff_eq_take.1 h).symm
  · rintro ⟨_, h⟩
    rw [List.prefix_iff_eq_take, ha, ← he, h]
end Go.Proofs.Ytjgndgcegenikaa
