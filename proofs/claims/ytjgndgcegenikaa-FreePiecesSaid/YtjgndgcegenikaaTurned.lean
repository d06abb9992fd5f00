/-
  Plain laws of no statement: four neighbouring bytes of a text turned one by one, and the sums of both texts (chapter 2). No conditions but those typed.
-/
import Derived.Test.YtjgndgcegenikaaCrcPlain
namespace Go.Proofs.Ytjgndgcegenikaa
namespace Crc
def turn (l : List UInt8) (p y : Nat) : Nat → List UInt8
  | 0 => l
  | k + 1 => (turn l p y k).set (p + k) ((turn l p y k).getD (p + k) 0 ^^^ UInt8.ofNat (y / 2 ^ (8 * k)))
theorem turn_length (l : List UInt8) (p y k : Nat) : (turn l p y k).length = l.length := by
  induction k with
  | zero => rfl
  | succ k ih => rw [turn, List.length_set, ih]
theorem turn_four (P S : List UInt8) (a b c d : UInt8) (y : Nat) : turn (P ++ [a, b, c, d] ++ S) P.length y 4 =
    P ++ [a ^^^ UInt8.ofNat (y / 2 ^ (8 * 0)), b ^^^ UInt8.ofNat (y / 2 ^ (8 * 1)), c ^^^ UInt8.ofNat (y / 2 ^ (8 * 2)), d ^^^ UInt8.ofNat (y / 2 ^ (8 * 3))] ++ S := by
  simp [turn, List.getD_eq_getElem?_getD]
theorem parted (l : List UInt8) (p : Nat) (h : p + 4 ≤ l.length) : ∃ P S a b c d, l = P ++ [a, b, c, d] ++ S ∧ p = P.length := by
  refine ⟨l.take p, l.drop (p + 4), l[p], l[p + 1], l[p + 2], l[p + 3], ?_, by rw [List.length_take]; omega⟩
  have e1 : l.drop p = l[p] :: l[p + 1] :: l[p + 2] :: l[p + 3] :: l.drop (p + 4) := by
    rw [List.drop_eq_getElem_cons (by omega), List.drop_eq_getElem_cons (by omega : p + 1 < l.length), List.drop_eq_getElem_cons (by omega : p + 1 + 1 < l.length), List.drop_eq_getElem_cons (by omega : p + 1 + 1 + 1 < l.length)]
  conv => lhs; rw [← List.take_append_drop p l, e1]
  simp
theorem zero_of (y : Nat) (h : y < 2 ^ 32) (h0 : UInt8.ofNat (y / 2 ^ (8 * 0)) = 0) (h1 : UInt8.ofNat (y / 2 ^ (8 * 1)) = 0) (h2 : UInt8.ofNat (y / 2 ^ (8 * 2)) = 0) (h3 : UInt8.ofNat (y / 2 ^ (8 * 3)) = 0) : y = 0 := by
  have t : ∀ n : Nat, UInt8.ofNat n = 0 → n % 256 = 0 := fun n hn => by
    have := congrArg UInt8.toNat hn
    simpa using this
  have := t _ h0
  have := t _ h1
  have := t _ h2
  have := t _ h3
  omega
theorem turn_zero (l : List UInt8) (p k : Nat) (hk : p + k ≤ l.length) : turn l p 0 k = l := by
  induction k with
  | zero => rfl
  | succ k ih =>
    rw [turn, ih (by omega)]
    have hk : p + k < l.length := by omega
    simp [List.getD_eq_getElem?_getD, hk]
/-- the sums agree just where nothing was turned -/
theorem turn_tells (l : List UInt8) (p y : Nat) (h : p + 4 ≤ l.length) (hy : y < 2 ^ 32) (hy0 : y ≠ 0) : on 0 (turn l p y 4) ≠ on 0 l := by
  intro he
  obtain ⟨P, S, a, b, c, d, rfl, rfl⟩ := parted l p h
  rw [turn_four] at he
  unfold on at he
  have hr := fun l => reg_lt l (4294967295 - 0) (by omega)
  have e2 : reg (4294967295 - 0) (P ++ [a ^^^ UInt8.ofNat (y / 2 ^ (8 * 0)), b ^^^ UInt8.ofNat (y / 2 ^ (8 * 1)), c ^^^ UInt8.ofNat (y / 2 ^ (8 * 2)), d ^^^ UInt8.ofNat (y / 2 ^ (8 * 3))] ++ S) = reg (4294967295 - 0) (P ++ [a, b, c, d] ++ S) := by
    have h1 := hr (P ++ [a ^^^ UInt8.ofNat (y / 2 ^ (8 * 0)), b ^^^ UInt8.ofNat (y / 2 ^ (8 * 1)), c ^^^ UInt8.ofNat (y / 2 ^ (8 * 2)), d ^^^ UInt8.ofNat (y / 2 ^ (8 * 3))] ++ S)
    have h2 := hr (P ++ [a, b, c, d] ++ S)
    omega
  obtain ⟨k0, k1, k2, k3⟩ := tells (4294967295 - 0) (by omega) P S a b c d _ _ _ _ e2
  exact hy0 (zero_of y hy k0 k1 k2 k3)
end Crc
end Go.Proofs.Ytjgndgcegenikaa
