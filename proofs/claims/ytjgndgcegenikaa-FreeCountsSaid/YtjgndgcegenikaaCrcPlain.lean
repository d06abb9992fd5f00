/-
  Plain laws of no statement: the steps of a register of 32 bits (chapter 2), as numbers: they are linear, none is lost, four bytes at once. No conditions but those typed.
-/
import Derived.Laws.Sem
namespace Go.Proofs.Ytjgndgcegenikaa
namespace Crc

def step (r : Nat) : Nat := if r % 2 = 1 then (r / 2) ^^^ 3988292384 else r / 2
def steps : Nat → Nat → Nat
  | 0, r => r
  | k + 1, r => steps k (step r)
def byte (r : Nat) (b : UInt8) : Nat := steps 8 (r ^^^ b.toNat)
/-- the register behind a text -/
def reg (r : Nat) (l : List UInt8) : Nat := l.foldl byte r
/-- the sum of a text that goes on from a sum -/
def on (sum : Nat) (l : List UInt8) : Nat := 4294967295 - reg (4294967295 - sum) l

theorem half_xor (x y : Nat) : (x ^^^ y) / 2 = x / 2 ^^^ y / 2 := by
  have := Nat.shiftRight_xor_distrib (a := x) (b := y) (i := 1)
  simpa [Nat.shiftRight_eq_div_pow] using this
theorem odd_xor (x y : Nat) : (x ^^^ y) % 2 = (x % 2 + y % 2) % 2 := by
  have h := Nat.testBit_xor x y 0
  simp only [Nat.testBit_zero] at h
  rcases Nat.mod_two_eq_zero_or_one x with hx | hx <;> rcases Nat.mod_two_eq_zero_or_one y with hy | hy <;> rcases Nat.mod_two_eq_zero_or_one (x ^^^ y) with hz | hz <;> simp [hx, hy, hz] at h ⊢
theorem step_xor (x y : Nat) : step (x ^^^ y) = step x ^^^ step y := by
  unfold step
  rw [odd_xor, half_xor]
  have e1 : ∀ a b c : Nat, a ^^^ b ^^^ c = a ^^^ c ^^^ b := fun a b c => by rw [Nat.xor_assoc, Nat.xor_comm b c, ← Nat.xor_assoc]
  have e2 : ∀ a b c : Nat, a ^^^ c ^^^ (b ^^^ c) = a ^^^ b := fun a b c => by
    rw [Nat.xor_comm b c, ← Nat.xor_assoc, Nat.xor_assoc a c c, Nat.xor_self, Nat.xor_zero]
  rcases Nat.mod_two_eq_zero_or_one x with hx | hx <;> rcases Nat.mod_two_eq_zero_or_one y with hy | hy <;> simp only [hx, hy]
  · rfl
  · simp [Nat.xor_assoc]
  · simpa using e1 (x / 2) (y / 2) 3988292384
  · simpa using (e2 (x / 2) (y / 2) 3988292384).symm
theorem step_lt (r : Nat) (h : r < 2 ^ 32) : step r < 2 ^ 32 := by
  unfold step
  split
  · exact Nat.xor_lt_two_pow (by omega) (by omega)
  · omega
theorem step_zero (r : Nat) (h : r < 2 ^ 32) (h0 : step r = 0) : r = 0 := by
  unfold step at h0
  split at h0
  · exfalso
    have ht : (r / 2 ^^^ 3988292384).testBit 31 = false := by rw [h0]; simp
    rw [Nat.testBit_xor] at ht
    have h1 : (r / 2).testBit 31 = false := Nat.testBit_lt_two_pow (by omega)
    have h2 : (3988292384 : Nat).testBit 31 = true := by decide
    rw [h1, h2] at ht
    simp at ht
  · omega
theorem steps_xor (k x y : Nat) : steps k (x ^^^ y) = steps k x ^^^ steps k y := by
  induction k generalizing x y with
  | zero => rfl
  | succ k ih => simp only [steps, step_xor, ih]
theorem steps_lt (k r : Nat) (h : r < 2 ^ 32) : steps k r < 2 ^ 32 := by
  induction k generalizing r with
  | zero => exact h
  | succ k ih => exact ih _ (step_lt r h)
theorem steps_zero (k r : Nat) (h : r < 2 ^ 32) (h0 : steps k r = 0) : r = 0 := by
  induction k generalizing r with
  | zero => exact h0
  | succ k ih => exact step_zero r h (ih _ (step_lt r h) h0)
theorem steps_add (k m r : Nat) : steps (k + m) r = steps m (steps k r) := by
  induction k generalizing r with
  | zero => rw [Nat.zero_add]; rfl
  | succ k ih => rw [show k + 1 + m = (k + m) + 1 from by omega]; exact ih _
theorem xor_zero_iff {x y : Nat} (h : x ^^^ y = 0) : x = y := by
  have : x ^^^ (x ^^^ y) = x ^^^ 0 := by rw [h]
  rw [← Nat.xor_assoc, Nat.xor_self, Nat.zero_xor, Nat.xor_zero] at this
  exact this.symm
theorem steps_inj (k x y : Nat) (hx : x < 2 ^ 32) (hy : y < 2 ^ 32) (h : steps k x = steps k y) : x = y := by
  apply xor_zero_iff
  apply steps_zero k _ (Nat.xor_lt_two_pow hx hy)
  rw [steps_xor, h, Nat.xor_self]
/-- a register whose lowest bits are none is only divided -/
theorem steps_shift (k b : Nat) : steps k (b * 2 ^ k) = b := by
  induction k generalizing b with
  | zero => simp [steps]
  | succ k ih =>
    have e : step (b * 2 ^ (k + 1)) = b * 2 ^ k := by
      unfold step
      rw [Nat.pow_succ, ← Nat.mul_assoc]
      rw [if_neg (by omega)]
      omega
    rw [steps, e, ih]
theorem byte_lt (r : Nat) (b : UInt8) (h : r < 2 ^ 32) : byte r b < 2 ^ 32 :=
  steps_lt 8 _ (Nat.xor_lt_two_pow h (Nat.lt_trans b.toNat_lt (by decide)))
theorem reg_lt (l : List UInt8) (r : Nat) (h : r < 2 ^ 32) : reg r l < 2 ^ 32 := by
  induction l generalizing r with
  | nil => exact h
  | cons b l ih => exact ih _ (byte_lt r b h)
theorem byte_inj (x y : Nat) (b : UInt8) (hx : x < 2 ^ 32) (hy : y < 2 ^ 32) (h : byte x b = byte y b) : x = y := by
  have hb : b.toNat < 2 ^ 32 := Nat.lt_trans b.toNat_lt (by decide)
  have := steps_inj 8 _ _ (Nat.xor_lt_two_pow hx hb) (Nat.xor_lt_two_pow hy hb) h
  have e : ∀ z : Nat, z ^^^ b.toNat ^^^ b.toNat = z := fun z => by rw [Nat.xor_assoc, Nat.xor_self, Nat.xor_zero]
  rw [← e x, this, e y]
theorem reg_inj (l : List UInt8) (x y : Nat) (hx : x < 2 ^ 32) (hy : y < 2 ^ 32) (h : reg x l = reg y l) : x = y := by
  induction l generalizing x y with
  | nil => exact h
  | cons b l ih => exact byte_inj x y b hx hy (ih _ _ (byte_lt x b hx) (byte_lt y b hy) h)
theorem reg_append (l k : List UInt8) (r : Nat) : reg r (l ++ k) = reg (reg r l) k := by simp [reg]
/-- two bytes and more at once -/
theorem byte_then (k r x : Nat) (b : UInt8) : steps k (byte r b ^^^ x) = steps (8 + k) (r ^^^ (b.toNat ^^^ x * 256)) := by
  rw [steps_add]
  have : steps 8 (r ^^^ (b.toNat ^^^ x * 256)) = byte r b ^^^ x := by
    rw [← Nat.xor_assoc, steps_xor 8 (r ^^^ b.toNat) (x * 256)]
    rw [show x * 256 = x * 2 ^ 8 from rfl, steps_shift]
    rfl
  rw [this]
/-- four bytes as one number, the first the lowest -/
def four (a b c d : UInt8) : Nat := a.toNat ^^^ (b.toNat ^^^ (c.toNat ^^^ d.toNat * 256) * 256) * 256
theorem reg_four (r : Nat) (a b c d : UInt8) : reg r [a, b, c, d] = steps 32 (r ^^^ four a b c d) := by
  show steps 8 (byte (byte (byte r a) b) c ^^^ d.toNat) = _
  rw [byte_then 8, byte_then 16, byte_then 24]
  rfl
theorem xor_mul (x y : Nat) : (x ^^^ y) * 256 = x * 256 ^^^ y * 256 := by
  have := Nat.shiftLeft_xor_distrib (a := x) (b := y) (i := 8)
  simpa [Nat.shiftLeft_eq] using this
theorem four_xor (a b c d a' b' c' d' : UInt8) : four (a ^^^ a') (b ^^^ b') (c ^^^ c') (d ^^^ d') = four a b c d ^^^ four a' b' c' d' := by
  unfold four
  simp only [UInt8.toNat_xor, xor_mul]
  ac_rfl
theorem four_lt (a b c d : UInt8) : four a b c d < 2 ^ 32 := by
  have h1 := a.toNat_lt
  have h2 := b.toNat_lt
  have h3 := c.toNat_lt
  have h4 := d.toNat_lt
  unfold four
  have k1 : c.toNat ^^^ d.toNat * 256 < 2 ^ 16 := Nat.xor_lt_two_pow (by omega) (by omega)
  have k2 : b.toNat ^^^ (c.toNat ^^^ d.toNat * 256) * 256 < 2 ^ 24 := Nat.xor_lt_two_pow (by omega) (by omega)
  exact Nat.xor_lt_two_pow (by omega) (by omega)
theorem low_xor (x : Nat) (a : UInt8) : (a.toNat ^^^ x * 256) % 256 = a.toNat ∧ (a.toNat ^^^ x * 256) / 256 = x := by
  have h1 := a.toNat_lt
  have e : a.toNat ^^^ x * 256 = x * 256 + a.toNat := by
    rw [Nat.xor_comm]
    have h := Nat.shiftLeft_add_eq_or_of_lt (b := a.toNat) (i := 8) (by omega) x
    have h2 : x <<< 8 ||| a.toNat = x <<< 8 ^^^ a.toNat := by
      apply Nat.eq_of_testBit_eq
      intro i
      rw [Nat.testBit_or, Nat.testBit_xor, Nat.testBit_shiftLeft]
      by_cases hi : 8 ≤ i
      · have : a.toNat.testBit i = false := Nat.testBit_lt_two_pow (Nat.lt_of_lt_of_le h1 (Nat.pow_le_pow_right (by omega) hi))
        simp [this]
      · simp [hi]
    rw [Nat.shiftLeft_eq] at h h2
    rw [show x * 256 = x * 2 ^ 8 from rfl, ← h2, ← h]
  rw [e]
  omega
theorem four_zero (a b c d : UInt8) (h : four a b c d = 0) : a = 0 ∧ b = 0 ∧ c = 0 ∧ d = 0 := by
  unfold four at h
  obtain ⟨l1, l2⟩ := low_xor (b.toNat ^^^ (c.toNat ^^^ d.toNat * 256) * 256) a
  obtain ⟨m1, m2⟩ := low_xor (c.toNat ^^^ d.toNat * 256) b
  obtain ⟨n1, n2⟩ := low_xor d.toNat c
  rw [h] at l1 l2
  have e2 : b.toNat ^^^ (c.toNat ^^^ d.toNat * 256) * 256 = 0 := by omega
  rw [e2] at m1 m2
  have e3 : c.toNat ^^^ d.toNat * 256 = 0 := by omega
  rw [e3] at n1 n2
  have z : ∀ x : UInt8, x.toNat = 0 → x = 0 := fun x hx => UInt8.toNat_inj.1 hx
  exact ⟨z a (by omega), z b (by omega), z c (by omega), z d (by omega)⟩
/-- P2.2: of two texts that differ in four neighbouring bytes the sums differ -/
theorem tells (r : Nat) (hr : r < 2 ^ 32) (P S : List UInt8) (a b c d a' b' c' d' : UInt8) (h : reg r (P ++ [a ^^^ a', b ^^^ b', c ^^^ c', d ^^^ d'] ++ S) = reg r (P ++ [a, b, c, d] ++ S)) :
    a' = 0 ∧ b' = 0 ∧ c' = 0 ∧ d' = 0 := by
  simp only [reg_append] at h
  have hP := reg_lt P r hr
  have h2 := reg_inj S _ _ (reg_lt _ _ hP) (reg_lt _ _ hP) h
  rw [reg_four, reg_four] at h2
  have h3 := steps_inj 32 _ _ (Nat.xor_lt_two_pow hP (four_lt _ _ _ _)) (Nat.xor_lt_two_pow hP (four_lt _ _ _ _)) h2
  apply four_zero
  rw [four_xor, ← Nat.xor_assoc] at h3
  apply xor_zero_iff (y := 0)
  rw [Nat.xor_zero]
  have h4 : reg r P ^^^ four a b c d ^^^ (reg r P ^^^ four a b c d ^^^ four a' b' c' d') = 0 := by rw [h3, Nat.xor_self]
  rwa [← Nat.xor_assoc, Nat.xor_self, Nat.zero_xor] at h4
/-- P2.2: the sum goes on -/
theorem on_append (s : Nat) (hs : s ≤ 4294967295) (l k : List UInt8) : on (on s l) k = on s (l ++ k) := by
  unfold on
  have h := reg_lt l (4294967295 - s) (by omega)
  rw [reg_append, show 4294967295 - (4294967295 - reg (4294967295 - s) l) = reg (4294967295 - s) l from by omega]
end Crc
end Go.Proofs.Ytjgndgcegenikaa
