/-
  Plain laws of no statement: the register's numbers in the spelling of a walk (xor, complement, shifts by one). No conditions but the numbers' ranges.
-/
import Derived.Test.YtnhnfabgofncaaaProg
import Derived.Test.YtnhnfabgofncaaaCrcPlain
import Derived.WalkKit
import Derived.Lib.Hide
import Derived.KernelRfl
import Derived.Laws.Bits64
namespace Go.Proofs.Ytnhnfabgofncaaa
open Go.RowKit
theorem wrap_u32n (n : Int) : IntKind.u32.wrap n = n % 4294967296 := by simp [IntKind.wrap, IntKind.bits, IntKind.signed]
theorem bits_xor_u32_nat (a b : Nat) (ha : a < 4294967296) (hb : b < 4294967296) : bits .xor .u32 (a : Int) (b : Int) = ((a ^^^ b : Nat) : Int) := by
  have hx : a ^^^ b < 2 ^ 32 := Nat.xor_lt_two_pow (by omega) (by omega)
  have h1 : (BitVec.ofInt 32 (a : Int)).toNat = a := by
    rw [BitVec.ofInt_natCast, BitVec.toNat_ofNat]; exact Nat.mod_eq_of_lt (by omega)
  have h2 : (BitVec.ofInt 32 (b : Int)).toNat = b := by
    rw [BitVec.ofInt_natCast, BitVec.toNat_ofNat]; exact Nat.mod_eq_of_lt (by omega)
  show IntKind.u32.wrap ((BitVec.ofInt 32 (a : Int) ^^^ BitVec.ofInt 32 (b : Int)).toNat : Int) = _
  rw [BitVec.toNat_xor, h1, h2, wrap_u32n]
  omega
theorem steps_snoc (k r : Nat) : Crc.steps (k + 1) r = Crc.step (Crc.steps k r) := by
  rw [Crc.steps_add]; rfl
theorem conv_u8_u32 (b : UInt8) : IntKind.u32.wrap (b.toNat : Int) = (b.toNat : Int) := by
  have := b.toNat_lt
  rw [wrap_u32n]; omega
theorem bits_not_u32 (x : Nat) (h : x < 4294967296) : bits .xor .u32 IntKind.u32.max (x : Int) = ((4294967295 - x : Nat) : Int) := by
  have e : IntKind.u32.max = ((4294967295 : Nat) : Int) := by decide
  rw [e, bits_xor_u32_nat _ _ (by omega) h]
  have h2 : (4294967295 : Nat) ^^^ x = 4294967295 - x := by
    have := congrArg BitVec.toNat (BitVec.allOnes_xor (x := BitVec.ofNat 32 x))
    rw [BitVec.toNat_xor, BitVec.toNat_not, BitVec.toNat_allOnes, BitVec.toNat_ofNat, Nat.mod_eq_of_lt (by omega)] at this
    simpa using this
  rw [h2]
theorem reg_take (r : Nat) (s : ByteArray) (k : Nat) (h : k < s.size) : Crc.reg r (s.data.toList.take (k + 1)) = Crc.byte (Crc.reg r (s.data.toList.take k)) s[k] := by
  rw [List.take_succ_eq_append_getElem (by simpa using h), Crc.reg_append]
  rfl
theorem sub_u32 (x : Nat) (h : x < 4294967296) : (4294967295 : Int) - (x : Int) = ((4294967295 - x : Nat) : Int) := by
  omega
theorem step_xor_form (x : Nat) (h : x % 2 = 1) (hx : x < 4294967296) : bits .xor .u32 ((x : Int) / 2) 3988292384 = ((Crc.step x : Nat) : Int) := by
  have := bits_xor_u32_nat (x / 2) 3988292384 (by omega) (by omega)
  unfold Crc.step
  rw [if_pos h, ← this]
  rfl
theorem conv_u8_mod (b : UInt8) : (b.toNat : Int) % 4294967296 = (b.toNat : Int) := by
  have := b.toNat_lt
  omega
theorem awake_sum : Crc.on 0 [49, 50, 51, 52, 53, 54, 55, 56, 57] = 3421780262 := by decide +kernel
end Go.Proofs.Ytnhnfabgofncaaa
