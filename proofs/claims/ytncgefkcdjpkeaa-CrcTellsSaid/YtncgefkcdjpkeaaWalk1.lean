/-
  Contracts of crc.step, crc.onByte, crc.On, crc.Sum and of the reference's On and Sum (packages crc, rollbookref02): what each call answers; memory stays as it is. No conditions but the numbers' ranges.
-/
import Derived.Test.YtncgefkcdjpkeaaProg
import Derived.Test.YtncgefkcdjpkeaaCrcPlain
import Derived.WalkKit
import Derived.Lib.Hide
import Derived.KernelRfl
import Derived.Laws.Bits64
namespace Go.Proofs.Ytncgefkcdjpkeaa
open Go.RowKit
theorem wrap_u32n (n : Int) : IntKind.u32.wrap n = n % 4294967296 := by simp [IntKind.wrap, IntKind.bits, IntKind.signed]
theorem bits_xor_u32_nat (a b : Nat) (ha : a < 4294967296) (hb : b < 4294967296) : bits .xor .u32 (a : Int) (b : Int) = ((a ^^^ b : Nat) : Int) := by
  have hx : a ^^^ b < 2 ^ 32 := Nat.xor_lt_two_pow (by omega) (by omega)
  have h1 : (BitVec.ofInt 32 (a : Int)).toNat = a := by
    rw [BitVec.ofInt_natCast, BitVec.toNat_ofNat]; exact Nat.mod_eq_of_lt (by omega)
  have h2 : (BitVec.ofInt 32 (b : Int)).toNat = b := by
    rw [BitVec.ofInt_natCast, BitVec.toNat_ofNat]; exact Nat.mod_eq_of_lt (by omega)
  show IntKind.u32.wrap ((BitVec.ofInt 32 (a : Int) ^^^ BitVec.ofInt 32 (b : Int)).toNat : Int) = _
  rw [BitVec.toNat_xor, h1, h2, wrap_u32n]
  omega
theorem step_ok (r : Nat) (h : r < 4294967296) (w : World) : Calls Try.prog 12 #[.int .u32 r] w fun e w' => e = .returned (.int .u32 (Crc.step r)) ∧ w = w' := by
  by_cases hr : r % 2 = 1
  · have d : ((r : Int) % 2 == 1) = true := by rw [beq_iff_eq]; omega
    have HS : Hid (Crc.step r = (r / 2) ^^^ 3988292384) := Lib.hid (by unfold Crc.step; rw [if_pos hr])
    have hb := bits_xor_u32_nat (r / 2) 3988292384 (by omega) (by omega)
    have HB := Lib.hid hb
    clear hb hr
    go_enter Try.func12, Try.ntmps12
    go_wp2
    go_ret
    refine ⟨?_, rfl⟩
    rw [HS.out, ← HB.out]
    rfl
  · have d : ((r : Int) % 2 == 1) = false := by rw [beq_eq_false_iff_ne]; omega
    have HS : Hid (Crc.step r = (r / 2)) := Lib.hid (by unfold Crc.step; rw [if_neg hr])
    clear hr
    go_enter Try.func12, Try.ntmps12
    go_wp2
    go_ret
    refine ⟨?_, rfl⟩
    rw [HS.out]
    rfl

theorem steps_snoc (k r : Nat) : Crc.steps (k + 1) r = Crc.step (Crc.steps k r) := by
  rw [Crc.steps_add]; rfl
theorem conv_u8_u32 (b : UInt8) : IntKind.u32.wrap (b.toNat : Int) = (b.toNat : Int) := by
  have := b.toNat_lt
  rw [wrap_u32n]; omega
theorem onByte_ok (r : Nat) (h : r < 4294967296) (b : UInt8) (w : World) : Calls Try.prog 11 #[.int .u32 r, .int .u8 b.toNat] w fun e w' => e = .returned (.int .u32 (Crc.byte r b)) ∧ w = w' := by
  have hb8 := b.toNat_lt
  have hx : r ^^^ b.toNat < 2 ^ 32 := Nat.xor_lt_two_pow (by omega) (by omega)
  have HX := Lib.hid (bits_xor_u32_nat r b.toNat (by omega) (by omega))
  have HC := Lib.hid (conv_u8_u32 b)
  have HL := Lib.hid (fun k => Crc.steps_lt k (r ^^^ b.toNat) hx)
  clear hx
  go_enter Try.func11, Try.ntmps11
  go_wp2
  go_loop [0, 9] (fun v i => ∃ k : Nat, k ≤ 8 ∧ i = .int .i64 k ∧ v = .int .u32 (Crc.steps k (r ^^^ b.toNat))) (fun _ i => 8 - (intOf i).toNat)
  case atStart =>
    refine ⟨0, by omega, rfl, ?_⟩
    first | (rw [HC.out, HX.out]; rfl) | (rw [HX.out]; rfl)
  case round =>
    obtain ⟨k, hk, rfl, rfl⟩ := hrel
    have hlt := HL.out k
    by_cases h8 : k < 8
    · have HS := Lib.hid (steps_snoc k (r ^^^ b.toNat))
      go_wp2_with (go_at_call 12; refine (step_ok _ (by omega) _).mono ?_; rintro e w' ⟨rfl, rfl⟩)
      go_round
      case rel => exact ⟨k + 1, by omega, by go_num, by rw [HS.out]⟩
      case measure => simp [intOf]; omega
    · obtain rfl : k = 8 := by omega
      go_wp2
      go_ret
      exact ⟨rfl, rfl⟩

theorem bits_not_u32 (x : Nat) (h : x < 4294967296) : bits .xor .u32 IntKind.u32.max (x : Int) = ((4294967295 - x : Nat) : Int) := by
  have e : IntKind.u32.max = ((4294967295 : Nat) : Int) := by decide
  rw [e, bits_xor_u32_nat _ _ (by omega) h]
  have h2 : (4294967295 : Nat) ^^^ x = 4294967295 - x := by
    have := congrArg BitVec.toNat (BitVec.allOnes_xor (x := BitVec.ofNat 32 x))
    rw [BitVec.toNat_xor, BitVec.toNat_not, BitVec.toNat_allOnes, BitVec.toNat_ofNat, Nat.mod_eq_of_lt (by omega)] at this
    simpa using this
  rw [h2]
theorem reg_take (r : Nat) (s : ByteArray) (k : Nat) (h : k < s.size) : Crc.reg r (s.data.toList.take (k + 1)) = Crc.byte (Crc.reg r (s.data.toList.take k)) s[k] := by
  rw [List.take_succ_eq_append_getElem (by simpa using h), Crc.reg_append]
  rfl
theorem on_ok (c : Nat) (hc : c < 4294967296) (s : ByteArray) (hs : s.size ≤ 9223372036854775807) (w : World) : Calls Try.prog 7 #[.int .u32 c, .string s] w fun e w' => e = .returned (.int .u32 (Crc.on c s.data.toList)) ∧ w = w' := by
  have HN := Lib.hid (bits_not_u32 c hc)
  have HL := Lib.hid (fun l => Crc.reg_lt l (4294967295 - c) (by omega))
  go_enter Try.func7, Try.ntmps7
  go_wp2
  go_loop [5, 11] (fun v i => ∃ k : Nat, k ≤ s.size ∧ i = .int .i64 k ∧ v = .int .u32 (Crc.reg (4294967295 - c) (s.data.toList.take k))) (fun _ i => s.size - (intOf i).toNat)
  case atStart =>
    refine ⟨0, by omega, rfl, ?_⟩
    rw [HN.out]; rfl
  case round =>
    obtain ⟨k, hk, rfl, rfl⟩ := hrel
    have hlt := HL.out (s.data.toList.take k)
    by_cases h8 : k < s.size
    · have HS := Lib.hid (reg_take (4294967295 - c) s k h8)
      go_wp2_with (go_at_call 11; refine (onByte_ok _ (by omega) _ _).mono ?_; rintro e w' ⟨rfl, rfl⟩)
      go_round
      case rel => exact ⟨k + 1, by omega, by go_num, by rw [HS.out]⟩
      case measure => simp [intOf]; omega
    · obtain rfl : k = s.size := by omega
      have HE := Lib.hid (bits_not_u32 _ hlt)
      go_wp2
      go_ret
      refine ⟨?_, rfl⟩
      rw [HE.out, List.take_of_length_le (by simp)]
      rfl
theorem sum_ok (s : ByteArray) (hs : s.size ≤ 9223372036854775807) (w : World) : Calls Try.prog 9 #[.string s] w fun e w' => e = .returned (.int .u32 (Crc.on 0 s.data.toList)) ∧ w = w' := by
  go_enter Try.func9, Try.ntmps9
  go_wp2_with (go_at_call 7; refine (on_ok 0 (by omega) s hs _).mono ?_; rintro e w' ⟨rfl, rfl⟩)
  go_ret
  exact ⟨rfl, rfl⟩
theorem sub_u32 (x : Nat) (h : x < 4294967296) : (4294967295 : Int) - (x : Int) = ((4294967295 - x : Nat) : Int) := by
  omega
theorem step_xor_form (x : Nat) (h : x % 2 = 1) (hx : x < 4294967296) : bits .xor .u32 ((x : Int) / 2) 3988292384 = ((Crc.step x : Nat) : Int) := by
  have := bits_xor_u32_nat (x / 2) 3988292384 (by omega) (by omega)
  unfold Crc.step
  rw [if_pos h, ← this]
  rfl
theorem conv_u8_mod (b : UInt8) : (b.toNat : Int) % 4294967296 = (b.toNat : Int) := by
  have := b.toNat_lt
  omega
theorem ron_ok (c : Nat) (hc : c < 4294967296) (s : ByteArray) (hs : s.size ≤ 9223372036854775807) (w : World) : Calls Try.prog 8 #[.int .u32 c, .string s] w fun e w' => e = .returned (.int .u32 (Crc.on c s.data.toList)) ∧ w = w' := by
  have HN := Lib.hid (sub_u32 c hc)
  have HL := Lib.hid (fun l => Crc.reg_lt l (4294967295 - c) (by omega))
  go_enter Try.func8, Try.ntmps8
  go_wp2
  go_loop [5, 6] (fun v i => ∃ k : Nat, k ≤ s.size ∧ i = .int .i64 k ∧ v = .int .u32 (Crc.reg (4294967295 - c) (s.data.toList.take k))) (fun _ i => s.size - (intOf i).toNat)
  case atStart =>
    refine ⟨0, by omega, rfl, ?_⟩
    rw [HN.out]; rfl
  case round =>
    obtain ⟨k, hk, rfl, rfl⟩ := hrel
    have hlt := HL.out (s.data.toList.take k)
    by_cases h8 : k < s.size
    · have HS := Lib.hid (reg_take (4294967295 - c) s k h8)
      have hx : Crc.reg (4294967295 - c) (s.data.toList.take k) ^^^ s[k].toNat < 2 ^ 32 := Nat.xor_lt_two_pow (by omega) (by have := s[k].toNat_lt; omega)
      have HX := Lib.hid (bits_xor_u32_nat (Crc.reg (4294967295 - c) (s.data.toList.take k)) s[k].toNat (by omega) (by have := s[k].toNat_lt; omega))
      have HC := Lib.hid (conv_u8_mod s[k])
      have HR := Lib.hid (fun j => Crc.steps_lt j (Crc.reg (4294967295 - c) (s.data.toList.take k) ^^^ s[k].toNat) hx)
      clear hx hlt
      go_wp2
      go_loop [5, 7] (fun v i => ∃ j : Nat, j ≤ 8 ∧ i = .int .i64 j ∧ v = .int .u32 (Crc.steps j (Crc.reg (4294967295 - c) (s.data.toList.take k) ^^^ s[k].toNat))) (fun _ i => 8 - (intOf i).toNat)
      case atStart =>
        refine ⟨0, by omega, rfl, ?_⟩
        first | (rw [HC.out, HX.out]; rfl) | (rw [HX.out]; rfl)
      case round =>
        obtain ⟨j, hj, rfl, rfl⟩ := hrel
        have hjl := HR.out j
        by_cases h9 : j < 8
        · have HT := Lib.hid (steps_snoc j (Crc.reg (4294967295 - c) (s.data.toList.take k) ^^^ s[k].toNat))
          obtain ⟨X, hX⟩ : ∃ X, Crc.steps j (Crc.reg (4294967295 - c) (s.data.toList.take k) ^^^ s[k].toNat) = X := ⟨_, rfl⟩
          rw [hX] at hjl HT ⊢
          by_cases ho : X % 2 = 1
          · have d : ((X : Int) % 2 == 1) = true := by rw [beq_iff_eq]; omega
            have HF := Lib.hid (step_xor_form X ho (by omega))
            clear hX ho
            go_wp2
            go_round
            case rel => exact ⟨j + 1, by omega, by go_num, by rw [HT.out, HF.out]⟩
            case measure => simp [intOf]; omega
          · have d : ((X : Int) % 2 == 1) = false := by rw [beq_eq_false_iff_ne]; omega
            have HF := Lib.hid (show Crc.step X = X / 2 by unfold Crc.step; rw [if_neg ho])
            clear hX ho
            go_wp2
            go_round
            case rel => exact ⟨j + 1, by omega, by go_num, by rw [HT.out, HF.out]; rfl⟩
            case measure => simp [intOf]; omega
        · obtain rfl : j = 8 := by omega
          go_wp2
          go_round
          case rel => exact ⟨k + 1, by omega, by go_num, by rw [HS.out]; rfl⟩
          case measure => simp [intOf]; omega
    · obtain rfl : k = s.size := by omega
      have HE := Lib.hid (sub_u32 _ hlt)
      go_wp2
      go_ret
      refine ⟨?_, rfl⟩
      rw [HE.out, List.take_of_length_le (by simp)]
      rfl
theorem rsum_ok (s : ByteArray) (hs : s.size ≤ 9223372036854775807) (w : World) : Calls Try.prog 10 #[.string s] w fun e w' => e = .returned (.int .u32 (Crc.on 0 s.data.toList)) ∧ w = w' := by
  go_enter Try.func10, Try.ntmps10
  go_wp2_with (go_at_call 8; refine (ron_ok 0 (by omega) s hs _).mono ?_; rintro e w' ⟨rfl, rfl⟩)
  go_ret
  exact ⟨rfl, rfl⟩
theorem awake_sum : Crc.on 0 [49, 50, 51, 52, 53, 54, 55, 56, 57] = 3421780262 := by decide +kernel
theorem awake_any (w : World) : Calls Try.prog 6 #[] w fun e w' => e = .returned (.bool true) ∧ w = w' := by
  have c1 := fun w => Lib.hid (sum_ok ⟨#[49, 50, 51, 52, 53, 54, 55, 56, 57]⟩ (by decide) w)
  have c2 := fun w => Lib.hid (sum_ok ⟨#[]⟩ (by decide) w)
  have e1 : ((Crc.on 0 [49, 50, 51, 52, 53, 54, 55, 56, 57] : Nat) : Int) = 3421780262 := by rw [awake_sum]; rfl
  go_enter Try.func6, Try.ntmps6
  go_wp2_with fail
  refine (c1 _).out.mono ?_
  rintro e w' ⟨rfl, rfl⟩
  go_wp2_with fail
  refine (c2 _).out.mono ?_
  rintro e w' ⟨rfl, rfl⟩
  go_wp2
  go_ret
  exact ⟨rfl, rfl⟩
end Go.Proofs.Ytncgefkcdjpkeaa
