/-
  Contracts of crc.step, crc.onByte, crc.On, crc.Sum (package crc): what each call answers; memory stays as it is. No conditions but the numbers' ranges.
-/
import Derived.Test.YtnhnfabgofncaaaProg
import Derived.Test.YtnhnfabgofncaaaCrcHelp
import Derived.WalkKit
import Derived.Lib.Hide
import Derived.KernelRfl
import Derived.Laws.Bits64
namespace Go.Proofs.Ytnhnfabgofncaaa
open Go.RowKit
theorem step_ok (r : Nat) (h : r < 4294967296) (w : World) : Calls Try.prog 50 #[.int .u32 r] w fun e w' => e = .returned (.int .u32 (Crc.step r)) ∧ w = w' := by
  by_cases hr : r % 2 = 1
  · have d : ((r : Int) % 2 == 1) = true := by rw [beq_iff_eq]; omega
    have HS : Hid (Crc.step r = (r / 2) ^^^ 3988292384) := Lib.hid (by unfold Crc.step; rw [if_pos hr])
    have hb := bits_xor_u32_nat (r / 2) 3988292384 (by omega) (by omega)
    have HB := Lib.hid hb
    clear hb hr
    go_enter Try.func50, Try.ntmps50
    go_wp2
    go_ret
    refine ⟨?_, rfl⟩
    rw [HS.out, ← HB.out]
    rfl
  · have d : ((r : Int) % 2 == 1) = false := by rw [beq_eq_false_iff_ne]; omega
    have HS : Hid (Crc.step r = (r / 2)) := Lib.hid (by unfold Crc.step; rw [if_neg hr])
    clear hr
    go_enter Try.func50, Try.ntmps50
    go_wp2
    go_ret
    refine ⟨?_, rfl⟩
    rw [HS.out]
    rfl
theorem onByte_ok (r : Nat) (h : r < 4294967296) (b : UInt8) (w : World) : Calls Try.prog 42 #[.int .u32 r, .int .u8 b.toNat] w fun e w' => e = .returned (.int .u32 (Crc.byte r b)) ∧ w = w' := by
  have hb8 := b.toNat_lt
  have hx : r ^^^ b.toNat < 2 ^ 32 := Nat.xor_lt_two_pow (by omega) (by omega)
  have HX := Lib.hid (bits_xor_u32_nat r b.toNat (by omega) (by omega))
  have HC := Lib.hid (conv_u8_u32 b)
  have HL := Lib.hid (fun k => Crc.steps_lt k (r ^^^ b.toNat) hx)
  clear hx
  go_enter Try.func42, Try.ntmps42
  go_wp2
  go_loop [0, 9] (fun v i => ∃ k : Nat, k ≤ 8 ∧ i = .int .i64 k ∧ v = .int .u32 (Crc.steps k (r ^^^ b.toNat))) (fun _ i => 8 - (intOf i).toNat)
  case atStart =>
    refine ⟨0, by omega, rfl, ?_⟩
    first | (rw [HC.out, HX.out]; rfl) | (rw [HX.out]; rfl)
  case round =>
    obtain ⟨k, hk, rfl, rfl⟩ := hrel
    have hlt := HL.out k
    by_cases h8 : k < 8
    · have HS := Lib.hid (steps_snoc k (r ^^^ b.toNat))
      go_wp2_with (go_at_call 50; refine (step_ok _ (by omega) _).mono ?_; rintro e w' ⟨rfl, rfl⟩)
      go_round
      case rel => exact ⟨k + 1, by omega, by go_num, by rw [HS.out]⟩
      case measure => simp [intOf]; omega
    · obtain rfl : k = 8 := by omega
      go_wp2
      go_ret
      exact ⟨rfl, rfl⟩
theorem on_ok (c : Nat) (hc : c < 4294967296) (s : ByteArray) (hs : s.size ≤ 9223372036854775807) (w : World) : Calls Try.prog 36 #[.int .u32 c, .string s] w fun e w' => e = .returned (.int .u32 (Crc.on c s.data.toList)) ∧ w = w' := by
  have HN := Lib.hid (bits_not_u32 c hc)
  have HL := Lib.hid (fun l => Crc.reg_lt l (4294967295 - c) (by omega))
  go_enter Try.func36, Try.ntmps36
  go_wp2
  go_loop [5, 11] (fun v i => ∃ k : Nat, k ≤ s.size ∧ i = .int .i64 k ∧ v = .int .u32 (Crc.reg (4294967295 - c) (s.data.toList.take k))) (fun _ i => s.size - (intOf i).toNat)
  case atStart =>
    refine ⟨0, by omega, rfl, ?_⟩
    rw [HN.out]; rfl
  case round =>
    obtain ⟨k, hk, rfl, rfl⟩ := hrel
    have hlt := HL.out (s.data.toList.take k)
    by_cases h8 : k < s.size
    · have HS := Lib.hid (reg_take (4294967295 - c) s k h8)
      go_wp2_with (go_at_call 42; refine (onByte_ok _ (by omega) _ _).mono ?_; rintro e w' ⟨rfl, rfl⟩)
      go_round
      case rel => exact ⟨k + 1, by omega, by go_num, by rw [HS.out]⟩
      case measure => simp [intOf]; omega
    · obtain rfl : k = s.size := by omega
      have HE := Lib.hid (bits_not_u32 _ hlt)
      go_wp2
      go_ret
      refine ⟨?_, rfl⟩
      rw [HE.out, List.take_of_length_le (by simp)]
      rfl
theorem sum_ok (s : ByteArray) (hs : s.size ≤ 9223372036854775807) (w : World) : Calls Try.prog 26 #[.string s] w fun e w' => e = .returned (.int .u32 (Crc.on 0 s.data.toList)) ∧ w = w' := by
  go_enter Try.func26, Try.ntmps26
  go_wp2_with (go_at_call 36; refine (on_ok 0 (by omega) s hs _).mono ?_; rintro e w' ⟨rfl, rfl⟩)
  go_ret
  exact ⟨rfl, rfl⟩
end Go.Proofs.Ytnhnfabgofncaaa
