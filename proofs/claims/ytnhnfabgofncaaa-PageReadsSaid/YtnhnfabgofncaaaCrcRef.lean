/-
  Contracts of the reference's On and Sum (rollbookref02): what each call answers; memory stays as it is. No conditions but the numbers' ranges.
-/
import Derived.Test.YtnhnfabgofncaaaProg
import Derived.Test.YtnhnfabgofncaaaCrcHelp
import Derived.WalkKit
import Derived.Lib.Hide
import Derived.KernelRfl
import Derived.Laws.Bits64
namespace Go.Proofs.Ytnhnfabgofncaaa
open Go.RowKit
theorem ron_ok (c : Nat) (hc : c < 4294967296) (s : ByteArray) (hs : s.size ≤ 9223372036854775807) (w : World) : Calls Try.prog 37 #[.int .u32 c, .string s] w fun e w' => e = .returned (.int .u32 (Crc.on c s.data.toList)) ∧ w = w' := by
  have HN := Lib.hid (sub_u32 c hc)
  have HL := Lib.hid (fun l => Crc.reg_lt l (4294967295 - c) (by omega))
  go_enter Try.func37, Try.ntmps37
  go_wp2
  go_loop [5, 6] (fun v i => ∃ k : Nat, k ≤ s.size ∧ i = .int .i64 k ∧ v = .int .u32 (Crc.reg (4294967295 - c) (s.data.toList.take k))) (fun _ i => s.size - (intOf i).toNat)
  case atStart =>
    refine ⟨0, by omega, rfl, ?_⟩
    rw [HN.out]; rfl
  case round =>
    obtain ⟨k, hk, rfl, rfl⟩ := hrel
    have hlt := HL.out (s.data.toList.take k)
    by_cases h8 : k < s.size
    · have HS := Lib.hid (reg_take (4294967295 - c) s k h8)
      have hx : Crc.reg (4294967295 - c) (s.data.toList.take k) ^^^ s[k].toNat < 2 ^ 32 := Nat.xor_lt_two_pow (by omega) (by have := s[k].toNat_lt; omega)
      have HX := Lib.hid (bits_xor_u32_nat (Crc.reg (4294967295 - c) (s.data.toList.take k)) s[k].toNat (by omega) (by have := s[k].toNat_lt; omega))
      have HC := Lib.hid (conv_u8_mod s[k])
      have HR := Lib.hid (fun j => Crc.steps_lt j (Crc.reg (4294967295 - c) (s.data.toList.take k) ^^^ s[k].toNat) hx)
      clear hx hlt
      go_wp2
      go_loop [5, 7] (fun v i => ∃ j : Nat, j ≤ 8 ∧ i = .int .i64 j ∧ v = .int .u32 (Crc.steps j (Crc.reg (4294967295 - c) (s.data.toList.take k) ^^^ s[k].toNat))) (fun _ i => 8 - (intOf i).toNat)
      case atStart =>
        refine ⟨0, by omega, rfl, ?_⟩
        first | (rw [HC.out, HX.out]; rfl) | (rw [HX.out]; rfl)
      case round =>
        obtain ⟨j, hj, rfl, rfl⟩ := hrel
        have hjl := HR.out j
        by_cases h9 : j < 8
        · have HT := Lib.hid (steps_snoc j (Crc.reg (4294967295 - c) (s.data.toList.take k) ^^^ s[k].toNat))
          obtain ⟨X, hX⟩ : ∃ X, Crc.steps j (Crc.reg (4294967295 - c) (s.data.toList.take k) ^^^ s[k].toNat) = X := ⟨_, rfl⟩
          rw [hX] at hjl HT ⊢
          by_cases ho : X % 2 = 1
          · have d : ((X : Int) % 2 == 1) = true := by rw [beq_iff_eq]; omega
            have HF := Lib.hid (step_xor_form X ho (by omega))
            clear hX ho
            go_wp2
            go_round
            case rel => exact ⟨j + 1, by omega, by go_num, by rw [HT.out, HF.out]⟩
            case measure => simp [intOf]; omega
          · have d : ((X : Int) % 2 == 1) = false := by rw [beq_eq_false_iff_ne]; omega
            have HF := Lib.hid (show Crc.step X = X / 2 by unfold Crc.step; rw [if_neg ho])
            clear hX ho
            go_wp2
            go_round
            case rel => exact ⟨j + 1, by omega, by go_num, by rw [HT.out, HF.out]; rfl⟩
            case measure => simp [intOf]; omega
        · obtain rfl : j = 8 := by omega
          go_wp2
          go_round
          case rel => exact ⟨k + 1, by omega, by go_num, by rw [HS.out]; rfl⟩
          case measure => simp [intOf]; omega
    · obtain rfl : k = s.size := by omega
      have HE := Lib.hid (sub_u32 _ hlt)
      go_wp2
      go_ret
      refine ⟨?_, rfl⟩
      rw [HE.out, List.take_of_length_le (by simp)]
      rfl
theorem rsum_ok (s : ByteArray) (hs : s.size ≤ 9223372036854775807) (w : World) : Calls Try.prog 27 #[.string s] w fun e w' => e = .returned (.int .u32 (Crc.on 0 s.data.toList)) ∧ w = w' := by
  go_enter Try.func27, Try.ntmps27
  go_wp2_with (go_at_call 37; refine (ron_ok 0 (by omega) s hs _).mono ?_; rintro e w' ⟨rfl, rfl⟩)
  go_ret
  exact ⟨rfl, rfl⟩
end Go.Proofs.Ytnhnfabgofncaaa
