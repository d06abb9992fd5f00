/-
  Contracts of the statements' helpers turned and mixed (rollbooklaw04): four neighbouring bytes turned; are some of them the sum's, and others not. No conditions but those typed.
-/
import Derived.Test.YtnhnfabgofncaaaPageNewestW
import Derived.Test.YtnhnfabgofncaaaTurned
import Derived.RegionTactic
import Derived.IntWalk
namespace Go.Proofs.Ytnhnfabgofncaaa
open Go.RowKit
theorem bits_xor_u8_nat (a b : UInt8) : bits .xor .u8 (a.toNat : Int) (b.toNat : Int) = ((a ^^^ b).toNat : Int) := by
  have ha := a.toNat_lt
  have hb := b.toNat_lt
  have hx : a.toNat ^^^ b.toNat < 2 ^ 8 := Nat.xor_lt_two_pow (by omega) (by omega)
  have h1 : (BitVec.ofInt 8 (a.toNat : Int)).toNat = a.toNat := by
    rw [BitVec.ofInt_natCast, BitVec.toNat_ofNat]; exact Nat.mod_eq_of_lt (by omega)
  have h2 : (BitVec.ofInt 8 (b.toNat : Int)).toNat = b.toNat := by
    rw [BitVec.ofInt_natCast, BitVec.toNat_ofNat]; exact Nat.mod_eq_of_lt (by omega)
  show IntKind.u8.wrap ((BitVec.ofInt 8 (a.toNat : Int) ^^^ BitVec.ofInt 8 (b.toNat : Int)).toNat : Int) = _
  rw [BitVec.toNat_xor, h1, h2, UInt8.toNat_xor]
  simp only [IntKind.wrap, IntKind.bits, IntKind.signed]
  simp
  omega
theorem turned_byte (b : UInt8) (y k : Nat) : bits .xor .u8 (b.toNat : Int) ((y : Int) / 2 ^ (8 * k) % 256) = ((b ^^^ UInt8.ofNat (y / 2 ^ (8 * k))).toNat : Int) := by
  rw [← bits_xor_u8_nat]
  congr 1
/-- the place that is turned -/
def turnAt (at_ : Int) (n : Nat) : Nat := (IntKind.u64.wrap at_).toNat % (n - 3)
theorem turnAt_le (at_ : Int) (n : Nat) (h : 4 ≤ n) : turnAt at_ n + 4 ≤ n := by
  unfold turnAt
  have := Nat.mod_lt (IntKind.u64.wrap at_).toNat (show 0 < n - 3 by omega)
  omega
theorem u64_nonneg (x : Int) : 0 ≤ IntKind.u64.wrap x := by
  simp only [IntKind.wrap, IntKind.bits, IntKind.signed]
  simp
  omega
set_option maxHeartbeats 400000 in
theorem turned15 (s : ByteArray) (h4 : 4 ≤ s.size) (hs : s.size ≤ 2000) (at_ : Int) (y : Nat) (w : World) :
    Calls Try.prog 15 #[.string s, .int .i64 at_, .int .u32 y] w fun e w' => e = .returned (.string (ba (Crc.turn s.data.toList (turnAt at_ s.size) y 4))) ∧ Below w.heap.size w w' := by
  have kc := fun (w : World) => Lib.run_convert_string_bytes (P := Try.prog) w 9 57 5 s Try.underlying9 Try.underlying57 Try.underlying5
  have hp := turnAt_le at_ s.size h4
  obtain ⟨A, hA⟩ := Int.eq_ofNat_of_zero_le (u64_nonneg at_)
  have hAt : turnAt at_ s.size = A % (s.size - 3) := by unfold turnAt; rw [hA]; rfl
  obtain ⟨m, hm⟩ : ∃ m : Nat, s.size - 3 = m := ⟨_, rfl⟩
  rw [hm] at hAt
  obtain ⟨p, hpp⟩ : ∃ p, turnAt at_ s.size = p := ⟨_, rfl⟩
  rw [hpp] at hp hAt ⊢
  have r1 : (s.size : Int) - 3 = (m : Int) := by omega
  have r2 : IntKind.u64.wrap (m : Int) = (m : Int) := by simp only [IntKind.wrap, IntKind.bits, IntKind.signed]; simp; omega
  have r3 : Int.tmod (A : Int) (m : Int) = (p : Int) := by rw [hAt]; rfl
  have r4 : IntKind.i64.wrap (p : Int) = (p : Int) := IntWalk.i64_in _ (by omega)
  have r5 : ¬ (m : Int) = 0 := by omega
  clear hAt hpp
  go_enter Try.func15, Try.ntmps15
  go_wp2
  clear r1 r2 r3 r4 r5 hA hm
  go_loopw [8] (fun i wr => ∃ k : Nat, k ≤ 4 ∧ i = .int .i64 k ∧ OwnB wr w.heap.size 5 (.slice (some ⟨w.heap.size, 0, none⟩) s.size (grownCap w s.size 0 5)) (Crc.turn s.data.toList p y k) ∧ Below w.heap.size w wr) (fun i _ => 4 - (intOf i).toNat)
  case atStart =>
    exact ⟨0, by omega, rfl, OwnB.conv _ _ _ _ (Nat.le_refl _) (by simp only [maxLen]; omega), below_conv _ _ _⟩
  case round =>
    obtain ⟨k, hk, rfl, hown, hbel⟩ := hrel
    by_cases h4 : k < 4
    · have hlen := Crc.turn_length s.data.toList p y k
      have hl2 : s.data.toList.length = s.size := by rw [Array.length_toList]; rfl
      obtain ⟨b, HB, hc⟩ : ∃ b : UInt8, Hid ((Crc.turn s.data.toList p y k).getD (p + k) 0 = b) ∧ wr.cell? ⟨w.heap.size, p + k, none⟩ = some (.int .u8 b.toNat) :=
        have hj : p + k < (Crc.turn s.data.toList p y k).length := by omega
        ⟨(Crc.turn s.data.toList p y k)[p + k], Lib.hid (by simp [List.getD_eq_getElem?_getD, hj]), hown.cellAt (p + k) hj⟩
      have hf := hown.free (p + k) (by omega)
      have s1 : IntKind.i64.wrap ((p : Int) + k) = (p : Int) + k := IntWalk.i64_in _ (by omega)
      have s2 : ((p : Int) + k).toNat = p + k := by omega
      have s3 : (0 : Int) ≤ (p : Int) + k := by omega
      have s4 : (p : Int) + k < (s.size : Int) := by omega
      have HX := Lib.hid (turned_byte b y k)
      clear hlen hl2
      go_wp2
      go_region
      go_wp2
      go_roundw
      case rel =>
        refine ⟨k + 1, by omega, by go_num, ?_, (hbel.setCell (p := ⟨w.heap.size, p + k, none⟩) (Nat.le_refl _) _).drew⟩
        rw [HX.out, Crc.turn, HB.out]
        exact hown.set (p + k) _
      case measure => simp [intOf]; omega
    · obtain rfl : k = 4 := by omega
      have hst := run_string_B (P := Try.prog) wr 57 9 5 Try.underlying57 Try.underlying5 Try.underlying9 _ _ _ hown
      go_wp2
      go_ret
      exact ⟨rfl, hbel⟩
/-- are some of the bytes that are turned the sum's, and others not -/
def inSum (p sum : Nat) (k : Nat) : Bool := decide (sum ≤ p + k) && decide (p + k < sum + 4)
def anyIn (p y sum : Nat) : Nat → Bool
  | 0 => false
  | k + 1 => anyIn p y sum k || (!decide (Page.turnB y k = 0) && inSum p sum k)
def anyOut (p y sum : Nat) : Nat → Bool
  | 0 => false
  | k + 1 => anyOut p y sum k || (!decide (Page.turnB y k = 0) && !inSum p sum k)
set_option maxHeartbeats 400000 in
theorem mixed16 (s : ByteArray) (h4 : 4 ≤ s.size) (hs : s.size ≤ 2000) (at_ : Int) (y sum : Nat) (hsum : sum ≤ 1000) (w : World) :
    Calls Try.prog 16 #[.string s, .int .i64 at_, .int .u32 y, .int .i64 sum] w fun e w' => e = .returned (.bool (anyIn (turnAt at_ s.size) y sum 4 && anyOut (turnAt at_ s.size) y sum 4)) ∧ w = w' := by
  have hp := turnAt_le at_ s.size h4
  obtain ⟨A, hA⟩ := Int.eq_ofNat_of_zero_le (u64_nonneg at_)
  have hAt : turnAt at_ s.size = A % (s.size - 3) := by unfold turnAt; rw [hA]; rfl
  obtain ⟨m, hm⟩ : ∃ m : Nat, s.size - 3 = m := ⟨_, rfl⟩
  rw [hm] at hAt
  obtain ⟨p, hpp⟩ : ∃ p, turnAt at_ s.size = p := ⟨_, rfl⟩
  rw [hpp] at hp hAt ⊢
  have r1 : (s.size : Int) - 3 = (m : Int) := by omega
  have r2 : IntKind.u64.wrap (m : Int) = (m : Int) := by simp only [IntKind.wrap, IntKind.bits, IntKind.signed]; simp; omega
  have r3 : Int.tmod (A : Int) (m : Int) = (p : Int) := by rw [hAt]; rfl
  have r4 : IntKind.i64.wrap (p : Int) = (p : Int) := IntWalk.i64_in _ (by omega)
  have r5 : ¬ (m : Int) = 0 := by omega
  clear hAt hpp
  go_enter Try.func16, Try.ntmps16
  go_wp2
  clear r1 r2 r3 r4 r5 hA hm
  go_loop [9, 10, 11] (fun i o x => ∃ k : Nat, k ≤ 4 ∧ x = .int .i64 k ∧ i = .bool (anyIn p y sum k) ∧ o = .bool (anyOut p y sum k)) (fun _ _ x => 4 - (intOf x).toNat)
  case atStart => exact ⟨0, by omega, rfl, rfl, rfl⟩
  case round =>
    obtain ⟨k, hk, rfl, rfl, rfl⟩ := hrel
    by_cases h4 : k < 4
    · have hz : Page.turnB y k = 0 ↔ y / 2 ^ (8 * k) % 256 = 0 := by
        unfold Page.turnB
        constructor
        · intro h
          have := congrArg UInt8.toNat h
          simpa using this
        · intro h
          apply UInt8.toNat_inj.1
          simpa using h
      have hcast : ((y : Int) / 2 ^ (8 * k) % 256) = ((y / 2 ^ (8 * k) % 256 : Nat) : Int) := by simp
      by_cases h0 : Page.turnB y k = 0
      · have d0 : ((y : Int) / 2 ^ (8 * k) % 256 == 0) = true := by rw [beq_iff_eq, hcast, hz.1 h0]; rfl
        have HI : Hid (anyIn p y sum (k + 1) = anyIn p y sum k) := Lib.hid (by rw [anyIn, h0]; simp)
        have HO : Hid (anyOut p y sum (k + 1) = anyOut p y sum k) := Lib.hid (by rw [anyOut, h0]; simp)
        clear h0 hz hcast
        go_wp2
        go_round
        case rel => exact ⟨k + 1, by omega, by go_num, by rw [HI.out], by rw [HO.out]⟩
        case measure => simp [intOf]; omega
      · have d0 : ((y : Int) / 2 ^ (8 * k) % 256 == 0) = false := by
          rw [beq_eq_false_iff_ne, hcast]
          intro e
          exact h0 (hz.2 (by omega))
        have s1 : IntKind.i64.wrap ((p : Int) + k) = (p : Int) + k := IntWalk.i64_in _ (by omega)
        have s2 : IntKind.i64.wrap ((sum : Int) + 4) = (sum : Int) + 4 := IntWalk.i64_in _ (by omega)
        by_cases h1 : sum ≤ p + k
        · have d1 : decide ((sum : Int) ≤ (p : Int) + k) = true := decide_eq_true (by omega)
          by_cases h2 : p + k < sum + 4
          · have d2 : decide ((p : Int) + k < (sum : Int) + 4) = true := decide_eq_true (by omega)
            have hin : inSum p sum k = true := by unfold inSum; simp [h1, h2]
            have HI : Hid (anyIn p y sum (k + 1) = true) := Lib.hid (by rw [anyIn, hin]; simp [h0])
            have HO : Hid (anyOut p y sum (k + 1) = anyOut p y sum k) := Lib.hid (by rw [anyOut, hin]; simp)
            clear h0 h1 h2 hin hz hcast
            go_wp2
            go_round
            case rel => exact ⟨k + 1, by omega, by go_num, by rw [HI.out], by rw [HO.out]⟩
            case measure => simp [intOf]; omega
          · have d2 : decide ((p : Int) + k < (sum : Int) + 4) = false := decide_eq_false (by omega)
            have hin : inSum p sum k = false := by unfold inSum; simp [h2]
            have HI : Hid (anyIn p y sum (k + 1) = anyIn p y sum k) := Lib.hid (by rw [anyIn, hin]; simp)
            have HO : Hid (anyOut p y sum (k + 1) = true) := Lib.hid (by rw [anyOut, hin]; simp [h0])
            clear h0 h1 h2 hin hz hcast
            go_wp2
            go_round
            case rel => exact ⟨k + 1, by omega, by go_num, by rw [HI.out], by rw [HO.out]⟩
            case measure => simp [intOf]; omega
        · have d1 : decide ((sum : Int) ≤ (p : Int) + k) = false := decide_eq_false (by omega)
          have hin : inSum p sum k = false := by unfold inSum; simp [h1]
          have HI : Hid (anyIn p y sum (k + 1) = anyIn p y sum k) := Lib.hid (by rw [anyIn, hin]; simp)
          have HO : Hid (anyOut p y sum (k + 1) = true) := Lib.hid (by rw [anyOut, hin]; simp [h0])
          clear h0 h1 hin hz hcast
          go_wp2
          go_round
          case rel => exact ⟨k + 1, by omega, by go_num, by rw [HI.out], by rw [HO.out]⟩
          case measure => simp [intOf]; omega
    · obtain rfl : k = 4 := by omega
      cases hb1 : anyIn p y sum 4
      · go_wp2
        go_ret
        exact ⟨rfl, rfl⟩
      · go_wp2
        go_ret
        exact ⟨rfl, rfl⟩
end Go.Proofs.Ytnhnfabgofncaaa
