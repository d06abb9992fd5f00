/-
  Contracts of field.Text, field.TakeText and of the reference's Text and TakeText: what each call answers, and that nothing that was in memory before has changed. Conditions: texts of at most 1048576 bytes.
-/
import Derived.Test.YtegmffeokfahjaaNum
import Derived.Deep.QuietTactic
import Derived.BigQuiet
namespace Go.Proofs.Ytegmffeokfahjaa
open Go.RowKit

theorem text_long (s t : ByteArray) (h : 65535 < t.size) (w : World) :
    Calls Try.prog 52 #[.string s, .string t] w fun e w' => e = .returned (.tuple #[.string ⟨#[]⟩, .int .i64 5]) ∧ w = w' := by
  have hd : decide ((65535 : Int) < (t.size : Int)) = true := by simp; omega
  go_enter Try.func52, Try.ntmps52
  go_wp2
  go_ret2
  exact ⟨rfl, rfl⟩
theorem cat_str (l : List UInt8) (t : ByteArray) : (⟨(l ++ t.data.toList).toArray⟩ : ByteArray) = ⟨l.toArray⟩ ++ t := by
  rw [← ByteArray.mk_append_mk]
theorem text_ok (s t : ByteArray) (hs : s.size ≤ 1048576) (h : t.size ≤ 65535) (w : World) :
    Calls Try.prog 52 #[.string s, .string t] w fun e w' => e = .returned (.tuple #[.string ⟨(s.data.toList ++ beB t.size 2 0 ++ t.data.toList).toArray⟩, .int .i64 0]) ∧ Below w.heap.size w w' := by
  have hd : decide ((65535 : Int) < (t.size : Int)) = false := by simp; omega
  have C := fun w => Lib.hid (put_ok s t.size 2 hs (by omega) (by omega) (by omega) w)
  go_enter Try.func52, Try.ntmps52
  go_wp2_with fail
  refine (C _).out.mono ?_
  rintro _ w1 ⟨rfl, hb1⟩
  have hl := beB_length t.size 2 0
  have hsum : s.size + (beB t.size 2 0).length + t.size ≤ 9223372036854775807 := by omega
  clear hl
  have HA := Lib.hid (cat_str (s.data.toList ++ beB t.size 2 0) t)
  go_wp2
  go_ret2
  refine ⟨?_, hb1⟩
  show Ending.returned (.tuple #[.string (⟨(s.data.toList ++ beB t.size 2 0).toArray⟩ ++ t), .int .i64 0]) = _
  rw [HA.out]
theorem two_bytes (n : Nat) (h : n ≤ 65535) : (#[.int .u8 ((n : Int) / 256), .int .u8 ((n : Int) % 256)] : Array Value) = (bv (beB n 2 0)).toArray := by
  have e : beB n 2 0 = [UInt8.ofNat (n / 256), UInt8.ofNat n] := by simp [beB, List.range_succ]
  have e1 : (n : Int) / 256 = ((UInt8.ofNat (n / 256)).toNat : Int) := by
    have : (UInt8.ofNat (n / 256)).toNat = n / 256 % 256 := by simp
    rw [this]
    omega
  have e2 : (n : Int) % 256 = ((UInt8.ofNat n).toNat : Int) := by
    have : (UInt8.ofNat n).toNat = n % 256 := by simp
    rw [this]
    omega
  rw [e, e1, e2]
  rfl
theorem two_lt (l : List UInt8) : beN (l.take 2) < 65536 :=
  Nat.lt_of_lt_of_le (beN_lt _) (Nat.le_trans (Nat.pow_le_pow_right (by omega) (by have := List.length_take_le 2 l; omega : 8 * (l.take 2).length ≤ 16)) (by decide))
theorem tt_neg (s : ByteArray) (a : Int) (h : a < 0) (w : World) :
    Calls Try.prog 49 #[.string s, .int .i64 a] w fun e w' => e = .returned (.tuple #[.string ⟨#[]⟩, .int .i64 0, .int .i64 1]) ∧ w = w' := by
  go_enter Try.func49, Try.ntmps49
  go_wp2_with fail
  refine (take_neg s a 2 (by omega) h _).mono ?_
  rintro _ _ ⟨rfl, rfl⟩
  go_wp2
  go_ret3
  exact ⟨rfl, rfl⟩
theorem rtt_neg (s : ByteArray) (a : Int) (h : a < 0) (w : World) :
    Calls Try.prog 37 #[.string s, .int .i64 a] w fun e w' => e = .returned (.tuple #[.string ⟨#[]⟩, .int .i64 0, .int .i64 1]) ∧ w = w' := by
  go_enter Try.func37, Try.ntmps37
  go_wp2_with fail
  refine (rtake_neg s a 2 (by omega) h _).mono ?_
  rintro _ _ ⟨rfl, rfl⟩
  go_wp2
  go_ret3
  exact ⟨rfl, rfl⟩
theorem tt_short2 (s : ByteArray) (hs : s.size ≤ 1048576) (a : Int) (h : 0 ≤ a) (h9 : a ≤ 9223372036854775807) (h2 : (s.size : Int) < a + 2) (w : World) :
    Calls Try.prog 49 #[.string s, .int .i64 a] w fun e w' => e = .returned (.tuple #[.string ⟨#[]⟩, .int .i64 0, .int .i64 3]) ∧ w = w' := by
  go_enter Try.func49, Try.ntmps49
  go_wp2_with fail
  refine (take_short s hs a 2 (by omega) h h9 h2 _).mono ?_
  rintro _ _ ⟨rfl, rfl⟩
  go_wp2
  go_ret3
  exact ⟨rfl, rfl⟩
theorem rtt_short2 (s : ByteArray) (hs : s.size ≤ 1048576) (a : Int) (h : 0 ≤ a) (h9 : a ≤ 9223372036854775807) (h2 : (s.size : Int) < a + 2) (w : World) :
    Calls Try.prog 37 #[.string s, .int .i64 a] w fun e w' => e = .returned (.tuple #[.string ⟨#[]⟩, .int .i64 0, .int .i64 3]) ∧ w = w' := by
  go_enter Try.func37, Try.ntmps37
  go_wp2_with fail
  refine (rtake_short s hs a 2 (by omega) h h9 h2 _).mono ?_
  rintro _ _ ⟨rfl, rfl⟩
  go_wp2
  go_ret3
  exact ⟨rfl, rfl⟩
theorem tt_short (s : ByteArray) (hs : s.size ≤ 1048576) (a N : Nat) (h2 : a + 2 ≤ s.size) (hN : beN ((s.data.toList.drop a).take 2) = N) (hlt : N < 65536) (h : s.size < a + 2 + N) (w : World) :
    Calls Try.prog 49 #[.string s, .int .i64 a] w fun e w' => e = .returned (.tuple #[.string ⟨#[]⟩, .int .i64 0, .int .i64 3]) ∧ w = w' := by
  have hc := fun w => take_ok s hs a 2 (by omega) (by omega) h2 w
  rw [hN] at hc
  have HC := fun w => Lib.hid (hc w)
  clear hc hN
  have hd : decide ((s.size : Int) < a + 2 + N) = true := by simp; omega
  go_enter Try.func49, Try.ntmps49
  go_wp2_with fail
  refine (HC _).out.mono ?_
  rintro _ _ ⟨rfl, rfl⟩
  go_wp2
  go_ret3
  exact ⟨rfl, rfl⟩
theorem ext_list (s : ByteArray) (a b : Nat) : s.extract a b = (⟨((s.data.toList.drop a).take (b - a)).toArray⟩ : ByteArray) := by
  apply ByteArray.ext
  rw [ByteArray.data_extract]
  apply Array.ext'
  simp
theorem tt_ok (s : ByteArray) (hs : s.size ≤ 1048576) (a N : Nat) (h2 : a + 2 ≤ s.size) (hN : beN ((s.data.toList.drop a).take 2) = N) (hlt : N < 65536) (h : a + 2 + N ≤ s.size) (w : World) :
    Calls Try.prog 49 #[.string s, .int .i64 a] w fun e w' => e = .returned (.tuple #[.string ⟨((s.data.toList.drop (a + 2)).take N).toArray⟩, .int .i64 ((a + 2 + N : Nat) : Int), .int .i64 0]) ∧ w = w' := by
  have hc := fun w => take_ok s hs a 2 (by omega) (by omega) h2 w
  rw [hN] at hc
  have HC := fun w => Lib.hid (hc w)
  clear hc hN
  have hd : decide ((s.size : Int) < a + 2 + N) = false := by simp; omega
  have HX := Lib.hid (ext_list s (a + 2) (a + 2 + N))
  rw [Nat.add_sub_cancel_left] at HX
  have h3 : (0 : Int) ≤ a + 2 := by omega
  have h4 : (a : Int) + 2 ≤ a + 2 + N := by omega
  have h5 : (a : Int) + 2 + N ≤ s.size := by omega
  go_enter Try.func49, Try.ntmps49
  go_wp2_with fail
  refine (HC _).out.mono ?_
  rintro _ _ ⟨rfl, rfl⟩
  go_wp2
  go_ret3
  refine ⟨?_, rfl⟩
  show Ending.returned (.tuple #[.string (s.extract (a + 2) (a + 2 + N)), .int .i64 ((a : Int) + 2 + N), .int .i64 0]) = _
  rw [HX.out]
  rfl
theorem drop_take_at (s : ByteArray) (p k : Nat) (h : p + k < s.size) : (s.data.toList.drop p).take (k + 1) = (s.data.toList.drop p).take k ++ [s[p + k]] := drop_take_snoc s p k h
set_option maxHeartbeats 800000 in
theorem rtt_short (s : ByteArray) (hs : s.size ≤ 1048576) (a N : Nat) (h2 : a + 2 ≤ s.size) (hN : beN ((s.data.toList.drop a).take 2) = N) (hlt : N < 65536) (h : s.size < a + 2 + N) (w : World) :
    Calls Try.prog 37 #[.string s, .int .i64 a] w fun e w' => e = .returned (.tuple #[.string ⟨#[]⟩, .int .i64 0, .int .i64 3]) ∧ Below w.heap.size w w' := by
  have hc := fun w => rtake_ok s hs a 2 (by omega) (by omega) h2 w
  rw [hN] at hc
  have HC := fun w => Lib.hid (hc w)
  clear hc hN
  go_enter Try.func37, Try.ntmps37
  go_wp2_with fail
  refine (HC _).out.mono ?_
  rintro _ _ ⟨rfl, rfl⟩
  go_wp2
  go_loopw [9, 10] (fun b i wr => ∃ k : Nat, a + 2 + k ≤ s.size ∧ i = .int .i64 k ∧ OwnB wr w.heap.size 5 b ((s.data.toList.drop (a + 2)).take k) ∧ Below w.heap.size w wr) (fun _ i _ => s.size - (intOf i).toNat)
  case atStart => exact ⟨0, by omega, rfl, OwnB.empty _ _ _ (Nat.le_refl _), (Below.refl _ w).alloc (Nat.le_refl _) _⟩
  case round =>
    obtain ⟨k, hk, rfl, hown, hbel⟩ := hrel
    have hkN : (k : Int) < N := by omega
    have hge := hbel.size
    by_cases hlt2 : a + 2 + k < s.size
    · have hd : decide ((s.size : Int) ≤ a + 2 + k) = false := by simp; omega
      have HS := Lib.hid (drop_take_at s (a + 2) k hlt2)
      have HC1 := Lib.hid (show ((s.data.toList.drop (a + 2)).take k).length + 1 ≤ 140737488355328 by have := List.length_take_le k (s.data.toList.drop (a + 2)); omega)
      go_wp2_with (at_builtin; refine wpList_append_byte _ rfl (.tmp 34) (.tmp 41) 64 rfl _ 5 Try.underlying64 byteInfo _ _ rfl hown _ (s[a + 2 + k]) rfl rfl HC1.out hge ?_; intro v1 w1 hown1 hbel1)
      go_roundw
      case rel => exact ⟨k + 1, by omega, by go_num, by rw [HS.out]; exact hown1, hbel.trans hbel1⟩
      case measure => simp [intOf]; omega
    · have hd : decide ((s.size : Int) ≤ a + 2 + k) = true := by simp; omega
      go_wp2
      go_ret3
      exact ⟨rfl, hbel⟩
set_option maxHeartbeats 800000 in
theorem rtt_ok (s : ByteArray) (hs : s.size ≤ 1048576) (a N : Nat) (h2 : a + 2 ≤ s.size) (hN : beN ((s.data.toList.drop a).take 2) = N) (hlt : N < 65536) (h : a + 2 + N ≤ s.size) (w : World) :
    Calls Try.prog 37 #[.string s, .int .i64 a] w fun e w' => e = .returned (.tuple #[.string ⟨((s.data.toList.drop (a + 2)).take N).toArray⟩, .int .i64 ((a + 2 + N : Nat) : Int), .int .i64 0]) ∧ Below w.heap.size w w' := by
  have hc := fun w => rtake_ok s hs a 2 (by omega) (by omega) h2 w
  rw [hN] at hc
  have HC := fun w => Lib.hid (hc w)
  clear hc hN
  go_enter Try.func37, Try.ntmps37
  go_wp2_with fail
  refine (HC _).out.mono ?_
  rintro _ _ ⟨rfl, rfl⟩
  go_wp2
  go_loopw [9, 10] (fun b i wr => ∃ k : Nat, k ≤ N ∧ i = .int .i64 k ∧ OwnB wr w.heap.size 5 b ((s.data.toList.drop (a + 2)).take k) ∧ Below w.heap.size w wr) (fun _ i _ => N - (intOf i).toNat)
  case atStart => exact ⟨0, by omega, rfl, OwnB.empty _ _ _ (Nat.le_refl _), (Below.refl _ w).alloc (Nat.le_refl _) _⟩
  case round =>
    obtain ⟨k, hk, rfl, hown, hbel⟩ := hrel
    have hge := hbel.size
    by_cases hkN : k < N
    · have hd : decide ((s.size : Int) ≤ a + 2 + k) = false := by simp; omega
      have hlt2 : a + 2 + k < s.size := by omega
      have HS := Lib.hid (drop_take_at s (a + 2) k hlt2)
      have HC1 := Lib.hid (show ((s.data.toList.drop (a + 2)).take k).length + 1 ≤ 140737488355328 by have := List.length_take_le k (s.data.toList.drop (a + 2)); omega)
      go_wp2_with (at_builtin; refine wpList_append_byte _ rfl (.tmp 34) (.tmp 41) 64 rfl _ 5 Try.underlying64 byteInfo _ _ rfl hown _ (s[a + 2 + k]) rfl rfl HC1.out hge ?_; intro v1 w1 hown1 hbel1)
      go_roundw
      case rel => exact ⟨k + 1, by omega, by go_num, by rw [HS.out]; exact hown1, hbel.trans hbel1⟩
      case measure => simp [intOf]; omega
    · obtain rfl : k = N := by omega
      have hc := run_string_B (P := Try.prog) wr 64 9 5 Try.underlying64 Try.underlying5 Try.underlying9 _ _ _ hown
      go_wp2
      go_ret3
      exact ⟨rfl, hbel⟩
end Go.Proofs.Ytegmffeokfahjaa
