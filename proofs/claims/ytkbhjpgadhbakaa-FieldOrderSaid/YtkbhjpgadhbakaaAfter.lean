/-
  Contracts of field.After and of the reference's After: what each call answers, and that nothing that was in memory before has changed. Conditions: texts of at most 1048576 bytes.
-/
import Derived.Test.YtkbhjpgadhbakaaNum
import Derived.Deep.QuietTactic
import Derived.BigQuiet
namespace Go.Proofs.Ytkbhjpgadhbakaa
open Go.RowKit

/-- n is where the last byte that is not 255 ends (0: there is none) -/
structure Stem (s : ByteArray) (n : Nat) : Prop where
  le : n ≤ s.size
  rest : ∀ j (h : j < s.size), n ≤ j → s[j] = 255
  stop : ∀ h : n - 1 < s.size, 0 < n → s[n - 1] ≠ 255

set_option maxHeartbeats 400000 in
theorem after_none (s : ByteArray) (hs : s.size ≤ 1048576) (hn : Stem s 0) (w : World) :
    Calls Try.prog 28 #[.string s] w fun e w' => e = .returned (.tuple #[.string ⟨#[]⟩, .bool false]) ∧ w = w' := by
  go_enter Try.func28, Try.ntmps28
  go_wp2
  go_loop [4] (fun i => ∃ m : Nat, m ≤ s.size ∧ i = .int .i64 m) (fun i => (intOf i).toNat)
  case atStart => exact ⟨s.size, Nat.le_refl _, rfl⟩
  case round =>
    obtain ⟨m, hm, rfl⟩ := hrel
    rcases m with _ | p
    · have hd : decide ((0 : Int) < ((0 : Nat) : Int)) = false := by simp
      go_wp2
      go_ret2
      exact ⟨rfl, rfl⟩
    · have hb := hn.rest p (by omega) (Nat.zero_le _)
      have hd : decide ((0 : Int) < ((p + 1 : Nat) : Int)) = true := by simp
      go_wp2
      go_round
      case rel => exact ⟨p, by omega, rfl⟩
      case measure => simp [intOf]
theorem stem_ne (s : ByteArray) (q : Nat) (hn : Stem s (q + 1)) (h : q < s.size) : ((s[q].toNat : Int) == 255) = false := by
  have := hn.stop h (by omega)
  rw [beq_eq_false_iff_ne]
  intro e
  apply this
  apply UInt8.toNat_inj.1
  simp only [Nat.add_sub_cancel]
  show _ = 255
  omega
theorem getD_at (s : ByteArray) (q : Nat) (h : q < s.size) : s.data.toList.getD q 0 = s[q] := by
  have hq : q < s.data.toList.length := by rw [Array.length_toList]; exact h
  rw [List.getD_eq_getElem?_getD, List.getElem?_eq_getElem hq]
  rfl
theorem plus_one (b : UInt8) : ((b.toNat : Int) + 1) % 256 = ((b + 1).toNat : Int) := by
  rw [UInt8.toNat_add]
  show _ = (((b.toNat + 1) % 256 : Nat) : Int)
  omega
set_option maxHeartbeats 400000 in
theorem after_some (s : ByteArray) (hs : s.size ≤ 1048576) (q : Nat) (hn : Stem s (q + 1)) (w : World) :
    Calls Try.prog 28 #[.string s] w fun e w' => e = .returned (.tuple #[.string ⟨(s.data.toList.take q ++ [s.data.toList.getD q 0 + 1]).toArray⟩, .bool true]) ∧ Below w.heap.size w w' := by
  have kc := fun (w : World) (t : ByteArray) => Lib.run_convert_string_bytes (P := Try.prog) w 9 48 5 t Try.underlying9 Try.underlying48 Try.underlying5
  have hle := hn.le
  go_enter Try.func28, Try.ntmps28
  go_wp2
  go_loop [4] (fun i => ∃ m : Nat, m ≤ s.size ∧ q + 1 ≤ m ∧ i = .int .i64 m) (fun i => (intOf i).toNat)
  case atStart => exact ⟨s.size, Nat.le_refl _, hle, rfl⟩
  case round =>
    obtain ⟨m, hm, hqm, rfl⟩ := hrel
    by_cases hmq : q + 1 < m
    · obtain ⟨p, rfl⟩ : ∃ p, m = p + 1 := ⟨m - 1, by omega⟩
      have hb := hn.rest p (by omega) (by omega)
      have hd : decide ((0 : Int) < ((p + 1 : Nat) : Int)) = true := by simp
      go_wp2
      go_round
      case rel => exact ⟨p, by omega, by omega, rfl⟩
      case measure => simp [intOf]
    · obtain rfl : m = q + 1 := by omega
      have hb := stem_ne s q hn (by omega)
      have hd : decide ((0 : Int) < ((q + 1 : Nat) : Int)) = true := by simp
      have hsz : (s.extract 0 (q + 1)).size = q + 1 := by rw [ByteArray.size_extract]; omega
      have hdt : (s.extract 0 (q + 1)).data.toList = s.data.toList.take (q + 1) := by simp [ByteArray.data_extract]
      have hq : q < s.data.toList.length := by rw [Array.length_toList]; exact hle
      have hown := OwnB.conv w w.heap.size 5 (s.extract 0 (q + 1)) (Nat.le_refl _) (by rw [hsz]; simp only [maxLen]; omega)
      rw [hdt, hsz] at hown
      have hlq : q < (s.data.toList.take (q + 1)).length := by rw [List.length_take]; omega
      have hcell := hown.cellAt q hlq
      have hfree := hown.free q hlq
      have hset := hown.set q (s[q] + 1)
      have hlist : (s.data.toList.take (q + 1)).set q (s[q] + 1) = s.data.toList.take q ++ [s.data.toList.getD q 0 + 1] := by
        rw [List.take_succ_eq_append_getElem hq, List.set_append_right _ _ (by rw [List.length_take]; omega)]
        rw [List.length_take, Nat.min_eq_left (by omega), Nat.sub_self, List.set_cons_zero, getD_at s q hle]
      rw [hlist] at hset
      have hval : (s.data.toList.take (q + 1))[q] = s[q] := by rw [List.getElem_take]; rfl
      rw [hval] at hcell
      have hc := run_string_B (P := Try.prog) _ 48 9 5 Try.underlying48 Try.underlying5 Try.underlying9 _ _ _ hset
      have hbel := Lib.hid (below_conv w 5 (s.extract 0 (q + 1)))
      rw [← plus_one] at hc
      clear hset hown hdt hlist hval hlq hsz
      have HG := Lib.hid (getD_at s q hle)
      go_wp2
      go_ret2
      refine ⟨?_, ?_⟩
      · show Ending.returned (.tuple #[.string ⟨(s.data.toList.take q ++ [s[q] + 1]).toArray⟩, .bool true]) = _
        rw [HG.out]
      · exact hbel.out.setCell (by simp) _

set_option maxHeartbeats 400000 in
theorem rafter_none (s : ByteArray) (hs : s.size ≤ 1048576) (hn : Stem s 0) (w : World) :
    Calls Try.prog 29 #[.string s] w fun e w' => e = .returned (.tuple #[.string ⟨#[]⟩, .bool false]) ∧ w = w' := by
  go_enter Try.func29, Try.ntmps29
  go_wp2
  go_loop [4] (fun i => ∃ m : Int, -1 ≤ m ∧ m < s.size ∧ i = .int .i64 m) (fun i => (intOf i + 1).toNat)
  case atStart => exact ⟨s.size - 1, by omega, by omega, rfl⟩
  case round =>
    obtain ⟨m, hm1, hm2, rfl⟩ := hrel
    by_cases h0 : 0 ≤ m
    · obtain ⟨p, rfl⟩ := Int.eq_ofNat_of_zero_le h0
      have hb := hn.rest p (by omega) (Nat.zero_le _)
      have hd : decide (0 ≤ (p : Int)) = true := by simp
      go_wp2
      go_round
      case rel => exact ⟨(p : Int) - 1, by omega, by omega, rfl⟩
      case measure => simp [intOf]
    · have hd : decide (0 ≤ m) = false := by simpa using h0
      go_wp2
      go_ret2
      exact ⟨rfl, rfl⟩
theorem ext_cat (s : ByteArray) (q : Nat) (b : UInt8) : (⟨(s.data.toList.take q ++ [b]).toArray⟩ : ByteArray) = s.extract 0 q ++ ⟨[b].toArray⟩ := by
  rw [← ByteArray.mk_append_mk]
  congr 1
  apply ByteArray.ext
  rw [ByteArray.data_extract]
  apply Array.ext'
  simp
theorem stem_lt (s : ByteArray) (q : Nat) (hn : Stem s (q + 1)) (h : q < s.size) : decide ((s[q].toNat : Int) < 255) = true := by
  have := hn.stop h (by omega)
  have h2 := s[q].toNat_lt
  rw [decide_eq_true_eq]
  have : s[q].toNat ≠ 255 := by
    intro e
    apply this
    apply UInt8.toNat_inj.1
    exact e
  omega
set_option maxHeartbeats 400000 in
theorem rafter_some (s : ByteArray) (hs : s.size ≤ 1048576) (q : Nat) (hn : Stem s (q + 1)) (w : World) :
    Calls Try.prog 29 #[.string s] w fun e w' => e = .returned (.tuple #[.string ⟨(s.data.toList.take q ++ [s.data.toList.getD q 0 + 1]).toArray⟩, .bool true]) ∧ Below w.heap.size w w' := by
  have hle := hn.le
  go_enter Try.func29, Try.ntmps29
  go_wp2
  go_loop [4] (fun i => ∃ m : Nat, m < s.size ∧ q ≤ m ∧ i = .int .i64 m) (fun i => (intOf i + 1).toNat)
  case atStart => exact ⟨s.size - 1, by omega, by omega, by go_num⟩
  case round =>
    obtain ⟨m, hm, hqm, rfl⟩ := hrel
    have hd : decide (0 ≤ (m : Int)) = true := by simp
    by_cases hmq : q < m
    · have hb := hn.rest m (by omega) (by omega)
      go_wp2
      go_round
      case rel => exact ⟨m - 1, by omega, by omega, by go_num⟩
      case measure => simp [intOf]
    · obtain rfl : m = q := by omega
      have hb := stem_lt s m hn (by omega)
      have hown : OwnB (w.alloc (.cells #[.int .u8 (((s[m].toNat : Int) + 1) % 256)] 5)).drew w.heap.size 5 (.slice (some ⟨w.heap.size, 0, none⟩) 1 1) [s[m] + 1] :=
        (OwnB.lit w w.heap.size 5 (Nat.le_refl _) [s[m] + 1] (by simp [maxLen]) _ (by rw [plus_one]; rfl) 1 rfl).drew
      have hc := run_string_B (P := Try.prog) _ 48 9 5 Try.underlying48 Try.underlying5 Try.underlying9 _ _ _ hown
      have hadd := fun (w : World) => run_add_list (P := Try.prog) w (s.extract 0 m) [s[m] + 1] (by rw [ByteArray.size_extract]; simp; omega)
      have HA := Lib.hid (ext_cat s m (s[m] + 1))
      have HG := Lib.hid (getD_at s m hle)
      have hm2 : (m : Int) ≤ s.size := by omega
      clear hown
      go_wp2
      go_region
      go_wp2
      go_ret2
      refine ⟨?_, ((Below.refl _ w).alloc (Nat.le_refl _) _).drew⟩
      show Ending.returned (.tuple #[.string (s.extract 0 m ++ ⟨[s[m] + 1].toArray⟩), .bool true]) = _
      rw [← HA.out, HG.out]
end Go.Proofs.Ytkbhjpgadhbakaa
