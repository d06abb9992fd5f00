/-
  Contracts of the reference (rollbookref06): Same (of lists that are the same), At. Conditions: texts of at most 1048576 bytes.
-/
import Derived.Test.YtegmffeokfahjaaRNodeA
import Derived.Test.YtegmffeokfahjaaTexts1
import Derived.BigQuiet
namespace Go.Proofs.Ytegmffeokfahjaa
open Go.RowKit
set_option maxRecDepth 100000 in
set_option maxHeartbeats 1600000 in
theorem rsame_yes (w : World) (v1 v2 : Value) (l : List CV) (h1 : CellsAt w v1 l) (h2 : CellsAt w v2 l) (hl : l.length ≤ 600) : Calls Try.prog 18 #[v1, v2] w fun e w' => e = .returned (.bool true) ∧ Below w.heap.size w w' := by
  have H1 := Lib.hid h1
  have H2 := Lib.hid h2
  obtain ⟨A, cap, rfl, _, _⟩ := h1.form
  obtain ⟨B, cap2, rfl, _, _⟩ := h2.form
  have d0 : ((l.length : Int) != (l.length : Int)) = false := by simp
  clear h1 h2
  go_enter Try.func18, Try.ntmps18
  go_wp2
  go_loopw [5] (fun ii wr => ∃ k : Nat, k ≤ l.length ∧ ii = .int .i64 k ∧ Below w.heap.size w wr) (fun ii _ => l.length - (intOf ii).toNat)
  case atStart => exact ⟨0, by omega, rfl, Below.refl _ _⟩
  case round =>
    obtain ⟨k, hk, rfl, hBr⟩ := hrel
    by_cases hkl : k < l.length
    · have t1 : decide (k < l.length) = true := decide_eq_true hkl
      obtain ⟨b, off, hA, hlt, c0, c1, c2, c3, c4⟩ := (H1.out.below hBr).get k hkl
      obtain ⟨b', off', hB, hlt', p0, p1, p2, p3, p4⟩ := (H2.out.below hBr).get k hkl
      obtain ⟨⟨key, val, over, size, child⟩, hx⟩ : ∃ x, l[k] = x := ⟨_, rfl⟩
      simp only [hx] at c0 c1 c2 c3 c4 p0 p1 p2 p3 p4
      have i0 : (0 : Int) ≤ (k : Int) := by omega
      have i1 : (k : Int) < (l.length : Int) := by omega
      have HBr := Lib.hid hBr
      subst hA hB
      clear hx hBr
      go_wp2
      go_quiet (fail)
      go_wp2
      go_roundw
      case rel => exact ⟨k + 1, by omega, by go_num, Below.drewN HBr.out _⟩
      case measure => simp [intOf]; omega
    · obtain rfl : k = l.length := by omega
      have t1 : decide (l.length < l.length) = false := decide_eq_false (by omega)
      have HBr := Lib.hid hBr
      clear hBr
      go_wp2
      go_ret
      exact ⟨rfl, HBr.out⟩
theorem num_lt (s : List UInt8) (a k : Nat) : Node.num s a k < 2 ^ (8 * k) := by
  unfold Node.num
  split
  · have := beN_lt ((s.drop a).take k)
    refine Nat.lt_of_lt_of_le this (Nat.pow_le_pow_right (by omega) ?_)
    rw [List.length_take]
    omega
  · exact Nat.two_pow_pos _
set_option maxRecDepth 100000 in
set_option maxHeartbeats 1600000 in
theorem rat_ok (w : World) (s : ByteArray) (hs : s.size ≤ 1048576) (a k : Nat) (K : Int) (hK : K = k) (ha : a ≤ 10000000) (hk : 1 ≤ k) (hk4 : k ≤ 4) : Calls Try.prog 36 #[.string s, .int .i64 a, .int .i64 K] w fun e w' => e = .returned (.int .i64 (Node.num s.data.toList a k : Nat)) ∧ Below w.heap.size w w' := by
  subst hK
  have hl : s.data.toList.length = s.size := by rw [Array.length_toList]; rfl
  by_cases h : a + k ≤ s.size
  · have TC := fun w => rtake_ok s hs a k hk (by omega) h w
    have hn : Node.num s.data.toList a k = beN ((s.data.toList.drop a).take k) := by unfold Node.num; rw [if_pos (by omega)]
    have hlt := num_lt s.data.toList a k
    rw [hn] at hlt ⊢
    obtain ⟨n, hn2⟩ : ∃ n, beN ((s.data.toList.drop a).take k) = n := ⟨_, rfl⟩
    simp only [hn2] at TC hlt ⊢
    have h32 : n < 4294967296 := Nat.lt_of_lt_of_le hlt (Nat.le_trans (Nat.pow_le_pow_right (by omega) (show 8 * k ≤ 32 by omega)) (by decide))
    have m1 : IntKind.i64.wrap (n : Int) = n := IntWalk.i64_in _ (by omega)
    have TC := fun w => Lib.hid (TC w)
    clear hn hn2 hlt
    go_enter Try.func36, Try.ntmps36
    go_wp2_with fail
    refine (TC _).out.mono ?_
    rintro _ w1 ⟨rfl, rfl⟩
    go_wp2
    go_ret
    exact ⟨rfl, Below.refl _ _⟩
  · have TC := fun w => rtake_short s hs a k (by omega) (by omega) (by omega) (by omega) w
    have hn : Node.num s.data.toList a k = 0 := by unfold Node.num; rw [if_neg (by omega)]
    rw [hn]
    have TC := fun w => Lib.hid (TC w)
    go_enter Try.func36, Try.ntmps36
    go_wp2_with fail
    refine (TC _).out.mono ?_
    rintro _ w1 ⟨rfl, rfl⟩
    go_wp2
    go_ret
    exact ⟨rfl, Below.refl _ _⟩
end Go.Proofs.Ytegmffeokfahjaa
