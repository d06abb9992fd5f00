/-
  Contracts of the landed page's within, lay and take (package page): what each call answers, and that nothing that was in memory before has changed. Conditions: texts of at most 2000 bytes, numbers that fit.
-/
import Derived.Test.YtnhnfabgofncaaaPageRef
import Derived.Test.YtnhnfabgofncaaaPageSpec
namespace Go.Proofs.Ytnhnfabgofncaaa
open Go.RowKit
theorem within_ok (n a b : Int) (B : Bool) (h : (decide (a ≤ n) && decide (n ≤ b)) = B) (w : World) : Calls Try.prog 31 #[.int .i64 n, .int .i64 a, .int .i64 b] w fun e w' => e = .returned (.bool B) ∧ w = w' := by
  have H := Lib.hid h
  clear h
  by_cases h1 : a ≤ n
  · have d1 : decide (a ≤ n) = true := decide_eq_true h1
    by_cases h2 : n ≤ b
    · have d2 : decide (n ≤ b) = true := decide_eq_true h2
      go_enter Try.func31, Try.ntmps31
      go_wp2
      go_ret
      exact ⟨by rw [← H.out, d1, d2]; rfl, rfl⟩
    · have d2 : decide (n ≤ b) = false := decide_eq_false h2
      go_enter Try.func31, Try.ntmps31
      go_wp2
      go_ret
      exact ⟨by rw [← H.out, d1, d2]; rfl, rfl⟩
  · have d1 : decide (a ≤ n) = false := decide_eq_false h1
    go_enter Try.func31, Try.ntmps31
    go_wp2
    go_ret
    exact ⟨by rw [← H.out, d1]; rfl, rfl⟩
theorem put_ba (s : ByteArray) (n : Nat) (k : Nat) (hs : s.size ≤ 1048576) (hn : n < 2 ^ (8 * k)) (hk : 1 ≤ k) (hk8 : k ≤ 8) (w : World) :
    Calls Try.prog 40 #[.string s, .int .u64 n, .int .i64 k] w fun e w' => e = .returned (.tuple #[.string (s ++ ba (beB n k 0)), .int .i64 0]) ∧ Below w.heap.size w w' := by
  have := put_ok s n k hs hn hk hk8 w
  rw [str_cat] at this
  exact this
theorem lay_ok (s : ByteArray) (n k : Nat) (hs : s.size ≤ 1048576) (hn : n < 2 ^ (8 * k)) (hn2 : n < 2 ^ 63) (hk : 1 ≤ k) (hk8 : k ≤ 8) (w : World) :
    Calls Try.prog 34 #[.string s, .int .i64 n, .int .i64 k] w fun e w' => e = .returned (.string (s ++ ba (beB n k 0))) ∧ Below w.heap.size w w' := by
  have C := fun w => Lib.hid (put_ba s n k hs hn hk hk8 w)
  obtain ⟨X, hX⟩ : ∃ X, s ++ ba (beB n k 0) = X := ⟨_, rfl⟩
  rw [hX] at C ⊢
  have hv := conv_i64_u64 n hn2
  clear hn hk hk8 hn2 hX
  go_enter Try.func34, Try.ntmps34
  go_wp2_with fail
  refine (C _).out.mono ?_
  rintro _ w1 ⟨rfl, hb1⟩
  go_wp2
  go_ret
  exact ⟨rfl, hb1⟩
theorem ptake_ok (s : ByteArray) (hs : s.size ≤ 1048576) (a k : Nat) (hk : 1 ≤ k) (hk8 : k ≤ 8) (h2 : a + k ≤ s.size) (w : World) :
    Calls Try.prog 32 #[.string s, .int .i64 a, .int .i64 k] w fun e w' => e = .returned (.int .i64 (wrap64 (Page.at_ s.data.toList a k : Nat))) ∧ w = w' := by
  have C := fun w => Lib.hid (take_ok s hs a k hk hk8 h2 w)
  obtain ⟨X, hX⟩ : ∃ X, Page.at_ s.data.toList a k = X := ⟨_, rfl⟩
  have hX2 : beN ((s.data.toList.drop a).take k) = X := hX
  simp only [hX2] at C
  rw [hX]
  clear hk hk8 hX hX2
  go_enter Try.func32, Try.ntmps32
  go_wp2_with fail
  refine (C _).out.mono ?_
  rintro _ _ ⟨rfl, rfl⟩
  go_wp2
  go_ret
  exact ⟨rfl, rfl⟩
end Go.Proofs.Ytnhnfabgofncaaa
