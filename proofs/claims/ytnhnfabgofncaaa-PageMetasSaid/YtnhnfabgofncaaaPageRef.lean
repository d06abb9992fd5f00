/-
  Contracts of the reference's Noughts and Number (rollbookref04): what each call answers, and that nothing that was in memory before has changed. No conditions but the numbers' ranges.
-/
import Derived.Test.YtnhnfabgofncaaaNum
import Derived.Test.YtnhnfabgofncaaaPagePlain
import Derived.Lib.Hide
namespace Go.Proofs.Ytnhnfabgofncaaa
open Go.RowKit
theorem noughts_ok (n : Nat) (hn : n ≤ 1048576) (w : World) : Calls Try.prog 29 #[.int .i64 n] w fun e w' => e = .returned (.string ⟨(Page.noughts n).toArray⟩) ∧ Below w.heap.size w w' := by
  go_enter Try.func29, Try.ntmps29
  go_wp2
  go_loopw [3, 4] (fun b i wr => ∃ k : Nat, k ≤ n ∧ i = .int .i64 k ∧ OwnB wr w.heap.size 5 b (Page.noughts k) ∧ Below w.heap.size w wr) (fun _ i _ => n - (intOf i).toNat)
  case atStart => exact ⟨0, by omega, rfl, OwnB.empty _ _ _ (Nat.le_refl _), (Below.refl _ w).alloc (Nat.le_refl _) _⟩
  case round =>
    obtain ⟨k, hk, rfl, hown, hbel⟩ := hrel
    by_cases h : k < n
    · have d : decide ((k : Int) < (n : Int)) = true := decide_eq_true (by omega)
      have HC1 := Lib.hid (show (Page.noughts k).length + 1 ≤ 140737488355328 by unfold Page.noughts; rw [List.length_replicate]; omega)
      have HS := Lib.hid (show Page.noughts (k + 1) = Page.noughts k ++ [0] by unfold Page.noughts; rw [List.replicate_succ'])
      have hge := hbel.size
      go_wp2_with (at_builtin; refine wpList_append_byte _ rfl (.tmp 11) (.tmp 12) 57 rfl _ 5 Try.underlying57 byteInfo _ _ rfl hown 0 0 rfl rfl HC1.out hge ?_; intro v' w1 hown1 hbel1)
      go_roundw
      case rel => exact ⟨k + 1, by omega, by go_num, by rw [HS.out]; exact hown1, hbel.trans hbel1⟩
      case measure => simp [intOf]; omega
    · have d : decide ((k : Int) < (n : Int)) = false := decide_eq_false (by omega)
      obtain rfl : k = n := by omega
      have hc := run_string_B (P := Try.prog) wr 57 9 5 Try.underlying57 Try.underlying5 Try.underlying9 _ _ _ hown
      go_wp2
      go_ret
      exact ⟨rfl, hbel⟩
theorem conv_i64_u64 (n : Nat) (h : n < 2 ^ 63) : IntKind.u64.wrap (n : Int) = (n : Int) := by
  simp [IntKind.wrap, IntKind.bits, IntKind.signed]
  omega
theorem number_ok (n k : Nat) (hn : n < 2 ^ (8 * k)) (hn2 : n < 2 ^ 63) (hk : 1 ≤ k) (hk8 : k ≤ 8) (w : World) : Calls Try.prog 30 #[.int .i64 n, .int .i64 k] w fun e w' => e = .returned (.string ⟨(beB n k 0).toArray⟩) ∧ Below w.heap.size w w' := by
  have C := fun w => Lib.hid (rput_ok ⟨#[]⟩ n k (by decide) hn hk hk8 w)
  have hv := conv_i64_u64 n hn2
  clear hn hk hk8 hn2
  go_enter Try.func30, Try.ntmps30
  go_wp2_with fail
  refine (C _).out.mono ?_
  rintro _ w1 ⟨rfl, hb1⟩
  go_wp2
  go_ret
  exact ⟨rfl, hb1⟩
end Go.Proofs.Ytnhnfabgofncaaa
