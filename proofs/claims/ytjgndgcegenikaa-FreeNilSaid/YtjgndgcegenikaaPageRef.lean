/-
  Contracts of the reference's Noughts and Number (rollbookref04): what each call answers, and that nothing that was in memory before has changed. No conditions but the numbers' ranges.
-/
import Derived.Test.YtjgndgcegenikaaNum
import Derived.Test.YtjgndgcegenikaaPagePlain
import Derived.Lib.Hide
namespace Go.Proofs.Ytjgndgcegenikaa
open Go.RowKit
theorem conv_i64_u64 (n : Nat) (h : n < 2 ^ 63) : IntKind.u64.wrap (n : Int) = (n : Int) := by
  simp [IntKind.wrap, IntKind.bits, IntKind.signed]
  omega
theorem number_ok (n k : Nat) (hn : n < 2 ^ (8 * k)) (hn2 : n < 2 ^ 63) (hk : 1 ≤ k) (hk8 : k ≤ 8) (w : World) : Calls Try.prog 37 #[.int .i64 n, .int .i64 k] w fun e w' => e = .returned (.string ⟨(beB n k 0).toArray⟩) ∧ Below w.heap.size w w' := by
  have C := fun w => Lib.hid (rput_ok ⟨#[]⟩ n k (by decide) hn hk hk8 w)
  have hv := conv_i64_u64 n hn2
  clear hn hk hk8 hn2
  go_enter Try.func37, Try.ntmps37
  go_wp2_with fail
  refine (C _).out.mono ?_
  rintro _ w1 ⟨rfl, hb1⟩
  go_wp2
  go_ret
  exact ⟨rfl, hb1⟩
end Go.Proofs.Ytjgndgcegenikaa
