/-
  The library's function strings.Compare, as it stands in this program, is the one of which the library's contract speaks: tables of numbers and facts by the kernel's comparison. No conditions.
-/
import Derived.Shelf.Small.Strs
import Derived.Test.YtegmffeokfahjaaRows
namespace Go.Proofs.Ytegmffeokfahjaa
open Go.Shelf
def Try.compareLays_ren : Go.Shelf.Ren := ⟨fun | 106 => 40 | 213 => 51 | 265 => 53 | n => n, fun | 9 => 9 | 3 => 3 | n => n, fun | n => n⟩
theorem Try.compareLays : Go.Proofs.Lays.n106 Try.prog Try.compareLays_ren := {
  mixed := by kernel_rfl
  f106 := Try.func40.trans (congrArg some (by kernel_rfl))
  f213 := Try.func51.trans (congrArg some (by kernel_rfl))
  f265 := Try.func53.trans (congrArg some (by kernel_rfl))
  t3 := Try.underlying3
  a3 := Try.isAgg3
  z3 := Try.sizeOf3
  v3 := Try.zeroValue3
  t9 := Try.underlying9
  a9 := Try.isAgg9
  z9 := Try.sizeOf9
  v9 := Try.zeroValue9 }
end Go.Proofs.Ytegmffeokfahjaa
