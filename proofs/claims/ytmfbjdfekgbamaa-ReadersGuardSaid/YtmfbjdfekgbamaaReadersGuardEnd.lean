/-
  Of the landed program: a version that is read is held back: the oldest, whatever the readers, as the chapter says. No conditions.
-/
import Derived.Test.YtmfbjdfekgbamaaReadersGuardLaw
import Derived.Test.YtmfbjdfekgbamaaRlE
namespace Go.Proofs.Ytmfbjdfekgbamaa
theorem readersGuard_holds : Rows.ReadersGuardSaid := readersGuard_of RLAt theTable
end Go.Proofs.Ytmfbjdfekgbamaa
