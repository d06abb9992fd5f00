/-
  Of the landed program: of a nil table each call answers as the chapter says. No conditions.
-/
import Derived.Test.YtmfbjdfekgbamaaReadersNilLaw
import Derived.Test.YtmfbjdfekgbamaaRlE
namespace Go.Proofs.Ytmfbjdfekgbamaa
theorem readersNil_holds : Rows.ReadersNilSaid := readersNil_of RLAt theTable
end Go.Proofs.Ytmfbjdfekgbamaa
