/-
  Of the landed program: whatever is entered and left, each answer of the table is the chapter's. No conditions.
-/
import Derived.Test.YtmfbjdfekgbamaaReadersPlayLaw
import Derived.Test.YtmfbjdfekgbamaaRlE
namespace Go.Proofs.Ytmfbjdfekgbamaa
theorem readersPlay_holds : Rows.ReadersPlaySaid := readersPlay_of RLAt theTable
end Go.Proofs.Ytmfbjdfekgbamaa
