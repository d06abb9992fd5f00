/-
  Of the landed program: so many free pages need so many pieces. No conditions.
-/
import Derived.Test.YtjgndgcegenikaaFreeCountsLaw
import Derived.Test.YtjgndgcegenikaaFlI
import Derived.Test.YtjgndgcegenikaaFlO
namespace Go.Proofs.Ytjgndgcegenikaa
theorem freeCounts_holds : Rows.FreeCountsSaid := freeCounts_of FLAt theFree theFrBytes
end Go.Proofs.Ytjgndgcegenikaa
