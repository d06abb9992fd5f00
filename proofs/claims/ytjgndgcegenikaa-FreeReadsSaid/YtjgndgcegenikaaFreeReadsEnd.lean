/-
  Of the landed program: any bytes are a piece's, or none's. No conditions.
-/
import Derived.Test.YtjgndgcegenikaaFreeReadsLaw
import Derived.Test.YtjgndgcegenikaaFlI
import Derived.Test.YtjgndgcegenikaaFlO
namespace Go.Proofs.Ytjgndgcegenikaa
theorem freeReads_holds : Rows.FreeReadsSaid := freeReads_of FLAt theFree theFrBytes
end Go.Proofs.Ytjgndgcegenikaa
