/-
  Of the landed program: cells that fit in a page, and one more, are halved into two parts that fit. No conditions.
-/
import Derived.Test.YtegmffeokfahjaaNodeFitsLaw
import Derived.Test.YtegmffeokfahjaaNlJ
namespace Go.Proofs.Ytegmffeokfahjaa
theorem nodeFits_holds : Rows.NodeFitsSaid := nodeFits_of theNode
end Go.Proofs.Ytegmffeokfahjaa
