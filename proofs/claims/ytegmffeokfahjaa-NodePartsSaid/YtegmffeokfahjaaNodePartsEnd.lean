/-
  Of the landed program: all cells ahead of the place that is found are less, all behind it greater. No conditions.
-/
import Derived.Test.YtegmffeokfahjaaNodePartsLaw
import Derived.Test.YtegmffeokfahjaaNlJ
namespace Go.Proofs.Ytegmffeokfahjaa
theorem nodeParts_holds : Rows.NodePartsSaid := nodeParts_of theNode
end Go.Proofs.Ytegmffeokfahjaa
