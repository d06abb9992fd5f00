/-
  Of the landed program: any bytes are a node's, or none's. No conditions.
-/
import Derived.Test.YtegmffeokfahjaaNodeDecodesLaw
import Derived.Test.YtegmffeokfahjaaNlJ
namespace Go.Proofs.Ytegmffeokfahjaa
theorem nodeDecodes_holds : Rows.NodeDecodesSaid := nodeDecodes_of theNode
end Go.Proofs.Ytegmffeokfahjaa
