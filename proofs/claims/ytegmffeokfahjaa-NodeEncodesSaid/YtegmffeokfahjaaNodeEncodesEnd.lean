/-
  Of the landed program: cells that may be a node's have their bytes, and are read from them as they were. No conditions.
-/
import Derived.Test.YtegmffeokfahjaaNodeEncodesLaw
import Derived.Test.YtegmffeokfahjaaNlJ
namespace Go.Proofs.Ytegmffeokfahjaa
theorem nodeEncodes_holds : Rows.NodeEncodesSaid := nodeEncodes_of theNode
end Go.Proofs.Ytegmffeokfahjaa
