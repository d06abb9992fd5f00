/-
  Of the landed program: in a node's bytes a key is found where it stands, or would. No conditions.
-/
import Derived.Test.YtegmffeokfahjaaNodeSeeksLaw
import Derived.Test.YtegmffeokfahjaaNlJ
namespace Go.Proofs.Ytegmffeokfahjaa
theorem nodeSeeks_holds : Rows.NodeSeeksSaid := nodeSeeks_of theNode
end Go.Proofs.Ytegmffeokfahjaa
