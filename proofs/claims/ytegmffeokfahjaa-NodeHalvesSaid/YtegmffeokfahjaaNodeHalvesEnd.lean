/-
  Of the landed program: cells are cut where the greater part is as little as can be. No conditions.
-/
import Derived.Test.YtegmffeokfahjaaNodeHalvesLaw
import Derived.Test.YtegmffeokfahjaaNlJ
namespace Go.Proofs.Ytegmffeokfahjaa
theorem nodeHalves_holds : Rows.NodeHalvesSaid := nodeHalves_of theNode
end Go.Proofs.Ytegmffeokfahjaa
