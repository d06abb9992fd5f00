/-
  P3.2: with a fuse of n the power goes in the place of the n-th step: the statement's function returns true at every input. Conditions: none.
-/
import Derived.Test.YtbjiliodelndcaaDevFusesLaw
import Derived.Test.YtbjiliodelndcaaDevKitX
namespace Go.Proofs.Ytbjiliodelndcaa
theorem devFuses_holds : Rows.DevFusesSaid := devFuses_of DevAt theKit
end Go.Proofs.Ytbjiliodelndcaa
