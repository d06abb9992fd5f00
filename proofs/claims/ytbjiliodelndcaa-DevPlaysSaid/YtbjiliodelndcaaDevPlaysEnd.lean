/-
  P3.1 to P3.3: the device answers as the chapter says, whatever is played: the statement's function returns true at every input. Conditions: none.
-/
import Derived.Test.YtbjiliodelndcaaDevPlaysLaw
import Derived.Test.YtbjiliodelndcaaDevKitX
namespace Go.Proofs.Ytbjiliodelndcaa
theorem devPlays_holds : Rows.DevPlaysSaid := devPlays_of DevAt theKit
end Go.Proofs.Ytbjiliodelndcaa
