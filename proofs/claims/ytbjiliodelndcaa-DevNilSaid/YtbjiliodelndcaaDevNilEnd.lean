/-
  P3.1 to P3.3: a device that isn't there does nothing: the statement's function returns true at every act. Conditions: none.
-/
import Derived.Test.YtbjiliodelndcaaDevNilLaw
import Derived.Test.YtbjiliodelndcaaDevKitX
namespace Go.Proofs.Ytbjiliodelndcaa
theorem devNil_holds : Rows.DevNilSaid := devNil_of DevAt theKit
end Go.Proofs.Ytbjiliodelndcaa
