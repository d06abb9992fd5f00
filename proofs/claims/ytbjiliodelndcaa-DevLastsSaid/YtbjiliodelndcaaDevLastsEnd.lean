/-
  P3.4: what was synced lasts: the statement's function returns true at every input. Conditions: none.
-/
import Derived.Test.YtbjiliodelndcaaDevLastsLaw
import Derived.Test.YtbjiliodelndcaaDevKitX
namespace Go.Proofs.Ytbjiliodelndcaa
theorem devLasts_holds : Rows.DevLastsSaid := devLasts_of DevAt theKit
end Go.Proofs.Ytbjiliodelndcaa
