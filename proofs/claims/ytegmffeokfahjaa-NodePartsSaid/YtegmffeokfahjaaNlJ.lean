/-
  The landed functions of chapter 6 meet the list of contracts on which the statements lean. Conditions: those of the contracts.
-/
import Derived.Test.YtegmffeokfahjaaNlD
import Derived.Test.YtegmffeokfahjaaNlH
import Derived.Test.YtegmffeokfahjaaNlI
import Derived.Test.YtegmffeokfahjaaNodeKit
namespace Go.Proofs.Ytegmffeokfahjaa
open Go.RowKit
/-- the landed functions -/
theorem theNode : LandNode where
  right := lright_ok
  bytes := lbytes_ok
  encode := lenc_ok
  decode := fun w leaf s _ => (ldec_ok w leaf s).mono fun _ _ ⟨V, he, hc, _, hb⟩ => ⟨V, he, hc, hb⟩
  seek := fun w leaf s key _ _ => lseek_ok w leaf s key
  halve := lhalve_ok
end Go.Proofs.Ytegmffeokfahjaa
