/-
  Of the landed program: of a nil list of free pages each call answers as the chapter says. No conditions.
-/
import Derived.Test.YtjgndgcegenikaaFreeNilLaw
import Derived.Test.YtjgndgcegenikaaFlI
namespace Go.Proofs.Ytjgndgcegenikaa
theorem freeNil_holds : Rows.FreeNilSaid := freeNil_of FLAt theFree
end Go.Proofs.Ytjgndgcegenikaa
