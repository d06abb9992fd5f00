/-
  Of the landed program: what is taken was added, by a transaction not above the one asked for, and is not taken again. No conditions.
-/
import Derived.Test.YtjgndgcegenikaaFreeOnceLaw
import Derived.Test.YtjgndgcegenikaaFlI
namespace Go.Proofs.Ytjgndgcegenikaa
theorem freeOnce_holds : Rows.FreeOnceSaid := freeOnce_of FLAt theFree
end Go.Proofs.Ytjgndgcegenikaa
