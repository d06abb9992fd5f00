/-
  Of the landed program: whatever is added and taken, each answer and all that is free are what the chapter says. No conditions.
-/
import Derived.Test.YtjgndgcegenikaaFreePlaysLaw
import Derived.Test.YtjgndgcegenikaaFlI
namespace Go.Proofs.Ytjgndgcegenikaa
theorem freePlays_holds : Rows.FreePlaysSaid := freePlays_of FLAt theFree
end Go.Proofs.Ytjgndgcegenikaa
