/-
  Of the landed program: free pages in order are laid as a piece, and read as they were. No conditions.
-/
import Derived.Test.YtjgndgcegenikaaFreePiecesLaw
import Derived.Test.YtjgndgcegenikaaFlI
import Derived.Test.YtjgndgcegenikaaFlO
namespace Go.Proofs.Ytjgndgcegenikaa
theorem freePieces_holds : Rows.FreePiecesSaid := freePieces_of FLAt theFree theFrBytes
end Go.Proofs.Ytjgndgcegenikaa
