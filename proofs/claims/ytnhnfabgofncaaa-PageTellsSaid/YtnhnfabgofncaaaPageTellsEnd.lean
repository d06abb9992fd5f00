/-
  The statement PageTells of the landed package page: bytes of a page, of a meta, of which one to four neighbouring ones were turned, are none's. No conditions.
-/
import Derived.Test.YtnhnfabgofncaaaPageTellsLaw
import Derived.Test.YtnhnfabgofncaaaPgNewest
namespace Go.Proofs.Ytnhnfabgofncaaa
theorem PageTells_holds : Rows.PageTellsSaid := pageTells_of thePage
end Go.Proofs.Ytnhnfabgofncaaa
