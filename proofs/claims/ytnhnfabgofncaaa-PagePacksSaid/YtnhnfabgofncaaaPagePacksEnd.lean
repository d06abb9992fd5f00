/-
  The statement PagePacks of the landed package page: a page that may be has its bytes, and is read from them as it was. No conditions.
-/
import Derived.Test.YtnhnfabgofncaaaPagePacksLaw
import Derived.Test.YtnhnfabgofncaaaPgNewest
namespace Go.Proofs.Ytnhnfabgofncaaa
theorem PagePacks_holds : Rows.PagePacksSaid := pagePacks_of thePage
end Go.Proofs.Ytnhnfabgofncaaa
