/-
  The statement PageReads of the landed package page: any bytes are a page's, or none's. No conditions.
-/
import Derived.Test.YtnhnfabgofncaaaPageReadsLaw
import Derived.Test.YtnhnfabgofncaaaPgNewest
namespace Go.Proofs.Ytnhnfabgofncaaa
theorem PageReads_holds : Rows.PageReadsSaid := pageReads_of thePage
end Go.Proofs.Ytnhnfabgofncaaa
