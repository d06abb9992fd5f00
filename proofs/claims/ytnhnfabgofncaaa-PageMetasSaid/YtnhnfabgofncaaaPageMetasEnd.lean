/-
  The statement PageMetas of the landed package page: a meta that may be has its bytes, and is read from them as it was. No conditions.
-/
import Derived.Test.YtnhnfabgofncaaaPageMetasLaw
import Derived.Test.YtnhnfabgofncaaaPgNewest
namespace Go.Proofs.Ytnhnfabgofncaaa
theorem PageMetas_holds : Rows.PageMetasSaid := pageMetas_of thePage
end Go.Proofs.Ytnhnfabgofncaaa
