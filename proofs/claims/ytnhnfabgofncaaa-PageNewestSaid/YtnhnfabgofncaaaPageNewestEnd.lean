/-
  The statement PageNewest of the landed package page: of two texts the newest meta is told, and where it stands. No conditions.
-/
import Derived.Test.YtnhnfabgofncaaaPageNewestLaw
import Derived.Test.YtnhnfabgofncaaaPgNewest
namespace Go.Proofs.Ytnhnfabgofncaaa
theorem PageNewest_holds : Rows.PageNewestSaid := pageNewest_of thePage
end Go.Proofs.Ytnhnfabgofncaaa
