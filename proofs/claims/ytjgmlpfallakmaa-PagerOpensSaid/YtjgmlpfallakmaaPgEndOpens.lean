/-
  The statement PagerOpens of the landed package pager: of any two sectors a file is opened by the newest meta, or refused. No conditions.
-/
import Derived.Test.YtjgmlpfallakmaaPgOpensLaw
import Derived.Test.YtjgmlpfallakmaaPgLand
namespace Go.Proofs.Ytjgmlpfallakmaa
theorem pagerOpens_holds : Rows.PagerOpensSaid := pagerOpens_of DevAt LPg theUse.lt theUse.touch theNew theUse theNewest thePager
end Go.Proofs.Ytjgmlpfallakmaa
