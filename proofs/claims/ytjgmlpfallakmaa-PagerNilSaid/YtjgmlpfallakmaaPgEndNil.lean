/-
  The statement PagerNil of the landed package pager: a pager that is not there does nothing. No conditions.
-/
import Derived.Test.YtjgmlpfallakmaaPgNilLaw
import Derived.Test.YtjgmlpfallakmaaPgLand
namespace Go.Proofs.Ytjgmlpfallakmaa
theorem pagerNil_holds : Rows.PagerNilSaid := pagerNil_of DevAt LPg theUse.lt theUse.touch theNew thePager
end Go.Proofs.Ytjgmlpfallakmaa
