/-
  The statement PagerFormats of the landed package pager: any size of device and any limit give a file, or are refused. No conditions.
-/
import Derived.Test.YtjgmlpfallakmaaPgFmtLaw
import Derived.Test.YtjgmlpfallakmaaPgLand
namespace Go.Proofs.Ytjgmlpfallakmaa
theorem pagerFormats_holds : Rows.PagerFormatsSaid := pagerFormats_of DevAt LPg theUse.lt theUse.touch theNew thePager
end Go.Proofs.Ytjgmlpfallakmaa
