/-
  The statement PagerCommits of the landed package pager: old or new, wherever the power goes; opening writes nothing. No conditions.
-/
import Derived.Test.YtjgmlpfallakmaaPgCommitsLaw
import Derived.Test.YtjgmlpfallakmaaPgLand
namespace Go.Proofs.Ytjgmlpfallakmaa
theorem pagerCommits_holds : Rows.PagerCommitsSaid := pagerCommits_of DevAt LPg theUse.lt theUse.touch theNew theUse theSteps theOn thePager
end Go.Proofs.Ytjgmlpfallakmaa
