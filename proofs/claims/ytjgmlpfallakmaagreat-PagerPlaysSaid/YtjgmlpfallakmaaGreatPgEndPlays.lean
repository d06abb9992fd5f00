/-
  The statement PagerPlays of the landed package pager: whatever is written, synced, sealed, done, cut and opened: each answer, the metas, all pages and the log are what the chapter says. No conditions.
-/
import Derived.Test.YtjgmlpfallakmaaGreatPgPlaysLaw
import Derived.Test.YtjgmlpfallakmaaGreatPgLand
namespace Go.Proofs.YtjgmlpfallakmaaGreat
theorem pagerPlays_holds : Rows.PagerPlaysSaid := pagerPlays_of DevAt LPg theUse theNew thePager theSteps
end Go.Proofs.YtjgmlpfallakmaaGreat
