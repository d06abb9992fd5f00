/-
  The landed pager, over the landed device and pages, meets what chapter 5's statements lean on. No conditions but those typed.
-/
import Derived.Test.YtjgmlpfallakmaaB8
import Derived.Test.YtjgmlpfallakmaaPgDevUse
namespace Go.Proofs.Ytjgmlpfallakmaa
theorem theLandDev : LandDev DevAt where
  use := theUse
  size := theSize
  sizeNil := theSizeNil
theorem thePager : PgKit DevAt LPg := landPager theLandDev thePage
end Go.Proofs.Ytjgmlpfallakmaa
