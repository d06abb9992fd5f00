/-
  The program's device meets the list of contracts; the four statements of chapter 3 follow. No conditions but those typed.
-/
import Derived.Test.YtbjiliodelndcaaDevX
import Derived.Test.YtbjiliodelndcaaDevW
import Derived.Test.YtbjiliodelndcaaDevST
namespace Go.Proofs.Ytbjiliodelndcaa
open Go.RowKit
theorem theKit : DevKit DevAt where
  lt := DevAt.lt
  touch := DevAt.touch
  write := fun w p d F K hK ok i s h => dev_write w p d F K hK ok i s h
  sync := fun w p d F K hK ok h => dev_sync w p d F K hK ok h
  fuse := fun w p d F n h => dev_fuse w p d F n h
  cut := fun w p d F h => dev_cut w p d F h
  start := fun w p d F K hK ok h v picks hp => dev_start w p d F K hK ok h v picks hp
  read := fun w p d F K hK ok i h => dev_read w p d F K hK ok i h
  waits := fun w p d F _ _ _ i h => dev_waits w p d F i h
  newNot := fun n w h => dev_new_not n w h
  new := fun n w h1 h2 => dev_new n h1 h2 w
  size := dev_size
  on := dev_on
  steps := dev_steps
  writes := dev_writes
  lasts := fun w p d F i h => dev_lasts w p d F i h
  nilSize := nil_size
  nilOn := nil_on
  nilSteps := nil_steps
  nilWrites := nil_writes
  nilRead := nil_read
  nilWaits := nil_waits
  nilLasts := nil_lasts
  nilCut := nil_cut
  nilStart := nil_start
  nilFuse := nil_fuse
  nilSync := nil_sync
  nilWrite := nil_write
end Go.Proofs.Ytbjiliodelndcaa
