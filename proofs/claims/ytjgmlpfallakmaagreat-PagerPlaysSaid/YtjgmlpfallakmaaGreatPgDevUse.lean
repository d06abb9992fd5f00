/-
  The landed device meets what chapter 5's statements lean on (the parts of the kit that they call). No conditions but those typed.
-/
import Derived.Test.YtjgmlpfallakmaaGreatB2
import Derived.Test.YtjgmlpfallakmaaGreatPgOpensW
import Derived.Test.YtjgmlpfallakmaaGreatB5
namespace Go.Proofs.YtjgmlpfallakmaaGreat
open Go.RowKit
theorem theUse : DevUse DevAt 35 47 32 33 34 70 where
  lt := DevAt.lt
  touch := DevAt.touch
  write := fun w p d F K hK ok i s h => dev_write w p d F K hK ok i s h
  sync := fun w p d F K hK ok h => dev_sync w p d F K hK ok h
  fuse := fun w p d F n h => dev_fuse w p d F n h
  cut := fun w p d F h => dev_cut w p d F h
  start := fun w p d F K hK ok h v picks hp => dev_start w p d F K hK ok h v picks hp
  read := fun w p d F K hK ok i h => dev_read w p d F K hK ok i h
theorem theNew : HasNew DevAt 18 where
  newNot := fun n w h => dev_new_not n w h
  new := fun n w h1 h2 => dev_new n h1 h2 w
theorem theSteps : HasSteps DevAt 12 := dev_steps
theorem theSize : ∀ (w : World) (p : Nat) (d : RD) (F : List Nat), DevAt w p d F → Calls Tryz.prog 45 #[.pointer (some ⟨p, 0, none⟩)] w fun e w' => e = .returned (.int .i64 d.sector.length) ∧ w = w' := dev_size
theorem theSizeNil : ∀ (w : World), Calls Tryz.prog 45 #[.pointer none] w fun e w' => e = .returned (.int .i64 0) ∧ w = w' := nil_size
theorem theNewest : HasNewest 48 := fun w a b ha hb => thePage.newest w a b ha hb
end Go.Proofs.YtjgmlpfallakmaaGreat
