/-
  The landed device meets what chapter 5's statements lean on (the parts of the kit that they call). No conditions but those typed.
-/
import Derived.Test.YtjgmlpfallakmaaB2
import Derived.Test.YtjgmlpfallakmaaPgOpensW
import Derived.Test.YtjgmlpfallakmaaB5
namespace Go.Proofs.Ytjgmlpfallakmaa
open Go.RowKit
theorem theUse : DevUse DevAt 20 30 15 17 18 21 where
  lt := DevAt.lt
  touch := DevAt.touch
  write := fun w p d F K hK ok i s h => dev_write w p d F K hK ok i s h
  sync := fun w p d F K hK ok h => dev_sync w p d F K hK ok h
  fuse := fun w p d F n h => dev_fuse w p d F n h
  cut := fun w p d F h => dev_cut w p d F h
  start := fun w p d F K hK ok h v picks hp => dev_start w p d F K hK ok h v picks hp
  read := fun w p d F K hK ok i h => dev_read w p d F K hK ok i h
theorem theNew : HasNew DevAt 8 where
  newNot := fun n w h => dev_new_not n w h
  new := fun n w h1 h2 => dev_new n h1 h2 w
theorem theSteps : HasSteps DevAt 19 := dev_steps
theorem theOn : HasOn DevAt 16 := dev_on
theorem theSize : ∀ (w : World) (p : Nat) (d : RD) (F : List Nat), DevAt w p d F → Calls Try.prog 28 #[.pointer (some ⟨p, 0, none⟩)] w fun e w' => e = .returned (.int .i64 d.sector.length) ∧ w = w' := dev_size
theorem theSizeNil : ∀ (w : World), Calls Try.prog 28 #[.pointer none] w fun e w' => e = .returned (.int .i64 0) ∧ w = w' := nil_size
theorem theNewest : HasNewest 22 := fun w a b ha hb => thePage.newest w a b ha hb
end Go.Proofs.Ytjgmlpfallakmaa
