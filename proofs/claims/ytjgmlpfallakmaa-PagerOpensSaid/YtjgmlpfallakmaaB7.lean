/-
  Contracts of the reference's pager (package rollbookref05): Format. Conditions: at most 900000 calls before.
  Contracts of the reference's pager (package rollbookref05): its representation, Open. Conditions: at most 900000 calls before.
  Contracts of the reference's pager (package rollbookref05): Open. Conditions: at most 900000 calls before.
  Contracts of the reference's pager (package rollbookref05): Read. Conditions: at most 900000 calls before.
  Contracts of the reference's pager (package rollbookref05): Write. Conditions: at most 900000 calls before.
  Contracts of the reference's pager (package rollbookref05): Seal. Conditions: at most 900000 calls before.
  Contracts of the reference's pager (package rollbookref05): Done; all six together. Conditions: at most 900000 calls before.
-/
import Derived.Test.YtjgmlpfallakmaaB6
import Derived.Test.YtjgmlpfallakmaaB4
import Derived.BigQuiet
import Derived.Deep.RegionHeld3
import Derived.Deep.CutRange
import Derived.Deep.DeepCutAuto
section
namespace Go.Proofs.Ytjgmlpfallakmaa
open Go.RowKit
theorem Did.below {At : World → Nat → RD → List Nat → Prop} {w w1 : World} {p : Nat} {F : List Nat} {d' : RD} {e0 : Ending} {e : Ending} {w' : World} (hB : Below w.heap.size w w1) (h : Did At w1 p F d' e0 e w') : Did At w p F d' e0 e w' :=
  by
  obtain ⟨he, F', hA, hT', hG⟩ := h
  have hT := Touch.ofBelow hB
  exact ⟨he, F', hA, (hT.more (by simp)).trans hT' (Grows.refl _ _), fun k hk => (hG k hk).elim .inl (fun h => .inr (Nat.le_trans hT.size h))⟩
end Go.Proofs.Ytjgmlpfallakmaa
end
section
namespace Go.Proofs.Ytjgmlpfallakmaa
open Go.RowKit
def MV.cells (m : MV) : List Value := [.int .i64 m.txn, .int .i64 m.root, .int .i64 m.free, .int .i64 m.pages, .int .i64 m.limit]
/-- the cells of the reference's pager -/
def pgCells (s : PS) (p : Nat) (vs vr : Value) : Array Value :=
  #[.pointer (some ⟨p, 0, none⟩), .int .i64 s.m.txn, .int .i64 s.m.root, .int .i64 s.m.free, .int .i64 s.m.pages, .int .i64 s.m.limit,
    .int .i64 s.o.txn, .int .i64 s.o.root, .int .i64 s.o.free, .int .i64 s.o.pages, .int .i64 s.o.limit, .bool s.has, vs, vr]
theorem zeroM : ∀ w, (zeroValue 32).run Try.prog w = .ok (.agg #[.int .i64 0, .int .i64 0, .int .i64 0, .int .i64 0, .int .i64 0]) w := fun w => by kernel_rfl
theorem below_drewN2 {B : Nat} {w w' : World} (h : Below B w w') (n : Nat) : Below B w (w'.drewN n) := ⟨h.os, h.tape, h.output, h.size, h.block⟩
end Go.Proofs.Ytjgmlpfallakmaa
end
section
namespace Go.Proofs.Ytjgmlpfallakmaa
open Go.RowKit
end Go.Proofs.Ytjgmlpfallakmaa
end
section
namespace Go.Proofs.Ytjgmlpfallakmaa
open Go.RowKit
theorem zeroP : ∀ w, (zeroValue 51).run Try.prog w = .ok (.agg #[.int .i64 0, .int .i64 0, .int .i64 0, .string ⟨#[]⟩]) w := fun w => by kernel_rfl
/-- the result's cells are written -/
theorem stored4 {w w' : World} {g : Nat} {cs : Array Value} {t : TypeId} (h : Blk w' g cs t) (hB : Below g w w') (a b c d : Value) :
    Blk ((((w'.setCell ⟨g, 0, none⟩ a).setCell ⟨g, 1, none⟩ b).setCell ⟨g, 2, none⟩ c).setCell ⟨g, 3, none⟩ d) g ((((cs.setIfInBounds 0 a).setIfInBounds 1 b).setIfInBounds 2 c).setIfInBounds 3 d) t ∧
    Below g w ((((w'.setCell ⟨g, 0, none⟩ a).setCell ⟨g, 1, none⟩ b).setCell ⟨g, 2, none⟩ c).setCell ⟨g, 3, none⟩ d) :=
  ⟨(((h.set 0 a).set 1 b).set 2 c).set 3 d, (((hB.setCell (p := ⟨g, 0, none⟩) (Nat.le_refl _) a).setCell (p := ⟨g, 1, none⟩) (Nat.le_refl _) b).setCell (p := ⟨g, 2, none⟩) (Nat.le_refl _) c).setCell (p := ⟨g, 3, none⟩) (Nat.le_refl _) d⟩
end Go.Proofs.Ytjgmlpfallakmaa
end
section
namespace Go.Proofs.Ytjgmlpfallakmaa
open Go.RowKit
attribute [local go_sem ↓] Go.wp_at_zero Go.wp_at_succ
theorem PV.packS_512 (x : PV) (h : x.right = true) : x.packS.size = 512 := by
  unfold PV.packS
  rw [if_pos h, ba_size, Page.packed_length]
  rw [PV.right_iff] at h
  unfold PV.pg
  simp only [Array.length_toList]
  exact h.2.2.2.2.2.2
theorem info3 : (Try.prog.info? 3).map (fun i => (i.zero, i.size, i.bytes)) = some (some (.int .i64 0), 1, 8) := by kernel_rfl
theorem Grows.left {F F' G : List Nat} {n : Nat} (h : Grows F F' n) : Grows (F ++ G) (F' ++ G) n := fun k hk => by
  rcases List.mem_append.1 hk with hk | hk
  · exact (h k hk).elim (fun h => .inl (List.mem_append_left _ h)) .inr
  · exact .inl (List.mem_append_right _ hk)
theorem Did2.same {At : World → Nat → RD → List Nat → Prop} {PAt : World → Nat → Nat → PS → List Nat → Prop} {w w' : World} {p q : Nat} {F G : List Nat} {d : RD} {s : PS} {e : Ending} (hA : At w' p d F) (hP : PAt w' q p s G) (hFG : ∀ k ∈ F, k ∉ G) (hB : Below w.heap.size w w') : Did2 At PAt w p q (F ++ G) d s e e w' :=
  ⟨rfl, F, G, hA, hP, hFG, (Touch.ofBelow hB).more (by simp), Grows.refl _ _⟩
end Go.Proofs.Ytjgmlpfallakmaa
end
section
namespace Go.Proofs.Ytjgmlpfallakmaa
open Go.RowKit
attribute [local go_sem ↓] Go.wp_at_zero Go.wp_at_succ
theorem infoM : (Try.prog.info? 32).map (fun i => (i.zero, i.size, i.bytes)) = some (some (.agg #[.int .i64 0, .int .i64 0, .int .i64 0, .int .i64 0, .int .i64 0]), 5, 40) := by kernel_rfl
end Go.Proofs.Ytjgmlpfallakmaa
end
section
namespace Go.Proofs.Ytjgmlpfallakmaa
open Go.RowKit
end Go.Proofs.Ytjgmlpfallakmaa
end
