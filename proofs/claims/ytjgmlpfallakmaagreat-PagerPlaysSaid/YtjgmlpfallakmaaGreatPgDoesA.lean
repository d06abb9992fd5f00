/-
  Contracts of the statements' own helpers (rollbooklaw05.far, rollbooklaw05.meta). No conditions.
-/
import Derived.Test.YtjgmlpfallakmaaGreatB6
import Derived.Test.YtjgmlpfallakmaaGreatB4
import Derived.Test.YtjgmlpfallakmaaGreatB7
namespace Go.Proofs.YtjgmlpfallakmaaGreat
open Go.RowKit
theorem far_ok (x : ActP) (v : Value) (w : World) : Calls Tryz.prog 9 #[.agg (x.cells v)] w fun e w' => e = .returned (.bool (decide (2000 < x.page.body.size) || decide (2000 < x.text.size))) ∧ Below w.heap.size w w' := by
  have hbl := (Below.refl w.heap.size w).alloc (Nat.le_refl _) (.cells (x.cells v) 43)
  obtain ⟨kind, ⟨pk, pn, pt, pb⟩, ⟨mt, mr, mf, mp, ml⟩, next, n, text, picks⟩ := x
  unfold ActP.cells at hbl ⊢
  simp only at hbl ⊢
  by_cases h1 : 2000 < pb.size
  · have d1 : decide ((2000 : Int) < (pb.size : Int)) = true := decide_eq_true (by omega)
    have H : Hid (decide (2000 < pb.size) = true) := Lib.hid (decide_eq_true h1)
    clear h1
    go_enter Tryz.func9, Tryz.ntmps9
    go_wp2
    go_ret
    exact ⟨by rw [H.out]; rfl, hbl⟩
  · have d1 : decide ((2000 : Int) < (pb.size : Int)) = false := decide_eq_false (by omega)
    have H : Hid (decide (2000 < pb.size) = false) := Lib.hid (decide_eq_false h1)
    clear h1
    by_cases h2 : 2000 < text.size
    · have d2 : decide ((2000 : Int) < (text.size : Int)) = true := decide_eq_true (by omega)
      have H2 : Hid (decide (2000 < text.size) = true) := Lib.hid (decide_eq_true h2)
      clear h2
      go_enter Tryz.func9, Tryz.ntmps9
      go_wp2
      go_ret
      exact ⟨by rw [H.out, H2.out]; rfl, hbl⟩
    · have d2 : decide ((2000 : Int) < (text.size : Int)) = false := decide_eq_false (by omega)
      have H2 : Hid (decide (2000 < text.size) = false) := Lib.hid (decide_eq_false h2)
      clear h2
      go_enter Tryz.func9, Tryz.ntmps9
      go_wp2
      go_ret
      exact ⟨by rw [H.out, H2.out]; rfl, hbl⟩
theorem alloc3 (w : World) (a b : Obj) (cs : Array Value) {t : TypeId} : (((w.alloc a).alloc b).alloc (.cells cs t)).heap[w.heap.size + 1 + 1]? = some (.cells cs t (0, 0)) := by
  have := heap_alloc_new ((w.alloc a).alloc b) (.cells cs t)
  simpa using this
theorem below3 (w : World) (a b c : Obj) : Below w.heap.size w (((w.alloc a).alloc b).alloc c) := by
  have h1 := (Below.refl w.heap.size w).alloc (Nat.le_refl _) a
  have h2 := h1.alloc h1.size b
  exact h2.alloc h2.size c
set_option maxRecDepth 4000 in
set_option maxHeartbeats 1600000 in
theorem seal_arg (x : ActP) (v : Value) (now : MV) (ht : -1000 ≤ now.txn ∧ now.txn ≤ 2000000000000) (w : World) : Calls Tryz.prog 30 #[.agg (x.cells v), now.val] w fun e w' => e = .returned (x.seal_ now).val ∧ Below w.heap.size w w' := by
  have hw1 : IntKind.i64.wrap (now.txn + 1) = now.txn + 1 := IntWalk.i64_in _ (by omega)
  have hz := zeroM
  obtain ⟨kind, ⟨pk, pn, pt, pb⟩, ⟨mt, mr, mf, mp, ml⟩, next, n, text, picks⟩ := x
  obtain ⟨nt, nr, nf, np, nl⟩ := now
  unfold ActP.cells ActP.seal_ MV.val
  simp only at hw1 ⊢
  clear ht
  cases next with
  | false =>
    go_enter Tryz.func30, Tryz.ntmps30
    go_wp2
    refine bodyPost_ret (results_cell1 rfl _ _ (w.heap.size + 1 + 1) 40 _ (0, 0) _ rfl (alloc3 w _ _ _) Tryz.underlying40 rfl (by kernel_rfl)) rfl ⟨rfl, ?_⟩
    exact below3 w _ _ _
  | true =>
    go_enter Tryz.func30, Tryz.ntmps30
    go_wp2
    refine bodyPost_ret (results_cell1 rfl _ _ (w.heap.size + 1 + 1) 40 _ (0, 0) _ rfl (alloc3 w _ _ _) Tryz.underlying40 rfl (by kernel_rfl)) rfl ⟨rfl, ?_⟩
    exact below3 w _ _ _
end Go.Proofs.YtjgmlpfallakmaaGreat
