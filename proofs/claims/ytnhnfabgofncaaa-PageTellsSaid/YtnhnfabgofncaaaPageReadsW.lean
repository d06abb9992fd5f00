/-
  P4.1 (any bytes are a page's, or none's), of any functions that answer as the list says: the statement's function returns true at every text. No conditions but those typed.
-/
import Derived.Test.YtnhnfabgofncaaaPageAwake
namespace Go.Proofs.Ytnhnfabgofncaaa
open Go.RowKit
/-- what was laid is there, behind a call -/
theorem kept4 {w2 w3 : World} {t : TypeId} {x0 x1 x2 x3 : Value} (hb : Below (w2.alloc (.cells #[x0, x1, x2, x3] t)).heap.size (w2.alloc (.cells #[x0, x1, x2, x3] t)) w3) :
    w2.heap.size < w3.heap.size ∧ Below w2.heap.size w2 w3 ∧ w3.cell? ⟨w2.heap.size, 0, none⟩ = some x0 ∧ w3.cell? ⟨w2.heap.size, 1, none⟩ = some x1 ∧ w3.cell? ⟨w2.heap.size, 2, none⟩ = some x2 ∧ w3.cell? ⟨w2.heap.size, 3, none⟩ = some x3 := by
  have h : Blk w3 w2.heap.size #[x0, x1, x2, x3] t := (hb.block _ (by simp)).trans (heap_alloc_new w2 _)
  exact ⟨h.lt, ((Below.refl _ w2).alloc (Nat.le_refl _) _).trans (hb.mono (by simp)), h.cell 0, h.cell 1, h.cell 2, h.cell 3⟩
/-- what was laid is there, behind a call -/
theorem kept5 {w2 w3 : World} {t : TypeId} {x0 x1 x2 x3 x4 : Value} (hb : Below (w2.alloc (.cells #[x0, x1, x2, x3, x4] t)).heap.size (w2.alloc (.cells #[x0, x1, x2, x3, x4] t)) w3) :
    w2.heap.size < w3.heap.size ∧ Below w2.heap.size w2 w3 ∧ w3.cell? ⟨w2.heap.size, 0, none⟩ = some x0 ∧ w3.cell? ⟨w2.heap.size, 1, none⟩ = some x1 ∧ w3.cell? ⟨w2.heap.size, 2, none⟩ = some x2 ∧ w3.cell? ⟨w2.heap.size, 3, none⟩ = some x3 ∧ w3.cell? ⟨w2.heap.size, 4, none⟩ = some x4 := by
  have h : Blk w3 w2.heap.size #[x0, x1, x2, x3, x4] t := (hb.block _ (by simp)).trans (heap_alloc_new w2 _)
  exact ⟨h.lt, ((Below.refl _ w2).alloc (Nat.le_refl _) _).trans (hb.mono (by simp)), h.cell 0, h.cell 1, h.cell 2, h.cell 3, h.cell 4⟩
set_option maxRecDepth 4000 in
set_option maxHeartbeats 800000 in
theorem reads_any (K : PageKit 11 9 13 21 17 18 23) (w : World) (s : ByteArray) : Calls Try.prog 4 #[.string s] w fun e w' => e = .returned (.bool true) ∧ Below w.heap.size w w' := by
  have AW := fun w => Lib.hid (pawake_ok K w)
  by_cases h : 2000 < s.size
  · have d1 : decide ((2000 : Int) < (s.size : Int)) = true := decide_eq_true (by omega)
    clear h
    go_enter Try.func4, Try.ntmps4
    go_wp2_with fail
    refine (AW _).out.mono ?_
    rintro _ w1 ⟨rfl, hb1⟩
    go_wp2
    go_ret
    exact ⟨rfl, hb1⟩
  · have d1 : decide ((2000 : Int) < (s.size : Int)) = false := decide_eq_false (by omega)
    have UC := fun w => K.unpack w s (by omega)
    have RC := fun w => refPage.unpack w s (by omega)
    obtain ⟨⟨kind, no, txn, body⟩, hp⟩ : ∃ p, unpackP s = p := ⟨_, rfl⟩
    obtain ⟨e, he⟩ : ∃ e, unpackE s = e := ⟨_, rfl⟩
    simp only [hp, he, PV.val] at UC RC
    have UC := fun w => Lib.hid (UC w)
    have RC := fun w => Lib.hid (RC w)
    clear hp he h
    go_enter Try.func4, Try.ntmps4
    go_wp2_with fail
    refine (AW _).out.mono ?_
    rintro _ w1 ⟨rfl, hb1⟩
    go_wp2_with fail
    refine (UC _).out.mono ?_
    rintro _ w2 ⟨rfl, hb2⟩
    go_wp2_with fail
    refine (RC _).out.mono ?_
    rintro _ w3 ⟨rfl, hb3⟩
    obtain ⟨l1, hb3', c0, c1, c2, c3⟩ := kept4 hb3
    have B2 := hb1.trans (hb2.mono hb1.size)
    have B3 := B2.trans (hb3'.mono B2.size)
    have HB := Lib.hid (B3.alloc B3.size (.cells #[.int .i64 kind, .int .i64 no, .int .i64 txn, .string body] 23))
    clear B2 B3 hb1 hb2 hb3 hb3'
    go_wp2
    trace_state
    go_ret
    exact ⟨rfl, HB.out⟩
end Go.Proofs.Ytnhnfabgofncaaa
