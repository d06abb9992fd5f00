/-
  Plain laws of no statement: an argument opened: a call of chapter 5's statements by value. No conditions but those typed.
-/
import Derived.Test.YtjgmlpfallakmaaB6
import Derived.Test.YtjgmlpfallakmaaPageOpen
import Derived.Test.YtjgmlpfallakmaaOpenActs
namespace Go.Proofs.Ytjgmlpfallakmaa
open Go.ChangeShapes Go.WideShapes Go.ChangeAt Go.RowKit Go.Deep
theorem cellsA5 : Try.prog.cellsOf 53 = 14 := by kernel_rfl
theorem cellsB : Try.prog.cellsOf 4 = 1 := by kernel_rfl
theorem cellsL : Try.prog.cellsOf 35 = 1 := by kernel_rfl
section
variable {H : Type} {enc : TypeId × Value → H} {W : World} {base : Nat} {sp : Nat → Bool} {hd : Bool}
set_option maxRecDepth 100000 in
/-- a call's cells read as a call -/
theorem act5_of_trod {B fuel : Nat} {cs : List Value} {x : DataW H × List MemPlace} (h : DataW.trod enc Try.prog W base sp hd fuel 53 cs = some x) (hlt : ∀ q ∈ x.2, q.block < B) :
    ∃ (y : ActP) (pv : Value), cs = (y.cells pv).toList ∧ NumsLow W B pv y.picks ∧ y.n ≤ 9223372036854775807 := by
  obtain ⟨ys, n, _, hy, hlen, hyl, hf⟩ := DataW.trod_struct Try.underlying53 h
  rw [cellsA5] at hlen
  match cs, hlen with
  | [v0, v1, v2, v3, v4, v5, v6, v7, v8, v9, v10, v11, v12, v13], _ =>
    have g0 : DataW.trod enc Try.prog W base sp hd n 3 (([v0, v1, v2, v3, v4, v5, v6, v7, v8, v9, v10, v11, v12, v13].drop 0).take (Try.prog.cellsOf 3)) = ys[0]? := hf 0 _ rfl
    have g1 : DataW.trod enc Try.prog W base sp hd n 51 (([v0, v1, v2, v3, v4, v5, v6, v7, v8, v9, v10, v11, v12, v13].drop 1).take (Try.prog.cellsOf 51)) = ys[1]? := hf 1 _ rfl
    have g2 : DataW.trod enc Try.prog W base sp hd n 32 (([v0, v1, v2, v3, v4, v5, v6, v7, v8, v9, v10, v11, v12, v13].drop 5).take (Try.prog.cellsOf 32)) = ys[2]? := hf 2 _ rfl
    have g3 : DataW.trod enc Try.prog W base sp hd n 4 (([v0, v1, v2, v3, v4, v5, v6, v7, v8, v9, v10, v11, v12, v13].drop 10).take (Try.prog.cellsOf 4)) = ys[3]? := hf 3 _ rfl
    have g4 : DataW.trod enc Try.prog W base sp hd n 3 (([v0, v1, v2, v3, v4, v5, v6, v7, v8, v9, v10, v11, v12, v13].drop 11).take (Try.prog.cellsOf 3)) = ys[4]? := hf 4 _ rfl
    have g5 : DataW.trod enc Try.prog W base sp hd n 9 (([v0, v1, v2, v3, v4, v5, v6, v7, v8, v9, v10, v11, v12, v13].drop 12).take (Try.prog.cellsOf 9)) = ys[5]? := hf 5 _ rfl
    have g6 : DataW.trod enc Try.prog W base sp hd n 35 (([v0, v1, v2, v3, v4, v5, v6, v7, v8, v9, v10, v11, v12, v13].drop 13).take (Try.prog.cellsOf 35)) = ys[6]? := hf 6 _ rfl
    rw [cellsI] at g0 g4
    rw [cellsP] at g1
    rw [cellsM] at g2
    rw [cellsB] at g3
    rw [cellsS] at g5
    rw [cellsL] at g6
    match ys, hyl with
    | [y0, y1, y2, y3, y4, y5, y6], _ =>
      obtain ⟨k, h0, _, _⟩ := DataW.trod_int Try.underlying3 g0
      obtain ⟨p, h1⟩ := page_of_trod g1
      obtain ⟨m, h2⟩ := meta_of_trod g2
      obtain ⟨b, h3, _⟩ := DataW.trod_bool Try.underlying4 g3
      obtain ⟨i, h4, _, w4⟩ := DataW.trod_int Try.underlying3 g4
      obtain ⟨s, h5, _, _⟩ := DataW.trod_string Try.underlying9 g5
      simp only [List.drop_succ_cons, List.drop_zero, List.take_succ_cons, List.take_zero, List.cons.injEq, and_true] at h0 h1 h2 h3 h4 h5
      obtain ⟨a1, a2, a3, a4⟩ := h1
      obtain ⟨b1, b2, b3, b4, b5⟩ := h2
      subst h0 a1 a2 a3 a4 b1 b2 b3 b4 b5 h3 h4 h5
      subst hy
      obtain ⟨l, hl⟩ := nums_of_trod (B := B) g6 (fun q hq => hlt q (by simp [hq]))
      exact ⟨⟨k, p, m, b, i, s, l⟩, v13, rfl, hl, (bounds_i64 w4).2⟩
end
end Go.Proofs.Ytjgmlpfallakmaa
