/-
  Plain laws of no statement: arguments opened: a page and a meta by value. No conditions but those typed.
-/
import Derived.Test.YtjgmlpfallakmaaGreatB3
import Derived.Deep.Fields
import Derived.ChangeSlices
import Derived.ProofKit
import Derived.OpenShut
namespace Go.Proofs.YtjgmlpfallakmaaGreat
open Go.ChangeShapes Go.WideShapes Go.ChangeAt Go.RowKit Go.Deep
theorem cellsI : Tryz.prog.cellsOf 3 = 1 := by kernel_rfl
theorem cellsS : Tryz.prog.cellsOf 9 = 1 := by kernel_rfl
theorem cellsP : Tryz.prog.cellsOf 38 = 4 := by kernel_rfl
theorem cellsM : Tryz.prog.cellsOf 40 = 5 := by kernel_rfl
section
variable {H : Type} {enc : TypeId × Value → H} {W : World} {base : Nat} {sp : Nat → Bool} {hd : Bool}
set_option maxRecDepth 100000 in
theorem page_of_trod {fuel : Nat} {cs : List Value} {x : DataW H × List MemPlace} (h : DataW.trod enc Tryz.prog W base sp hd fuel 38 cs = some x) :
    ∃ p : PV, cs = [.int .i64 p.kind, .int .i64 p.no, .int .i64 p.txn, .string p.body] := by
  obtain ⟨ys, n, _, hy, hlen, hyl, hf⟩ := DataW.trod_struct Tryz.underlying38 h
  rw [cellsP] at hlen
  match cs, hlen with
  | [v0, v1, v2, v3], _ =>
    have g0 : DataW.trod enc Tryz.prog W base sp hd n 3 (([v0, v1, v2, v3].drop 0).take (Tryz.prog.cellsOf 3)) = ys[0]? := hf 0 _ rfl
    have g1 : DataW.trod enc Tryz.prog W base sp hd n 3 (([v0, v1, v2, v3].drop 1).take (Tryz.prog.cellsOf 3)) = ys[1]? := hf 1 _ rfl
    have g2 : DataW.trod enc Tryz.prog W base sp hd n 3 (([v0, v1, v2, v3].drop 2).take (Tryz.prog.cellsOf 3)) = ys[2]? := hf 2 _ rfl
    have g3 : DataW.trod enc Tryz.prog W base sp hd n 9 (([v0, v1, v2, v3].drop 3).take (Tryz.prog.cellsOf 9)) = ys[3]? := hf 3 _ rfl
    rw [cellsI] at g0 g1 g2
    rw [cellsS] at g3
    match ys, hyl with
    | [y0, y1, y2, y3], _ =>
      obtain ⟨a, h0, _, _⟩ := DataW.trod_int Tryz.underlying3 g0
      obtain ⟨b, h1, _, _⟩ := DataW.trod_int Tryz.underlying3 g1
      obtain ⟨c, h2, _, _⟩ := DataW.trod_int Tryz.underlying3 g2
      obtain ⟨s, h3, _, _⟩ := DataW.trod_string Tryz.underlying9 g3
      injection h0 with h0
      injection h1 with h1
      injection h2 with h2
      injection h3 with h3
      subst h0 h1 h2 h3
      exact ⟨⟨a, b, c, s⟩, rfl⟩
set_option maxRecDepth 100000 in
theorem meta_of_trod {fuel : Nat} {cs : List Value} {x : DataW H × List MemPlace} (h : DataW.trod enc Tryz.prog W base sp hd fuel 40 cs = some x) :
    ∃ m : MV, cs = [.int .i64 m.txn, .int .i64 m.root, .int .i64 m.free, .int .i64 m.pages, .int .i64 m.limit] := by
  obtain ⟨ys, n, _, hy, hlen, hyl, hf⟩ := DataW.trod_struct Tryz.underlying40 h
  rw [cellsM] at hlen
  match cs, hlen with
  | [v0, v1, v2, v3, v4], _ =>
    have g0 : DataW.trod enc Tryz.prog W base sp hd n 3 (([v0, v1, v2, v3, v4].drop 0).take (Tryz.prog.cellsOf 3)) = ys[0]? := hf 0 _ rfl
    have g1 : DataW.trod enc Tryz.prog W base sp hd n 3 (([v0, v1, v2, v3, v4].drop 1).take (Tryz.prog.cellsOf 3)) = ys[1]? := hf 1 _ rfl
    have g2 : DataW.trod enc Tryz.prog W base sp hd n 3 (([v0, v1, v2, v3, v4].drop 2).take (Tryz.prog.cellsOf 3)) = ys[2]? := hf 2 _ rfl
    have g3 : DataW.trod enc Tryz.prog W base sp hd n 3 (([v0, v1, v2, v3, v4].drop 3).take (Tryz.prog.cellsOf 3)) = ys[3]? := hf 3 _ rfl
    have g4 : DataW.trod enc Tryz.prog W base sp hd n 3 (([v0, v1, v2, v3, v4].drop 4).take (Tryz.prog.cellsOf 3)) = ys[4]? := hf 4 _ rfl
    rw [cellsI] at g0 g1 g2 g3 g4
    match ys, hyl with
    | [y0, y1, y2, y3, y4], _ =>
      obtain ⟨a, h0, _, _⟩ := DataW.trod_int Tryz.underlying3 g0
      obtain ⟨b, h1, _, _⟩ := DataW.trod_int Tryz.underlying3 g1
      obtain ⟨c, h2, _, _⟩ := DataW.trod_int Tryz.underlying3 g2
      obtain ⟨d, h3, _, _⟩ := DataW.trod_int Tryz.underlying3 g3
      obtain ⟨e, h4, _, _⟩ := DataW.trod_int Tryz.underlying3 g4
      injection h0 with h0
      injection h1 with h1
      injection h2 with h2
      injection h3 with h3
      injection h4 with h4
      subst h0 h1 h2 h3 h4
      exact ⟨⟨a, b, c, d, e⟩, rfl⟩
end
end Go.Proofs.YtjgmlpfallakmaaGreat
