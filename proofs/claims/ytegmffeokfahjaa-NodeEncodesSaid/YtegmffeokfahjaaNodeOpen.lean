/-
  Plain laws of no statement: an argument opened: a cell by value, a list of cells. No conditions but those typed.
-/
import Derived.Test.YtegmffeokfahjaaRNodeA
import Derived.Deep.Fields
import Derived.ChangeSlices
import Derived.ProofKit
import Derived.OpenShut
namespace Go.Proofs.Ytegmffeokfahjaa
open Go.ChangeShapes Go.WideShapes Go.ChangeAt Go.RowKit Go.Deep
theorem cellsI6 : Try.prog.cellsOf 3 = 1 := by kernel_rfl
theorem cellsS6 : Try.prog.cellsOf 9 = 1 := by kernel_rfl
theorem cellsC6 : Try.prog.cellsOf 35 = 5 := by kernel_rfl
instance : Inhabited CV := ⟨CV.none⟩
section
variable {H : Type} {enc : TypeId × Value → H} {W : World} {base : Nat} {sp : Nat → Bool} {hd : Bool}
set_option maxRecDepth 100000 in
/-- a cell's five cells read as a cell -/
theorem cv_of_trod {fuel : Nat} {cs : List Value} {x : DataW H × List MemPlace} (h : DataW.trod enc Try.prog W base sp hd fuel 35 cs = some x) : ∃ y : CV, cs = y.cells := by
  obtain ⟨ys, n, _, hy, hlen, hyl, hf⟩ := DataW.trod_struct Try.underlying35 h
  rw [cellsC6] at hlen
  match cs, hlen with
  | [v0, v1, v2, v3, v4], _ =>
    have g0 : DataW.trod enc Try.prog W base sp hd n 9 (([v0, v1, v2, v3, v4].drop 0).take (Try.prog.cellsOf 9)) = ys[0]? := hf 0 _ rfl
    have g1 : DataW.trod enc Try.prog W base sp hd n 9 (([v0, v1, v2, v3, v4].drop 1).take (Try.prog.cellsOf 9)) = ys[1]? := hf 1 _ rfl
    have g2 : DataW.trod enc Try.prog W base sp hd n 3 (([v0, v1, v2, v3, v4].drop 2).take (Try.prog.cellsOf 3)) = ys[2]? := hf 2 _ rfl
    have g3 : DataW.trod enc Try.prog W base sp hd n 3 (([v0, v1, v2, v3, v4].drop 3).take (Try.prog.cellsOf 3)) = ys[3]? := hf 3 _ rfl
    have g4 : DataW.trod enc Try.prog W base sp hd n 3 (([v0, v1, v2, v3, v4].drop 4).take (Try.prog.cellsOf 3)) = ys[4]? := hf 4 _ rfl
    rw [cellsS6] at g0 g1
    rw [cellsI6] at g2 g3 g4
    match ys, hyl with
    | [y0, y1, y2, y3, y4], _ =>
      obtain ⟨a, h0, _, _⟩ := DataW.trod_string Try.underlying9 g0
      obtain ⟨b, h1, _, _⟩ := DataW.trod_string Try.underlying9 g1
      obtain ⟨c, h2, _, _⟩ := DataW.trod_int Try.underlying3 g2
      obtain ⟨d, h3, _, _⟩ := DataW.trod_int Try.underlying3 g3
      obtain ⟨e, h4, _, _⟩ := DataW.trod_int Try.underlying3 g4
      simp only [List.drop_succ_cons, List.drop_zero, List.take_succ_cons, List.take_zero, List.cons.injEq, and_true] at h0 h1 h2 h3 h4
      subst h0 h1 h2 h3 h4
      exact ⟨⟨a, b, c, d, e⟩, rfl⟩
set_option maxRecDepth 100000 in
theorem cells_of_trod {fuel : Nat} {v : Value} {x : DataW H × List MemPlace} (h : DataW.trod enc Try.prog W base sp hd fuel 22 [v] = some x) (hlt : ∀ q ∈ x.2, q.block < W.heap.size) : ∃ l, CellsAt W v l := by
  rcases open_slice Try.underlying22 h with ⟨hcs, _⟩ | ⟨a, len, cap, m, n, D, Pl, hcs, _, hl, hm, hmm, hx, hi⟩
  · injection hcs with hcs
    subst hcs
    exact ⟨[], none, 0, rfl, by simp, by simp, fun j hj => by simp at hj⟩
  · injection hcs with hcs
    subst hcs
    subst hx
    rw [cellsC6] at hi hlt
    have hlm : len ≤ m := by rw [hmm]; split <;> omega
    have hsp0 : 0 < len → a.spot = none := by
      intro h0
      obtain ⟨cs', hc, ht⟩ := hi 0 (by omega)
      obtain ⟨_, _, hat⟩ := World.cells?_some hc
      obtain ⟨y, rfl⟩ := cv_of_trod ht
      have k0 := hat 0 (by omega)
      simp only [Nat.zero_mul, Addr.add, if_true] at k0
      exact World.cell?_spot (v := .string y.key) (k0.trans rfl)
    have hone : ∀ i, i < len → ∃ y : CV, ∃ b off, a = ⟨b, off, none⟩ ∧ b < W.heap.size ∧ ∀ k, k < 5 → W.cell? ⟨b, off + i * 5 + k, none⟩ = y.cells[k]? := by
      intro i hil
      obtain ⟨cs', hc, ht⟩ := hi i (by omega)
      obtain ⟨_, _, hat⟩ := World.cells?_some hc
      obtain ⟨y, rfl⟩ := cv_of_trod ht
      obtain ⟨b, off, spot⟩ := a
      have hspot : spot = none := hsp0 (by omega)
      subst hspot
      have hblt : b < W.heap.size := hlt (.cell b off) (List.mem_append_left _ (MemPlace.mem_row.2 ⟨0, by omega, by simp⟩))
      refine ⟨y, b, off, rfl, hblt, fun k hk => ?_⟩
      have kk := hat k (by omega)
      simp only [Addr.add_lit] at kk
      rw [kk]
    obtain ⟨f, hf⟩ := choose_lt hone
    have hll : ((List.range len).map f).length = len := by simp
    refine ⟨(List.range len).map f, some a, cap, by rw [hll], by omega, by simp only [maxLen] at hm; omega, fun k hk => ?_⟩
    rw [hll] at hk
    obtain ⟨b, off, rfl, h1, h2⟩ := hf k hk
    have e : ((List.range len).map f)[k]'(by rw [hll]; exact hk) = f k := by simp
    exact ⟨b, off, rfl, h1, fun i hi => by rw [e]; exact h2 i hi⟩
end
end Go.Proofs.Ytegmffeokfahjaa
