/-
  Plain laws of no statement: arguments of chapter 8's statements, opened: a list of calls (each with a free page within), a list of free pages, a free page by value. No conditions but those typed.
-/
import Derived.Test.YtjgndgcegenikaaFrPlaysW
import Derived.Deep.Fields
import Derived.ChangeSlices
import Derived.ProofKit
import Derived.OpenShut
namespace Go.Proofs.Ytjgndgcegenikaa
open Go.ChangeShapes Go.WideShapes Go.ChangeAt Go.RowKit Go.Deep
theorem cellsI8 : Try.prog.cellsOf 3 = 1 := by kernel_rfl
theorem cellsF8 : Try.prog.cellsOf 31 = 2 := by kernel_rfl
theorem cellsA8 : Try.prog.cellsOf 33 = 4 := by kernel_rfl
section
variable {H : Type} {enc : TypeId × Value → H} {W : World} {base : Nat} {sp : Nat → Bool} {hd : Bool}
set_option maxRecDepth 100000 in
/-- a free page's two cells -/
theorem fp_of_trod {fuel : Nat} {cs : List Value} {x : DataW H × List MemPlace} (h : DataW.trod enc Try.prog W base sp hd fuel 31 cs = some x) : ∃ y : FP, cs = [.int .i64 y.1, .int .i64 y.2] := by
  obtain ⟨ys, n, _, hy, hlen, hyl, hf⟩ := DataW.trod_struct Try.underlying31 h
  rw [cellsF8] at hlen
  match cs, hlen with
  | [v0, v1], _ =>
    have g0 : DataW.trod enc Try.prog W base sp hd n 3 (([v0, v1].drop 0).take (Try.prog.cellsOf 3)) = ys[0]? := hf 0 _ rfl
    have g1 : DataW.trod enc Try.prog W base sp hd n 3 (([v0, v1].drop 1).take (Try.prog.cellsOf 3)) = ys[1]? := hf 1 _ rfl
    rw [cellsI8] at g0 g1
    match ys, hyl with
    | [y0, y1], _ =>
      obtain ⟨a, h0, _, _⟩ := DataW.trod_int Try.underlying3 g0
      obtain ⟨b, h1, _, _⟩ := DataW.trod_int Try.underlying3 g1
      simp only [List.drop_succ_cons, List.drop_zero, List.take_succ_cons, List.take_zero, List.cons.injEq, and_true] at h0 h1
      subst h0 h1
      exact ⟨(a, b), rfl⟩
set_option maxRecDepth 100000 in
/-- a call's four cells -/
theorem quad_of_trod {fuel : Nat} {cs : List Value} {x : DataW H × List MemPlace} (h : DataW.trod enc Try.prog W base sp hd fuel 33 cs = some x) : ∃ y : FQ, cs = [.int .i64 y.1, .int .i64 y.2.1.1, .int .i64 y.2.1.2, .int .i64 y.2.2] := by
  obtain ⟨ys, n, _, hy, hlen, hyl, hf⟩ := DataW.trod_struct Try.underlying33 h
  rw [cellsA8] at hlen
  match cs, hlen with
  | [v0, v1, v2, v3], _ =>
    have g0 : DataW.trod enc Try.prog W base sp hd n 3 (([v0, v1, v2, v3].drop 0).take (Try.prog.cellsOf 3)) = ys[0]? := hf 0 _ rfl
    have g1 : DataW.trod enc Try.prog W base sp hd n 31 (([v0, v1, v2, v3].drop 1).take (Try.prog.cellsOf 31)) = ys[1]? := hf 1 _ rfl
    have g2 : DataW.trod enc Try.prog W base sp hd n 3 (([v0, v1, v2, v3].drop 3).take (Try.prog.cellsOf 3)) = ys[2]? := hf 2 _ rfl
    rw [cellsI8] at g0 g2
    rw [cellsF8] at g1
    match ys, hyl with
    | [y0, y1, y2], _ =>
      obtain ⟨a, h0, _, _⟩ := DataW.trod_int Try.underlying3 g0
      obtain ⟨f, h1⟩ := fp_of_trod g1
      obtain ⟨c, h2, _, _⟩ := DataW.trod_int Try.underlying3 g2
      simp only [List.drop_succ_cons, List.drop_zero, List.take_succ_cons, List.take_zero, List.cons.injEq, and_true] at h0 h1 h2
      obtain ⟨h1, h1'⟩ := h1
      subst h0 h1 h1' h2
      exact ⟨(a, f, c), rfl⟩
instance : Inhabited FQ := ⟨(0, (0, 0), 0)⟩
set_option maxRecDepth 100000 in
theorem quads_of_trod {fuel : Nat} {v : Value} {x : DataW H × List MemPlace} (h : DataW.trod enc Try.prog W base sp hd fuel 22 [v] = some x) (hlt : ∀ q ∈ x.2, q.block < W.heap.size) : ∃ l, QuadsAt W W.heap.size v l := by
  rcases open_slice Try.underlying22 h with ⟨hcs, _⟩ | ⟨a, len, cap, m, n, D, Pl, hcs, _, hl, hm, hmm, hx, hi⟩
  · injection hcs with hcs
    subst hcs
    exact ⟨[], none, 0, rfl, by simp, by simp, fun j hj => by simp at hj⟩
  · injection hcs with hcs
    subst hcs
    subst hx
    rw [cellsA8] at hi hlt
    have hlm : len ≤ m := by rw [hmm]; split <;> omega
    have hsp0 : 0 < len → a.spot = none := by
      intro h0
      obtain ⟨cs', hc, ht⟩ := hi 0 (by omega)
      obtain ⟨_, _, hat⟩ := World.cells?_some hc
      obtain ⟨y, rfl⟩ := quad_of_trod ht
      have k0 := hat 0 (by omega)
      simp only [Nat.zero_mul, Addr.add, if_true] at k0
      exact World.cell?_spot (v := .int .i64 y.1) (k0.trans rfl)
    have hone : ∀ i, i < len → ∃ y : FQ, ∃ b off, a = ⟨b, off, none⟩ ∧ b < W.heap.size ∧ W.cell? ⟨b, off + i * 4, none⟩ = some (.int .i64 y.1) ∧ W.cell? ⟨b, off + i * 4 + 1, none⟩ = some (.int .i64 y.2.1.1) ∧ W.cell? ⟨b, off + i * 4 + 2, none⟩ = some (.int .i64 y.2.1.2) ∧ W.cell? ⟨b, off + i * 4 + 3, none⟩ = some (.int .i64 y.2.2) := by
      intro i hil
      obtain ⟨cs', hc, ht⟩ := hi i (by omega)
      obtain ⟨_, _, hat⟩ := World.cells?_some hc
      obtain ⟨y, rfl⟩ := quad_of_trod ht
      obtain ⟨b, off, spot⟩ := a
      have hspot : spot = none := hsp0 (by omega)
      subst hspot
      have hblt : b < W.heap.size := hlt (.cell b off) (List.mem_append_left _ (MemPlace.mem_row.2 ⟨0, by omega, by simp⟩))
      have k0 := hat 0 (by omega)
      have k1 := hat 1 (by omega)
      have k2 := hat 2 (by omega)
      have k3 := hat 3 (by omega)
      simp only [Addr.add_lit] at k0 k1 k2 k3
      exact ⟨y, b, off, rfl, hblt, by rw [Nat.add_zero] at k0; rw [k0]; rfl, by rw [k1]; rfl, by rw [k2]; rfl, by rw [k3]; rfl⟩
    obtain ⟨f, hf⟩ := choose_lt hone
    have hll : ((List.range len).map f).length = len := by simp
    refine ⟨(List.range len).map f, some a, cap, by rw [hll], by omega, by simp only [maxLen] at hm; omega, fun k hk => ?_⟩
    rw [hll] at hk
    obtain ⟨b, off, rfl, h1, h2, h3, h4, h5⟩ := hf k hk
    have e : ((List.range len).map f)[k]'(by rw [hll]; exact hk) = f k := by simp
    exact ⟨b, off, rfl, h1, by rw [e]; exact h2, by rw [e]; exact h3, by rw [e]; exact h4, by rw [e]; exact h5⟩
set_option maxRecDepth 100000 in
theorem frees_of_trod {fuel : Nat} {v : Value} {x : DataW H × List MemPlace} (h : DataW.trod enc Try.prog W base sp hd fuel 27 [v] = some x) (hlt : ∀ q ∈ x.2, q.block < W.heap.size) : ∃ l, FreesAt W v l := by
  rcases open_slice Try.underlying27 h with ⟨hcs, _⟩ | ⟨a, len, cap, m, n, D, Pl, hcs, _, hl, hm, hmm, hx, hi⟩
  · injection hcs with hcs
    subst hcs
    exact ⟨[], none, 0, rfl, by simp, by simp, fun j hj => by simp at hj⟩
  · injection hcs with hcs
    subst hcs
    subst hx
    rw [cellsF8] at hi hlt
    have hlm : len ≤ m := by rw [hmm]; split <;> omega
    have hsp0 : 0 < len → a.spot = none := by
      intro h0
      obtain ⟨cs', hc, ht⟩ := hi 0 (by omega)
      obtain ⟨_, _, hat⟩ := World.cells?_some hc
      obtain ⟨y, rfl⟩ := fp_of_trod ht
      have k0 := hat 0 (by omega)
      simp only [Nat.zero_mul, Addr.add, if_true] at k0
      exact World.cell?_spot (v := .int .i64 y.1) (k0.trans rfl)
    have hone : ∀ i, i < len → ∃ y : FP, ∃ b off, a = ⟨b, off, none⟩ ∧ b < W.heap.size ∧ W.cell? ⟨b, off + i * 2, none⟩ = some (.int .i64 y.1) ∧ W.cell? ⟨b, off + i * 2 + 1, none⟩ = some (.int .i64 y.2) := by
      intro i hil
      obtain ⟨cs', hc, ht⟩ := hi i (by omega)
      obtain ⟨_, _, hat⟩ := World.cells?_some hc
      obtain ⟨y, rfl⟩ := fp_of_trod ht
      obtain ⟨b, off, spot⟩ := a
      have hspot : spot = none := hsp0 (by omega)
      subst hspot
      have hblt : b < W.heap.size := hlt (.cell b off) (List.mem_append_left _ (MemPlace.mem_row.2 ⟨0, by omega, by simp⟩))
      have k0 := hat 0 (by omega)
      have k1 := hat 1 (by omega)
      simp only [Addr.add_lit] at k0 k1
      exact ⟨y, b, off, rfl, hblt, by rw [Nat.add_zero] at k0; rw [k0]; rfl, by rw [k1]; rfl⟩
    obtain ⟨f, hf⟩ := choose_lt hone
    have hll : ((List.range len).map f).length = len := by simp
    refine ⟨(List.range len).map f, some a, cap, by rw [hll], by omega, by simp only [maxLen] at hm; omega, fun k hk => ?_⟩
    rw [hll] at hk
    obtain ⟨b, off, rfl, h1, h2, h3⟩ := hf k hk
    have e : ((List.range len).map f)[k]'(by rw [hll]; exact hk) = f k := by simp
    exact ⟨b, off, rfl, h1, by rw [e]; exact h2, by rw [e]; exact h3⟩
end
end Go.Proofs.Ytjgndgcegenikaa
