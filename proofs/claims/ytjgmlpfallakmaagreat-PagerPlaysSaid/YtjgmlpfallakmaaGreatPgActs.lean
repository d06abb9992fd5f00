/-
  Plain laws of no statement: a list of calls of chapter 5's statements, as it lies in memory, and opened as an argument. No conditions but those typed.
-/
import Derived.Test.YtjgmlpfallakmaaGreatPgOpenA
namespace Go.Proofs.YtjgmlpfallakmaaGreat
open Go.ChangeShapes Go.WideShapes Go.ChangeAt Go.RowKit Go.Deep
/-- the cells of a call -/
def Act5Cells (w : World) (b o : Nat) (x : ActP) (pv : Value) : Prop := ∀ i, i < 14 → w.cell? ⟨b, o + i, none⟩ = (x.cells pv)[i]?
theorem Act5Cells.below {w w' : World} {B b o : Nat} {x : ActP} {pv : Value} (h : Act5Cells w b o x pv) (hb : Below B w w') (hlt : b < B) : Act5Cells w' b o x pv := fun i hi => (hb.cell (p := ⟨b, o + i, none⟩) hlt).trans (h i hi)
/-- the slice v reads as the calls xs, below block B -/
def Acts5At (w : World) (B : Nat) (v : Value) (xs : List ActP) : Prop :=
  ∃ A cap, v = .slice A xs.length cap ∧ xs.length ≤ cap ∧ xs.length ≤ 9223372036854775807 ∧
    ∀ k (h : k < xs.length), ∃ b off pv, A = some ⟨b, off, none⟩ ∧ b < B ∧ Act5Cells w b (off + k * 14) xs[k] pv ∧ NumsLow w B pv xs[k].picks ∧ xs[k].n ≤ 9223372036854775807
theorem Acts5At.below {w w' : World} {B : Nat} {v : Value} {xs : List ActP} (h : Acts5At w B v xs) (hb : Below B w w') : Acts5At w' B v xs := by
  obtain ⟨A, cap, hv, hc, hl, hx⟩ := h
  refine ⟨A, cap, hv, hc, hl, fun k hk => ?_⟩
  obtain ⟨b, off, pv, hA, hlt, h1, h2, h3⟩ := hx k hk
  exact ⟨b, off, pv, hA, hlt, h1.below hb hlt, h2.below hb, h3⟩
theorem Acts5At.get {w : World} {B : Nat} {A : Option Addr} {len cap : Nat} {xs : List ActP} (h : Acts5At w B (.slice A len cap) xs) (k : Nat) (hk : k < xs.length) :
    ∃ b off pv, A = some ⟨b, off, none⟩ ∧ b < B ∧ Act5Cells w b (off + k * 14) xs[k] pv ∧ NumsLow w B pv xs[k].picks ∧ xs[k].n ≤ 9223372036854775807 := by
  obtain ⟨A', cap', hv, _, _, hh⟩ := h
  injection hv with e1 e2 e3
  subst e1
  exact hh k hk
instance : Inhabited ActP := ⟨⟨0, ⟨0, 0, 0, ⟨#[]⟩⟩, ⟨0, 0, 0, 0, 0⟩, false, 0, ⟨#[]⟩, []⟩⟩
section
variable {H : Type} {enc : TypeId × Value → H} {W : World} {base : Nat} {sp : Nat → Bool} {hd : Bool}
set_option maxRecDepth 100000 in
theorem acts5_of_trod {B fuel : Nat} {v : Value} {x : DataW H × List MemPlace} (h : DataW.trod enc Tryz.prog W base sp hd fuel 22 [v] = some x) (hlt : ∀ q ∈ x.2, q.block < B) : ∃ xs, Acts5At W B v xs := by
  rcases open_slice Tryz.underlying22 h with ⟨hcs, _⟩ | ⟨a, len, cap, m, n, D, Pl, hcs, _, hl, hm, hmm, hx, hi⟩
  · injection hcs with hcs
    subst hcs
    exact ⟨[], none, 0, rfl, by simp, by simp, fun j hj => by simp at hj⟩
  · injection hcs with hcs
    subst hcs
    subst hx
    rw [cellsA5] at hi hlt
    have hlm : len ≤ m := by rw [hmm]; split <;> omega
    have hsp0 : 0 < len → a.spot = none := by
      intro h0
      obtain ⟨cs', hc, ht⟩ := hi 0 (by omega)
      obtain ⟨_, _, hat⟩ := World.cells?_some hc
      obtain ⟨y, pv, rfl, _, _⟩ := act5_of_trod (B := B) ht (fun q hq => hlt q (List.mem_append_right _ (List.mem_flatMap.2 ⟨0, List.mem_range.2 (by omega), hq⟩)))
      have k0 := hat 0 (by omega)
      simp only [Nat.zero_mul, Addr.add, if_true] at k0
      exact World.cell?_spot (v := .int .i64 y.kind) (k0.trans rfl)
    have hone : ∀ i, i < len → ∃ y : ActP, ∃ b off pv, a = ⟨b, off, none⟩ ∧ b < B ∧ Act5Cells W b (off + i * 14) y pv ∧ NumsLow W B pv y.picks ∧ y.n ≤ 9223372036854775807 := by
      intro i hil
      obtain ⟨cs', hc, ht⟩ := hi i (by omega)
      obtain ⟨_, _, hat⟩ := World.cells?_some hc
      obtain ⟨y, pv, rfl, hn, hb⟩ := act5_of_trod (B := B) ht (fun q hq => hlt q (List.mem_append_right _ (List.mem_flatMap.2 ⟨i, List.mem_range.2 (by omega), hq⟩)))
      obtain ⟨b, off, spot⟩ := a
      have hspot : spot = none := hsp0 (by omega)
      subst hspot
      have hblt : b < B := hlt (.cell b off) (List.mem_append_left _ (MemPlace.mem_row.2 ⟨0, by omega, by simp⟩))
      refine ⟨y, b, off, pv, rfl, hblt, fun k hk => ?_, hn, hb⟩
      have kk := hat k (by omega)
      simp only [Addr.add_lit] at kk
      rw [kk]
      simp
    obtain ⟨f, hf⟩ := choose_lt hone
    have hll : ((List.range len).map f).length = len := by simp
    refine ⟨(List.range len).map f, some a, cap, by rw [hll], by omega, by simp only [maxLen] at hm; omega, fun k hk => ?_⟩
    rw [hll] at hk
    obtain ⟨b, off, pv, rfl, h1, h2, h3, h4⟩ := hf k hk
    have e : ((List.range len).map f)[k]'(by rw [hll]; exact hk) = f k := by simp
    exact ⟨b, off, pv, rfl, h1, by rw [e]; exact h2, by rw [e]; exact h3, by rw [e]; exact h4⟩
end
end Go.Proofs.YtjgmlpfallakmaaGreat
