/-
  Plain laws of no statement: arguments opened: a list of numbers, a call by value, a list of calls. No conditions but those typed.
-/
import Derived.Test.YtbjiliodelndcaaActs
import Derived.Deep.Fields
import Derived.ChangeSlices
import Derived.ProofKit
import Derived.OpenShut
namespace Go.Proofs.Ytbjiliodelndcaa
open Go.ChangeShapes Go.WideShapes Go.ChangeAt Go.RowKit Go.Deep
theorem cells3 : Try.prog.cellsOf 3 = 1 := by kernel_rfl
theorem cells35 : Try.prog.cellsOf 35 = 6 := by kernel_rfl
instance : Inhabited ActM := ⟨⟨0, 0, 0, 0, ⟨#[]⟩, []⟩⟩
section
variable {H : Type} {enc : TypeId × Value → H} {W : World} {base : Nat} {sp : Nat → Bool} {hd : Bool}
theorem nums_of_trod {B fuel : Nat} {v : Value} {x : DataW H × List MemPlace} (h : DataW.trod enc Try.prog W base sp hd fuel 33 [v] = some x) (hlt : ∀ q ∈ x.2, q.block < B) : ∃ l, NumsLow W B v l := by
  rcases open_ints Try.underlying33 Try.underlying3 cells3 h with ⟨hcs, _⟩ | ⟨a, len, cap, zs, hcs, _, hl, hm, hz, hx, hcell, hwf⟩
  · injection hcs with hcs
    subst hcs
    exact ⟨[], none, 0, rfl, by simp, by simp, fun j hj => by simp at hj⟩
  · injection hcs with hcs
    subst hcs
    subst hx
    have hzl : len ≤ zs.length := by rw [hz]; split <;> omega
    have hll : (zs.take len).length = len := by rw [List.length_take]; omega
    refine ⟨zs.take len, some a, cap, by rw [hll], by simp only [maxLen] at hm; omega, fun z hz' => ?_, fun j hj => ?_⟩
    · have := bounds_i64 (hwf z (List.mem_of_mem_take hz'))
      exact ⟨this.1, this.2⟩
    · have hc := hcell j (by omega)
      obtain ⟨b, off, spot⟩ := a
      have hspot : spot = none := by simpa [Addr.add] using World.cell?_spot (hcell 0 (by omega))
      subst hspot
      refine ⟨b, off, rfl, hlt (.cell b off) (MemPlace.mem_row.2 ⟨0, by omega, by simp⟩), ?_⟩
      rw [Addr.add_lit] at hc
      rw [hc, List.getElem_take, List.getD_eq_getElem?_getD, List.getElem?_eq_getElem (by omega)]
      rfl
/-- a call's six cells read as a call -/
theorem act_of_trod {B fuel : Nat} {cs : List Value} {x : DataW H × List MemPlace} (h : DataW.trod enc Try.prog W base sp hd fuel 35 cs = some x) (hlt : ∀ q ∈ x.2, q.block < B) :
    ∃ (y : ActM) (pv : Value), cs = [.int .i64 y.kind, .int .i64 y.i, .int .i64 y.n, .int .u8 y.c.toNat, .string y.text, pv] ∧ NumsLow W B pv y.picks ∧ y.n ≤ 9223372036854775807 := by
  obtain ⟨ys, n, _, hy, hlen, hyl, hf⟩ := DataW.trod_struct Try.underlying35 h
  rw [cells35] at hlen
  match cs, hlen with
  | [v0, v1, v2, v3, v4, v5], _ =>
    have c33 : Try.prog.cellsOf 33 = 1 := by kernel_rfl
    have c5 : Try.prog.cellsOf 5 = 1 := by kernel_rfl
    have c9 : Try.prog.cellsOf 9 = 1 := by kernel_rfl
    have g0 : DataW.trod enc Try.prog W base sp hd n 3 (([v0, v1, v2, v3, v4, v5].drop 0).take (Try.prog.cellsOf 3)) = ys[0]? := hf 0 _ rfl
    have g1 : DataW.trod enc Try.prog W base sp hd n 3 (([v0, v1, v2, v3, v4, v5].drop 1).take (Try.prog.cellsOf 3)) = ys[1]? := hf 1 _ rfl
    have g2 : DataW.trod enc Try.prog W base sp hd n 3 (([v0, v1, v2, v3, v4, v5].drop 2).take (Try.prog.cellsOf 3)) = ys[2]? := hf 2 _ rfl
    have g3 : DataW.trod enc Try.prog W base sp hd n 5 (([v0, v1, v2, v3, v4, v5].drop 3).take (Try.prog.cellsOf 5)) = ys[3]? := hf 3 _ rfl
    have g4 : DataW.trod enc Try.prog W base sp hd n 9 (([v0, v1, v2, v3, v4, v5].drop 4).take (Try.prog.cellsOf 9)) = ys[4]? := hf 4 _ rfl
    have g5 : DataW.trod enc Try.prog W base sp hd n 33 (([v0, v1, v2, v3, v4, v5].drop 5).take (Try.prog.cellsOf 33)) = ys[5]? := hf 5 _ rfl
    rw [cells3] at g0 g1 g2
    rw [c5] at g3
    rw [c9] at g4
    rw [c33] at g5
    match ys, hyl with
    | [y0, y1, y2, y3, y4, y5], _ =>
      obtain ⟨k, h0, _, _⟩ := DataW.trod_int Try.underlying3 g0
      obtain ⟨i, h1, _, _⟩ := DataW.trod_int Try.underlying3 g1
      obtain ⟨m, h2, _, w2⟩ := DataW.trod_int Try.underlying3 g2
      obtain ⟨c, h3, _, w3⟩ := DataW.trod_int Try.underlying5 g3
      obtain ⟨s, h4, _, _⟩ := DataW.trod_string Try.underlying9 g4
      injection h0 with h0
      injection h1 with h1
      injection h2 with h2
      injection h3 with h3
      injection h4 with h4
      subst h0 h1 h2 h3 h4
      subst hy
      obtain ⟨l, hl⟩ := nums_of_trod (B := B) g5 (fun q hq => hlt q (by simp [hq]))
      have bc := bounds_u8 w3
      refine ⟨⟨k, i, m, UInt8.ofNat c.toNat, s, l⟩, v5, ?_, hl, (bounds_i64 w2).2⟩
      have : ((UInt8.ofNat c.toNat).toNat : Int) = c := by simp; omega
      simp only [this]
theorem acts_of_trod {B fuel : Nat} {v : Value} {x : DataW H × List MemPlace} (h : DataW.trod enc Try.prog W base sp hd fuel 22 [v] = some x) (hlt : ∀ q ∈ x.2, q.block < B) : ∃ xs, ActsAt W B v xs := by
  rcases open_slice Try.underlying22 h with ⟨hcs, _⟩ | ⟨a, len, cap, m, n, D, Pl, hcs, _, hl, hm, hmm, hx, hi⟩
  · injection hcs with hcs
    subst hcs
    exact ⟨[], none, 0, rfl, by simp, by simp, fun j hj => by simp at hj⟩
  · injection hcs with hcs
    subst hcs
    subst hx
    rw [cells35] at hi hlt
    have hlm : len ≤ m := by rw [hmm]; split <;> omega
    have hsp0 : 0 < len → a.spot = none := by
      intro h0
      obtain ⟨cs', hc, ht⟩ := hi 0 (by omega)
      obtain ⟨_, _, hat⟩ := World.cells?_some hc
      obtain ⟨y, pv, rfl, _, _⟩ := act_of_trod (B := B) ht (fun q hq => hlt q (List.mem_append_right _ (List.mem_flatMap.2 ⟨0, List.mem_range.2 (by omega), hq⟩)))
      have k0 := hat 0 (by omega)
      simp only [Nat.zero_mul, Addr.add, if_true] at k0
      exact World.cell?_spot (k0.trans (List.getElem?_cons_zero))
    have hone : ∀ i, i < len → ∃ y : ActM, ∃ b off pv, a = ⟨b, off, none⟩ ∧ b < B ∧ ActCells W b (off + i * 6) y pv ∧ NumsLow W B pv y.picks ∧ y.n ≤ 9223372036854775807 := by
      intro i hil
      obtain ⟨cs', hc, ht⟩ := hi i (by omega)
      obtain ⟨_, _, hat⟩ := World.cells?_some hc
      obtain ⟨y, pv, rfl, hn, hb⟩ := act_of_trod (B := B) ht (fun q hq => hlt q (List.mem_append_right _ (List.mem_flatMap.2 ⟨i, List.mem_range.2 (by omega), hq⟩)))
      have k0 := hat 0 (by omega)
      have k1 := hat 1 (by omega)
      have k2 := hat 2 (by omega)
      have k3 := hat 3 (by omega)
      have k4 := hat 4 (by omega)
      have k5 := hat 5 (by omega)
      simp only [Go.Deep.add_add] at k0 k1 k2 k3 k4 k5
      obtain ⟨b, off, spot⟩ := a
      have hspot : spot = none := hsp0 (by omega)
      subst hspot
      have hblt : b < B := hlt (.cell b off) (List.mem_append_left _ (MemPlace.mem_row.2 ⟨0, by omega, by simp⟩))
      simp only [Addr.add_lit] at k0 k1 k2 k3 k4 k5
      refine ⟨y, b, off, pv, rfl, hblt, ⟨?_, ?_, ?_, ?_, ?_, ?_⟩, hn, hb⟩
      · simpa using k0
      · simpa [Nat.add_assoc] using k1
      · simpa [Nat.add_assoc] using k2
      · simpa [Nat.add_assoc] using k3
      · simpa [Nat.add_assoc] using k4
      · simpa [Nat.add_assoc] using k5
    obtain ⟨f, hf⟩ := choose_lt hone
    have hll : ((List.range len).map f).length = len := by simp
    refine ⟨(List.range len).map f, some a, cap, by rw [hll], by omega, by simp only [maxLen] at hm; omega, fun k hk => ?_⟩
    rw [hll] at hk
    obtain ⟨b, off, pv, rfl, h1, h2, h3, h4⟩ := hf k hk
    have e : ((List.range len).map f)[k]'(by rw [hll]; exact hk) = f k := by simp
    exact ⟨b, off, pv, rfl, h1, by rw [e]; exact h2, by rw [e]; exact h3, by rw [e]; exact h4⟩
end
end Go.Proofs.Ytbjiliodelndcaa
