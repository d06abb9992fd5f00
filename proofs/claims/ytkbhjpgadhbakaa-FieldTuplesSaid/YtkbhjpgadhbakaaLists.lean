/-
  Plain laws of no statement: a list of texts among the arguments, opened as one list that can be read; Parts read what Tuple laid. No conditions but those typed.
-/
import Derived.Test.YtkbhjpgadhbakaaRows
import Derived.Test.YtkbhjpgadhbakaaParts2
import Derived.ProofKit
import Derived.OpenShut
namespace Go.Proofs.Ytkbhjpgadhbakaa
open Go.ChangeShapes Go.WideShapes Go.ChangeAt Go.RowKit

theorem laidOut : laidOutB Try.prog = true := by kernel_rfl
theorem cells9 : Try.prog.cellsOf 9 = 1 := by kernel_rfl

theorem open_texts {H : Type} {enc : TypeId × Value → H} {W : World} {base : Nat} {v : Value} {d : DataW H} {p : List MemPlace} (hv : Value.okWide Try.prog W .any base 34 v)
    (h : DataW.Trod enc Try.prog W 0 (fun _ => true) true 34 v d p) (hlt : ∀ x ∈ p, x.block < W.heap.size) :
    ∃ (A : Option Addr) (cap : Nat) (L : List ByteArray), v = .slice A L.length cap ∧ Reads W A L ∧ L.length ≤ cap ∧ cap ≤ 9223372036854775807 := by
  obtain ⟨a0, len, cap, rfl⟩ := okWide_slice Try.underlying34 hv
  obtain ⟨fuel, hf⟩ := h
  rcases open_strings Try.underlying34 Try.underlying9 cells9 hf with ⟨hcs, hx⟩ | ⟨a, len', cap', ss, hcs, _, hl, hm, hz, hx, hcell, _⟩
  · simp [Value.cells] at hcs
    obtain ⟨rfl, rfl, rfl⟩ := hcs
    exact ⟨none, 0, [], rfl, .inl rfl, by simp, by simp⟩
  · simp [Value.cells] at hcs
    obtain ⟨rfl, rfl, rfl⟩ := hcs
    simp only [Prod.mk.injEq] at hx
    obtain ⟨rfl, rfl⟩ := hx
    simp only [if_true] at hz
    have hll : (ss.take len).length = len := by rw [List.length_take]; omega
    have h63 : cap ≤ 9223372036854775807 := by simp only [maxLen] at hm; omega
    refine ⟨some a, cap, ss.take len, by rw [hll], ?_, by omega, h63⟩
    by_cases hl0 : len = 0
    · subst hl0
      exact .inl (by simp)
    · obtain ⟨b, off, spot⟩ := a
      have hspot : spot = none := by simpa [Addr.add] using World.cell?_spot (hcell 0 (by omega))
      subst hspot
      have hbW : b < W.heap.size := hlt (.cell b off) (MemPlace.mem_row.2 ⟨0, by omega, by simp⟩)
      refine .inr ⟨b, off, rfl, hbW, fun i hi => ?_⟩
      have := hcell i (by omega)
      rw [add_plain] at this
      rw [this, List.getElem_take, List.getD_eq_getElem?_getD, List.getElem?_eq_getElem (by omega)]
      rfl

theorem go_esc (p r pre : List UInt8) : go pre (esc p ++ 0 :: 1 :: r) = (go [] r).map (⟨(pre ++ p).toArray⟩ :: ·) := by
  induction p generalizing pre with
  | nil =>
    rw [esc, List.nil_append, go.eq_def]
    simp
  | cons b p ih =>
    by_cases h : b = 0
    · subst h
      have e : esc (0 :: p) ++ 0 :: 1 :: r = 0 :: 255 :: (esc p ++ 0 :: 1 :: r) := by simp [esc]
      rw [e, go.eq_def]
      have h2 : ¬ ((255 : UInt8) = 1) := by decide
      simp only [if_true, if_neg h2]
      rw [ih]
      simp
    · have e : esc (b :: p) ++ 0 :: 1 :: r = b :: (esc p ++ 0 :: 1 :: r) := by simp [esc, h]
      rw [e, go.eq_def]
      simp only [if_neg h]
      rw [ih]
      simp
theorem go_tup (L : List ByteArray) : go [] (tup L) = some L := by
  induction L with
  | nil => exact go_nil
  | cons p L ih =>
    have e : tup (p :: L) = esc p.data.toList ++ 0 :: 1 :: tup L := by simp [tup]
    rw [e, go_esc, ih]
    simp
theorem good_tup (L : List ByteArray) (hL : L.length ≤ 16) (h : (tup L).length ≤ 4096) : Good ⟨(tup L).toArray⟩ L := by
  refine ⟨by rw [ByteArray.size_mk', List.size_toArray]; exact h, hL, ?_⟩
  have e : (⟨(tup L).toArray⟩ : ByteArray).data.toList = tup L := by simp
  rw [e]
  exact go_tup L
end Go.Proofs.Ytkbhjpgadhbakaa
