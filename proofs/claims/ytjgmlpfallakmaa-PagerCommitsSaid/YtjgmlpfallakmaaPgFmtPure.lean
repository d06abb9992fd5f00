/-
  Plain laws of no statement: which sizes of device and limits give a file (P5.1). No conditions but those typed.
-/
import Derived.Test.YtjgmlpfallakmaaB6
namespace Go.Proofs.Ytjgmlpfallakmaa
theorem zeros_none : Page.readM (sectorOf 0).data.toList = none := by
  have h : Page.rightM (Page.fieldsM (List.replicate 128 0)) = false := by kernel_rfl
  have e : (sectorOf 0).data.toList = List.replicate 128 0 := by unfold sectorOf; simp
  rw [e]
  unfold Page.readM
  rw [if_neg]
  rw [h]
  simp
theorem empty_none : Page.readM ([] : List UInt8) = none := Page.readM_long _ (by simp)
namespace RD
theorem fresh_len (z : ByteArray) (n : Nat) : (fresh z n).sector.length = n := by unfold fresh; exact List.length_replicate
theorem fresh_calm (z : ByteArray) (n : Nat) : Calm (fresh z n) := ⟨rfl, rfl, rfl⟩
theorem fresh_ten (z : ByteArray) (n : Nat) (h : n ≤ 2048) : Ok 10 (fresh z n) := by
  refine ⟨by rw [fresh_len]; exact h, by show ([] : List (Nat × ByteArray)).length ≤ 10; simp, (fun x hx => by cases hx), ?_, ?_, ?_⟩
  · show (0 : Int) ≤ 0 ∧ (0 : Int) ≤ 9223372036854775807; omega
  · show (0 : Int) ≤ 0 ∧ (0 : Int) ≤ (10 : Nat); omega
  · show (0 : Int) ≤ 0 ∧ (0 : Int) ≤ (10 : Nat); omega
theorem fresh_full (n : Nat) : (fresh (sectorOf 0) n).Full := by
  refine ⟨fun s hs => ?_, fun x hx => by cases hx⟩
  have : s = sectorOf 0 := List.eq_of_mem_replicate hs
  rw [this]
  exact sectorOf_size 0
theorem fresh_not (n : Nat) (h : 1 ≤ n) : (fresh (sectorOf 0) n).opens = false ∧ (fresh (sectorOf 0) n).openE = (if n = 1 then 1 else 4) := by
  have hs : Still (fresh (sectorOf 0) n) := (fresh_calm _ _).still
  obtain ⟨r0, e0⟩ := still_read hs 0 (by rw [fresh_len]; omega)
  have g0 : (fresh (sectorOf 0) n).sector.getD 0 ⟨#[]⟩ = sectorOf 0 := by
    unfold fresh
    rw [List.getD_eq_getElem?_getD, List.getElem?_replicate, if_pos (by omega)]
    rfl
  rw [g0] at r0
  have r0 : (fresh (sectorOf 0) n).readS 0 = sectorOf 0 := r0
  have e0 : (fresh (sectorOf 0) n).readE 0 = 0 := e0
  by_cases h1 : n = 1
  · have e1 : (fresh (sectorOf 0) n).readE 1 = 1 := by
      unfold readE
      rw [if_neg]
      rw [has_iff, fresh_len]
      omega
    unfold opens openE
    rw [e1, if_pos h1, e0]
    simp
  · obtain ⟨r1, e1⟩ := still_read hs 1 (by rw [fresh_len]; omega)
    have g1 : (fresh (sectorOf 0) n).sector.getD 1 ⟨#[]⟩ = sectorOf 0 := by
      unfold fresh
      rw [List.getD_eq_getElem?_getD, List.getElem?_replicate, if_pos (by omega)]
      rfl
    rw [g1] at r1
    have r1 : (fresh (sectorOf 0) n).readS 1 = sectorOf 0 := r1
    have e1 : (fresh (sectorOf 0) n).readE 1 = 0 := e1
    have hn : newestE (sectorOf 0) (sectorOf 0) = 4 := by
      unfold newestE Page.newest
      rw [zeros_none]
      rfl
    have ho : (fresh (sectorOf 0) n).opens = false := by
      unfold opens
      rw [r0, r1, hn]
      simp
    refine ⟨ho, ?_⟩
    unfold openE
    rw [e0, e1, ho, if_neg h1]
    rfl
theorem fresh_may (n : Nat) (m : Int) (h : 4 ≤ m ∧ m ≤ 512 ∧ 4 * m ≤ n) : (fresh (sectorOf 0) n).fmtE m = 0 ∧ ((fresh (sectorOf 0) n).fmtD m).opens = true ∧ ((fresh (sectorOf 0) n).fmtD m).openS.m = fm 1 m := by
  have hm : (fresh (sectorOf 0) n).fmtMay m = true := by
    unfold fmtMay
    rw [fresh_len]
    simp only [Bool.and_eq_true, decide_eq_true_eq]
    omega
  obtain ⟨a, b, c, d⟩ := fmt_calm (fresh_calm (sectorOf 0) n) m hm
  rw [fresh_len] at d
  obtain ⟨x, y, _⟩ := two_opens b.still (by omega) _ _ (fm_right 0 m (by omega) (by omega)) (fm_right 1 m (by omega) (by omega)) c (by rw [d, if_pos (by show (0 : Int) < 1; omega)]; exact h.2.2)
  refine ⟨a, x, ?_⟩
  rw [y]
  simp only
  rw [if_pos (by show (0 : Int) < 1; omega)]
theorem fresh_mayNot (n : Nat) (m : Int) (h : ¬ (4 ≤ m ∧ m ≤ 512 ∧ 4 * m ≤ n)) : (fresh (sectorOf 0) n).fmtE m = 1 ∧ (fresh (sectorOf 0) n).fmtD m = fresh (sectorOf 0) n := by
  have hm : (fresh (sectorOf 0) n).fmtMay m = false := by
    rw [← Bool.not_eq_true]
    unfold fmtMay
    rw [fresh_len]
    simp only [Bool.and_eq_true, decide_eq_true_eq]
    omega
  unfold fmtE fmtD
  rw [hm]
  exact ⟨rfl, rfl⟩
end RD
end Go.Proofs.Ytjgmlpfallakmaa
