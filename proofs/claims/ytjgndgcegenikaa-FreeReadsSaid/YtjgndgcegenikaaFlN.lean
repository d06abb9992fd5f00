/-
  Plain laws of no statement: free pages of a piece's bytes, as the program reads them. Conditions: those typed.
-/
import Derived.Test.YtjgndgcegenikaaFlM
namespace Go.Proofs.Ytjgndgcegenikaa
open Go.RowKit
open Page (beN_whole)
namespace Fr
theorem beB_down (n k d : Nat) : beB n (k + 1) (d + 1) = beB (n / 256) k d := by
  unfold beB
  have e0 : k + 1 - (d + 1) = k - d := by omega
  rw [e0]
  apply List.map_congr_left
  intro j hj
  rw [List.mem_range] at hj
  congr 1
  have e : 8 * (k + 1 - 1 - j) = 8 + 8 * (k - 1 - j) := by omega
  rw [e, Nat.pow_add, Nat.div_div_eq_div_mul]
theorem beB_back (l : List UInt8) : beB (beN l) l.length 0 = l := by
  induction h : l.length generalizing l with
  | zero => rw [List.eq_nil_of_length_eq_zero h]; rfl
  | succ k ih =>
    obtain ⟨m, b, rfl⟩ : ∃ m b, l = m ++ [b] := by
      refine ⟨l.dropLast, l.getLast (by rintro rfl; simp at h), (List.dropLast_concat_getLast _).symm⟩
    have hm : m.length = k := by rw [List.length_append] at h; simpa using h
    rw [beN_snoc, beB_snoc _ _ _ (by omega), beB_down]
    have e1 : (beN m * 256 + b.toNat) / 256 = beN m := by have := b.toNat_lt; omega
    have e2 : UInt8.ofNat ((beN m * 256 + b.toNat) / 2 ^ (8 * 0)) = b := by
      apply UInt8.toNat_inj.1
      have := b.toNat_lt
      simp
    rw [e1, ih m hm, e2]
/-- the i-th item of a text -/
def it (s : ByteArray) (i : Nat) : FP := (numAt s (6 + 12 * i) 8, numAt s (6 + 12 * i + 8) 4)
def rdL (s : ByteArray) (n : Nat) : List FP := (List.range n).map (it s)
theorem rdL_snoc (s : ByteArray) (n : Nat) : rdL s (n + 1) = rdL s n ++ [it s n] := by unfold rdL; rw [List.range_succ, List.map_append]; rfl
theorem rdL_length (s : ByteArray) (n : Nat) : (rdL s n).length = n := by unfold rdL; simp
theorem rdL_get (s : ByteArray) (n i : Nat) (h : i < (rdL s n).length) : (rdL s n)[i] = it s i := by simp [rdL]
theorem drop_items (l : List FP) : ∀ i, (l.flatMap item).drop (12 * i) = (l.drop i).flatMap item := by
  intro i
  induction i generalizing l with
  | zero => simp
  | succ i ih =>
    cases l with
    | nil => simp
    | cons f l =>
      rw [List.flatMap_cons, List.drop_succ_cons, ← ih l, show 12 * (i + 1) = 12 + 12 * i by omega, ← List.drop_drop, List.drop_left' (item_length f)]
theorem w64 (n : Nat) (h : n ≤ 9223372036854775807) : wrap64 (n : Int) = n := IntWalk.wrap64_in _ (by omega)
section
variable {next : Int} {l : List FP}
theorem num_head (h : Piece next l) : numAt (ba (bytes next l)) 0 4 = next ∧ numAt (ba (bytes next l)) 4 2 = l.length := by
  have := h.lo; have := h.hi; have := h.few
  have l4 : (beB next.toNat 4 0).length = 4 := beB_length _ _ _
  have l2 : (beB l.length 2 0).length = 2 := beB_length _ _ _
  unfold numAt
  rw [if_pos (by rw [ba_size, bytes_length]; omega), if_pos (by rw [ba_size, bytes_length]; omega), data_ba]
  constructor
  · rw [List.drop_zero]
    unfold bytes
    rw [List.take_left' l4, beN_whole _ 4 (by omega), w64 _ (by omega)]
    omega
  · unfold bytes
    rw [List.drop_left' l4, List.take_left' l2, beN_whole _ 2 (by omega), w64 _ (by omega)]
theorem num_item (h : Piece next l) (i : Nat) (hi : i < l.length) : it (ba (bytes next l)) i = l[i] := by
  have hr := (right_iff _).1 (h.right l[i] (List.getElem_mem hi))
  have l4 : (beB next.toNat 4 0).length = 4 := beB_length _ _ _
  have l2 : (beB l.length 2 0).length = 2 := beB_length _ _ _
  have h6 : (bytes next l).drop 6 = l.flatMap item := by
    unfold bytes
    rw [← List.append_assoc, List.drop_left' (by rw [List.length_append, l4, l2])]
  have hd : (bytes next l).drop (6 + 12 * i) = beB l[i].1.toNat 8 0 ++ (beB l[i].2.toNat 4 0 ++ (l.drop (i + 1)).flatMap item) := by
    rw [← List.drop_drop, h6, drop_items, List.drop_eq_getElem_cons hi, List.flatMap_cons]
    unfold item
    rw [List.append_assoc]
  have l8 : (beB l[i].1.toNat 8 0).length = 8 := beB_length _ _ _
  have l44 : (beB l[i].2.toNat 4 0).length = 4 := beB_length _ _ _
  unfold it numAt
  rw [if_pos (by rw [ba_size, bytes_length]; omega), if_pos (by rw [ba_size, bytes_length]; omega), data_ba]
  apply Prod.ext
  · simp only
    rw [hd, List.take_left' l8, beN_whole _ 8 (by omega), w64 _ (by omega)]
    omega
  · simp only
    rw [← List.drop_drop, hd, List.drop_left' l8, List.take_left' l44, beN_whole _ 4 (by omega), w64 _ (by omega)]
    omega
theorem num_items (h : Piece next l) : rdL (ba (bytes next l)) l.length = l := by
  apply List.ext_getElem
  · rw [rdL_length]
  · intro i h1 h2
    rw [rdL_get, num_item h i h2]
end
theorem num_take (s : ByteArray) (a k : Nat) (hk : k ≤ 8) (h : a + k ≤ s.size) (hn : 0 ≤ numAt s a k) : beB (numAt s a k).toNat k 0 = (s.data.toList.drop a).take k := by
  have hl : ((s.data.toList.drop a).take k).length = k := by
    rw [List.length_take, List.length_drop, Array.length_toList]
    have : s.data.size = s.size := rfl
    omega
  unfold numAt at hn ⊢
  rw [if_pos h] at hn ⊢
  have hlt := beN_lt ((s.data.toList.drop a).take k)
  rw [hl] at hlt
  have h64 : beN ((s.data.toList.drop a).take k) < 2 ^ 64 := Nat.lt_of_lt_of_le hlt (Nat.pow_le_pow_right (by omega) (by omega))
  have e : wrap64 (beN ((s.data.toList.drop a).take k) : Nat) = (beN ((s.data.toList.drop a).take k) : Nat) := by
    unfold wrap64 at hn ⊢
    omega
  rw [e, Int.toNat_natCast]
  have := beB_back ((s.data.toList.drop a).take k)
  rwa [hl] at this
theorem rdL_back (s : ByteArray) (c : Nat) (hs : s.size = 6 + 12 * c) (hr : ∀ f ∈ rdL s c, right f = true) : ∀ k, k ≤ c → (rdL s k).flatMap item = (s.data.toList.drop 6).take (12 * k) := by
  intro k
  induction k with
  | zero => intro _; rfl
  | succ k ih =>
    intro hk
    have hm : it s k ∈ rdL s c := by unfold rdL; exact List.mem_map.2 ⟨k, List.mem_range.2 (by omega), rfl⟩
    have h1 := (right_iff _).1 (hr _ hm)
    rw [rdL_snoc, List.flatMap_append, ih (by omega), show 12 * (k + 1) = 12 * k + 12 by omega, List.take_add]
    congr 1
    rw [List.flatMap_cons, List.flatMap_nil, List.append_nil, List.drop_drop]
    unfold item
    have a := num_take s (6 + 12 * k) 8 (by omega) (by omega) h1.1
    have b := num_take s (6 + 12 * k + 8) 4 (by omega) (by omega) (by have := h1.2.2.1; unfold it at this; simp only at this; omega)
    show beB (numAt s (6 + 12 * k) 8).toNat 8 0 ++ beB (numAt s (6 + 12 * k + 8) 4).toNat 4 0 = _
    rw [a, b, show (12 : Nat) = 8 + 4 from rfl, List.take_add, List.drop_drop]
/-- where the length is not that of the count: no piece -/
theorem dec_far (s : ByteArray) (h : (s.size : Int) ≠ 6 + numAt s 4 2 * 12) : dec s = none := by
  rw [dec_none_iff]
  intro next l ho he
  have hP := (okP_iff next l).1 ho
  have e : encS next l = ba (bytes next l) := by unfold encS; rw [if_pos ho]
  rw [e] at he
  subst he
  rw [(num_head hP).2, ba_size, bytes_length] at h
  omega
theorem dec_bad (s : ByteArray) (c : Nat) (hs : s.size = 6 + 12 * c) (h : okP (numAt s 0 4) (rdL s c) = false) : dec s = none := by
  rw [dec_none_iff]
  intro next l ho he
  have hP := (okP_iff next l).1 ho
  have e : encS next l = ba (bytes next l) := by unfold encS; rw [if_pos ho]
  rw [e] at he
  subst he
  have hc : c = l.length := by rw [ba_size, bytes_length] at hs; omega
  subst hc
  rw [(num_head hP).1, num_items hP, ho] at h
  cases h
theorem dec_good (s : ByteArray) (c : Nat) (hs : s.size = 6 + 12 * c) (hc : numAt s 4 2 = c) (h : okP (numAt s 0 4) (rdL s c) = true) : dec s = some (numAt s 0 4, rdL s c) := by
  rw [dec_iff]
  refine ⟨h, ?_⟩
  have hP := (okP_iff _ _).1 h
  unfold encS
  rw [if_pos h]
  have hl : s.data.toList.length = 6 + 12 * c := by rw [Array.length_toList, ← hs]; rfl
  have e : bytes (numAt s 0 4) (rdL s c) = s.data.toList := by
    unfold bytes
    rw [rdL_back s c hs hP.right c (Nat.le_refl _), rdL_length, num_take s 0 4 (by omega) (by omega) hP.lo]
    have h2 := num_take s 4 2 (by omega) (by omega) (by omega)
    rw [hc, Int.toNat_natCast] at h2
    have e0 : (s.data.toList.drop 0).take 4 = s.data.toList.take 4 := by rw [List.drop_zero]
    have e12 : (s.data.toList.drop 6).take (12 * c) = (s.data.toList.drop 4).drop 2 := by rw [List.take_of_length_le (by rw [List.length_drop]; omega), List.drop_drop]
    rw [h2, e0, e12, List.take_append_drop, List.take_append_drop]
  rw [e, ba_data]
end Fr
end Go.Proofs.Ytjgndgcegenikaa
