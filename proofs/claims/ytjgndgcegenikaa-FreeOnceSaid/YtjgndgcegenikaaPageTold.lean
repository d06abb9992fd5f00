/-
  Plain laws of no statement: a page's bytes of which one to four neighbouring ones were turned are none's (chapter 4). No conditions but those typed.
-/
import Derived.Test.YtjgndgcegenikaaPagePlain
import Derived.Test.YtjgndgcegenikaaTurned
namespace Go.Proofs.Ytjgndgcegenikaa
namespace Page
theorem ext_getD (l k : List UInt8) (h : l.length = k.length) (he : ∀ i, i < l.length → l.getD i 0 = k.getD i 0) : l = k := by
  refine List.ext_getElem h (fun i h1 h2 => ?_)
  have := he i h1
  simpa [List.getD_eq_getElem?_getD, h1, h2] using this
/-- the k-th byte that is turned -/
def turnB (y k : Nat) : UInt8 := UInt8.ofNat (y / 2 ^ (8 * k))
theorem getD_set (l : List UInt8) (j i : Nat) (u : UInt8) (hj : j < l.length) : (l.set j u).getD i 0 = if j = i then u else l.getD i 0 := by
  simp only [List.getD_eq_getElem?_getD, List.getElem?_set]
  by_cases h : j = i
  · subst h; simp [hj]
  · simp [h]
theorem turn_getD (l : List UInt8) (p y n : Nat) (h : p + n ≤ l.length) (i : Nat) : (Crc.turn l p y n).getD i 0 = if p ≤ i ∧ i < p + n then l.getD i 0 ^^^ turnB y (i - p) else l.getD i 0 := by
  induction n with
  | zero => rw [if_neg (by omega)]; rfl
  | succ n ih =>
    have ih := ih (by omega)
    rw [Crc.turn, getD_set _ _ _ _ (by rw [Crc.turn_length]; omega)]
    by_cases hi : p + n = i
    · subst hi
      rw [if_pos rfl, if_pos (by omega), ih, if_neg (by omega), Nat.add_sub_cancel_left]
      rfl
    · rw [if_neg hi, ih]
      by_cases h2 : p ≤ i ∧ i < p + n
      · rw [if_pos h2, if_pos (by omega)]
      · rw [if_neg h2, if_neg (by omega)]
/-- the text with noughts for the sum's four bytes -/
def nulled (l : List UInt8) : List UInt8 := l.take 18 ++ (noughts 4 ++ l.drop 22)
theorem nulled_length (l : List UInt8) (h : l.length = 512) : (nulled l).length = 512 := by
  unfold nulled noughts
  simp only [List.length_append, List.length_take, List.length_replicate, List.length_drop, h]
  omega
theorem nulled_getD (l : List UInt8) (h : l.length = 512) (i : Nat) : (nulled l).getD i 0 = if 18 ≤ i ∧ i < 22 then 0 else l.getD i 0 := by
  unfold nulled noughts
  simp only [List.getD_eq_getElem?_getD, List.getElem?_append, List.getElem?_take, List.getElem?_replicate, List.getElem?_drop, List.length_take, List.length_replicate, h]
  by_cases h1 : i < 18
  · rw [if_pos (by omega), if_pos h1, if_neg (by omega)]
  · rw [if_neg (by omega)]
    by_cases h2 : i < 22
    · rw [if_pos (by omega), if_pos (by omega), if_pos (by omega)]; rfl
    · rw [if_neg (by omega), if_neg (by omega)]
      congr 2
      omega
theorem withSum_nulled (p : PG) (s : List UInt8) (hs : s.length = 4) : nulled (withSum p s) = withSum p (noughts 4) ∧ ((withSum p s).drop 18).take 4 = s := by
  have l1 := beB_length p.kind 1 0
  have l2 := beB_length p.body.length 2 0
  have l3 := beB_length p.no 4 0
  have l4 := beB_length p.txn 8 0
  obtain ⟨A, hA⟩ : ∃ A : List UInt8, A = [82, 66] ++ (beB p.kind 1 0 ++ ([0] ++ (beB p.body.length 2 0 ++ (beB p.no 4 0 ++ beB p.txn 8 0)))) := ⟨_, rfl⟩
  have hlen : A.length = 18 := by rw [hA]; simp [l1, l2, l3, l4]
  have e : ∀ t : List UInt8, withSum p t = A ++ (t ++ ([0, 0] ++ (p.body ++ noughts (488 - p.body.length)))) := fun t => by rw [hA]; unfold withSum; simp only [List.append_assoc]
  rw [e s, e (noughts 4)]
  unfold nulled
  constructor
  · rw [take_app _ _ 18 hlen, drop_app _ _ 22 18 hlen (by omega), drop_app _ _ 4 4 hs (by omega), Nat.sub_self, List.drop_zero]
  · rw [drop_app _ _ 18 18 hlen (by omega), Nat.sub_self, List.drop_zero, take_app _ _ 4 hs]
theorem packed_nulled (p : PG) : ((packed p).drop 18).take 4 = beB (Crc.on 0 (nulled (packed p))) 4 0 := by
  obtain ⟨e1, e2⟩ := withSum_nulled p (beB (sumOf p) 4 0) (beB_length _ _ _)
  unfold packed
  rw [e1, e2]
  rfl
theorem beB_inj (a b : Nat) (ha : a < 2 ^ 32) (hb : b < 2 ^ 32) (h : beB a 4 0 = beB b 4 0) : a = b := by
  have := congrArg beN h
  rwa [beN_whole a 4 ha, beN_whole b 4 hb] at this
theorem xor_self_zero (a b : UInt8) (h : a ^^^ b = a) : b = 0 := by
  have : a ^^^ (a ^^^ b) = a ^^^ a := by rw [h]
  rwa [← UInt8.xor_assoc, UInt8.xor_self, UInt8.zero_xor] at this
theorem sum_bytes (l k : List UInt8) (hl : l.length = 512) (hk : k.length = 512) (h : ∀ i, 18 ≤ i → i < 22 → l.getD i 0 = k.getD i 0) : (l.drop 18).take 4 = (k.drop 18).take 4 := by
  refine ext_getD _ _ (by simp [hl, hk]) (fun i hi => ?_)
  have hi : i < 4 := by simp [hl] at hi; omega
  have := h (18 + i) (by omega) (by omega)
  simpa [List.getD_eq_getElem?_getD, List.getElem?_take, List.getElem?_drop, hi] using this
theorem of_sum_bytes (l k : List UInt8) (h : (l.drop 18).take 4 = (k.drop 18).take 4) (i : Nat) (h1 : 18 ≤ i) (h2 : i < 22) : l.getD i 0 = k.getD i 0 := by
  have := congrArg (fun m => m.getD (i - 18) 0) h
  simp only [List.getD_eq_getElem?_getD, List.getElem?_take, List.getElem?_drop, if_pos (show i - 18 < 4 by omega), show 18 + (i - 18) = i by omega] at this
  simpa [List.getD_eq_getElem?_getD] using this
theorem page_told (p : PG) (h : right p = true) (a y : Nat) (ha : a + 4 ≤ 512) (hy : y < 2 ^ 32) (hy0 : y ≠ 0)
    (hm : (∀ k, k < 4 → turnB y k ≠ 0 → 18 ≤ a + k ∧ a + k < 22) ∨ (∀ k, k < 4 → turnB y k ≠ 0 → ¬ (18 ≤ a + k ∧ a + k < 22))) : read (Crc.turn (packed p) a y 4) = none := by
  cases hr : read (Crc.turn (packed p) a y 4) with
  | none => rfl
  | some q =>
    exfalso
    obtain ⟨_, hq⟩ := of_read _ _ hr
    have hb : p.body.length ≤ 488 := by
      unfold right at h
      simp only [Bool.and_eq_true, decide_eq_true_eq] at h
      omega
    have hl := packed_length p hb
    obtain ⟨l, hl0⟩ : ∃ l, packed p = l := ⟨_, rfl⟩
    obtain ⟨l', hl0'⟩ : ∃ l', Crc.turn l a y 4 = l' := ⟨_, rfl⟩
    have n1 := packed_nulled p
    have n2 := packed_nulled q
    rw [hl0] at n1 hl hq
    rw [hq, hl0'] at n2
    have hl' : l'.length = 512 := by rw [← hl0', Crc.turn_length]; exact hl
    have g : ∀ i, l'.getD i 0 = if a ≤ i ∧ i < a + 4 then l.getD i 0 ^^^ turnB y (i - a) else l.getD i 0 := fun i => by rw [← hl0']; exact turn_getD l a y 4 (by omega) i
    rcases hm with hm | hm
    · have hz : nulled l' = nulled l := by
        refine ext_getD _ _ (by rw [nulled_length _ hl', nulled_length _ hl]) (fun i _ => ?_)
        rw [nulled_getD _ hl', nulled_getD _ hl]
        split
        · rfl
        · rename_i hi
          rw [g i]
          split
          · rename_i hj
            have : turnB y (i - a) = 0 := by
              rcases Classical.em (turnB y (i - a) = 0) with e | e
              · exact e
              · have := hm (i - a) (by omega) e
                omega
            rw [this, UInt8.xor_zero]
          · rfl
      rw [hz, ← n1] at n2
      have hz4 : ∀ k, k < 4 → turnB y k = 0 := by
        intro k hk
        rcases Classical.em (turnB y k = 0) with e | e
        · exact e
        · exfalso
          have hk2 := hm k hk e
          have := of_sum_bytes l' l n2 (a + k) hk2.1 hk2.2
          rw [g (a + k), if_pos (by omega), Nat.add_sub_cancel_left] at this
          exact e (xor_self_zero _ _ this)
      exact hy0 (Crc.zero_of y hy (hz4 0 (by omega)) (hz4 1 (by omega)) (hz4 2 (by omega)) (hz4 3 (by omega)))
    · have hb0 : ∀ i, 18 ≤ i → i < 22 → a ≤ i → i < a + 4 → turnB y (i - a) = 0 := by
        intro i h1 h2 h3 h4
        rcases Classical.em (turnB y (i - a) = 0) with e | e
        · exact e
        · exact absurd (by omega) (hm (i - a) (by omega) e)
      have hs : (l'.drop 18).take 4 = (l.drop 18).take 4 := sum_bytes l' l hl' hl (fun i h1 h2 => by
        rw [g i]
        split
        · rename_i hj
          rw [hb0 i h1 h2 hj.1 hj.2, UInt8.xor_zero]
        · rfl)
      rw [n2, n1] at hs
      have hon := beB_inj _ _ (on_lt _ _) (on_lt _ _) hs
      have hz : nulled l' = Crc.turn (nulled l) a y 4 := by
        refine ext_getD _ _ (by rw [Crc.turn_length, nulled_length _ hl', nulled_length _ hl]) (fun i _ => ?_)
        rw [turn_getD _ a y 4 (by rw [nulled_length _ hl]; exact ha), nulled_getD _ hl', nulled_getD _ hl, g i]
        by_cases h1 : 18 ≤ i ∧ i < 22
        · rw [if_pos h1, if_pos h1]
          split
          · rename_i hj
            rw [hb0 i h1.1 h1.2 hj.1 hj.2]; rfl
          · rfl
        · rw [if_neg h1, if_neg h1]
      rw [hz] at hon
      exact Crc.turn_tells (nulled l) a y (by rw [nulled_length _ hl]; exact ha) hy hy0 hon
end Page
end Go.Proofs.Ytjgndgcegenikaa
