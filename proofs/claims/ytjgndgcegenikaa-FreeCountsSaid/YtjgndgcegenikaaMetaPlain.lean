/-
  Plain laws of no statement: a meta's bytes (chapter 4), as lists: what is packed is read as it was; what is read is packed; what is turned is told; the newest of two. No conditions but those typed.
-/
import Derived.Test.YtjgndgcegenikaaPageTold
namespace Go.Proofs.Ytjgndgcegenikaa
namespace Page
/-- a meta -/
structure ME where
  txn : Nat
  root : Nat
  free : Nat
  pages : Nat
  limit : Nat
def rightM (m : ME) : Bool := decide (m.txn ≤ 1099511627776) && decide (2 ≤ m.limit) && decide (m.limit ≤ 512) && decide (1 ≤ m.pages) && decide (m.pages ≤ m.limit) && decide (m.root < m.pages) && decide (m.free < m.pages)
/-- the bytes that are summed -/
def headM (m : ME) : List UInt8 := [82, 79, 76, 76, 66, 79, 79, 75] ++ (beB m.txn 8 0 ++ (beB m.root 4 0 ++ (beB m.free 4 0 ++ (beB m.pages 4 0 ++ beB m.limit 4 0))))
def packedM (m : ME) : List UInt8 := headM m ++ (beB (Crc.on 0 (headM m)) 4 0 ++ noughts 92)
def fieldsM (l : List UInt8) : ME := ⟨at_ l 8 8, at_ l 16 4, at_ l 20 4, at_ l 24 4, at_ l 28 4⟩
/-- what is read -/
def readM (l : List UInt8) : Option ME :=
  if l.length = 128 ∧ at_ l 8 8 ≤ 1099511627776 ∧ rightM (fieldsM l) = true ∧ packedM (fieldsM l) = l then some (fieldsM l) else none
theorem headM_length (m : ME) : (headM m).length = 32 := by
  unfold headM
  simp only [List.length_append, beB_length, List.length_cons, List.length_nil]
theorem packedM_length (m : ME) : (packedM m).length = 128 := by
  unfold packedM noughts
  simp only [List.length_append, headM_length, beB_length, List.length_replicate]
theorem packedM_fields (m : ME) (h : rightM m = true) : fieldsM (packedM m) = m := by
  unfold rightM at h
  simp only [Bool.and_eq_true, decide_eq_true_eq] at h
  obtain ⟨⟨⟨⟨⟨⟨h1, h2⟩, h3⟩, h4⟩, h5⟩, h6⟩, h7⟩ := h
  have k1 := beN_whole m.txn 8 (by omega)
  have k2 := beN_whole m.root 4 (by omega)
  have k3 := beN_whole m.free 4 (by omega)
  have k4 := beN_whole m.pages 4 (by omega)
  have k5 := beN_whole m.limit 4 (by omega)
  have l1 := beB_length m.txn 8 0
  have l2 := beB_length m.root 4 0
  have l3 := beB_length m.free 4 0
  have l4 := beB_length m.pages 4 0
  have l5 := beB_length m.limit 4 0
  obtain ⟨T, hT⟩ : ∃ T, packedM m = [82, 79, 76, 76, 66, 79, 79, 75] ++ (beB m.txn 8 0 ++ (beB m.root 4 0 ++ (beB m.free 4 0 ++ (beB m.pages 4 0 ++ (beB m.limit 4 0 ++ T))))) :=
    ⟨beB (Crc.on 0 (headM m)) 4 0 ++ noughts 92, by unfold packedM headM; simp only [List.append_assoc]⟩
  rw [hT]
  have e1 : at_ ([82, 79, 76, 76, 66, 79, 79, 75] ++ (beB m.txn 8 0 ++ (beB m.root 4 0 ++ (beB m.free 4 0 ++ (beB m.pages 4 0 ++ (beB m.limit 4 0 ++ T)))))) 8 8 = m.txn := by
    unfold at_
    rw [drop_app _ _ 8 8 rfl (by omega), Nat.sub_self, List.drop_zero, take_app _ _ 8 l1, k1]
  have e2 : at_ ([82, 79, 76, 76, 66, 79, 79, 75] ++ (beB m.txn 8 0 ++ (beB m.root 4 0 ++ (beB m.free 4 0 ++ (beB m.pages 4 0 ++ (beB m.limit 4 0 ++ T)))))) 16 4 = m.root := by
    unfold at_
    rw [drop_app _ _ 16 8 rfl (by omega), drop_app _ _ 8 8 l1 (by omega), Nat.sub_self, List.drop_zero, take_app _ _ 4 l2, k2]
  have e3 : at_ ([82, 79, 76, 76, 66, 79, 79, 75] ++ (beB m.txn 8 0 ++ (beB m.root 4 0 ++ (beB m.free 4 0 ++ (beB m.pages 4 0 ++ (beB m.limit 4 0 ++ T)))))) 20 4 = m.free := by
    unfold at_
    rw [drop_app _ _ 20 8 rfl (by omega), drop_app _ _ 12 8 l1 (by omega), drop_app _ _ 4 4 l2 (by omega), Nat.sub_self, List.drop_zero, take_app _ _ 4 l3, k3]
  have e4 : at_ ([82, 79, 76, 76, 66, 79, 79, 75] ++ (beB m.txn 8 0 ++ (beB m.root 4 0 ++ (beB m.free 4 0 ++ (beB m.pages 4 0 ++ (beB m.limit 4 0 ++ T)))))) 24 4 = m.pages := by
    unfold at_
    rw [drop_app _ _ 24 8 rfl (by omega), drop_app _ _ 16 8 l1 (by omega), drop_app _ _ 8 4 l2 (by omega), drop_app _ _ 4 4 l3 (by omega), Nat.sub_self, List.drop_zero, take_app _ _ 4 l4, k4]
  have e5 : at_ ([82, 79, 76, 76, 66, 79, 79, 75] ++ (beB m.txn 8 0 ++ (beB m.root 4 0 ++ (beB m.free 4 0 ++ (beB m.pages 4 0 ++ (beB m.limit 4 0 ++ T)))))) 28 4 = m.limit := by
    unfold at_
    rw [drop_app _ _ 28 8 rfl (by omega), drop_app _ _ 20 8 l1 (by omega), drop_app _ _ 12 4 l2 (by omega), drop_app _ _ 8 4 l3 (by omega), drop_app _ _ 4 4 l4 (by omega), Nat.sub_self, List.drop_zero, take_app _ _ 4 l5, k5]
  unfold fieldsM
  rw [e1, e2, e3, e4, e5]
/-- what is packed is read as it was -/
theorem readM_packed (m : ME) (h : rightM m = true) : readM (packedM m) = some m := by
  have e := packedM_fields m h
  have ht : m.txn ≤ 1099511627776 := by
    unfold rightM at h
    simp only [Bool.and_eq_true, decide_eq_true_eq] at h
    omega
  have e1 : at_ (packedM m) 8 8 = m.txn := congrArg ME.txn e
  unfold readM
  rw [e, if_pos ⟨packedM_length m, by rw [e1]; exact ht, h, rfl⟩]
/-- what is read is packed so -/
theorem of_readM (l : List UInt8) (m : ME) (h : readM l = some m) : rightM m = true ∧ packedM m = l := by
  unfold readM at h
  split at h
  · rename_i h'
    injection h with h
    subst h
    exact ⟨h'.2.2.1, h'.2.2.2⟩
  · cases h
theorem readM_long (l : List UInt8) (h : l.length ≠ 128) : readM l = none := by
  unfold readM
  rw [if_neg (fun e => h e.1)]
theorem read_long (l : List UInt8) (h : l.length ≠ 512) : read l = none := by
  unfold read
  rw [if_neg (fun e => h e.1)]
theorem headM_getD (m : ME) (i : Nat) (h : i < 32) : (packedM m).getD i 0 = (headM m).getD i 0 := by
  unfold packedM
  simp only [List.getD_eq_getElem?_getD]
  rw [List.getElem?_append_left (by rw [headM_length]; exact h)]
theorem sumM_getD (m : ME) (i : Nat) (h : i < 4) : (packedM m).getD (32 + i) 0 = (beB (Crc.on 0 (headM m)) 4 0).getD i 0 := by
  unfold packedM
  simp only [List.getD_eq_getElem?_getD]
  rw [List.getElem?_append_right (by rw [headM_length]; omega), headM_length, Nat.add_sub_cancel_left, List.getElem?_append_left (by rw [beB_length]; exact h)]
theorem tailM_getD (m : ME) (i : Nat) (h : 36 ≤ i) : (packedM m).getD i 0 = 0 := by
  unfold packedM noughts
  simp only [List.getD_eq_getElem?_getD]
  rw [List.getElem?_append_right (by rw [headM_length]; omega), headM_length, List.getElem?_append_right (by rw [beB_length]; omega), beB_length, List.getElem?_replicate]
  split <;> rfl
theorem wide_getD (m : ME) (i : Nat) : (headM m ++ noughts 4).getD i 0 = if i < 32 then (headM m).getD i 0 else 0 := by
  simp only [List.getD_eq_getElem?_getD]
  by_cases h : i < 32
  · rw [if_pos h, List.getElem?_append_left (by rw [headM_length]; exact h)]
  · rw [if_neg h, List.getElem?_append_right (by rw [headM_length]; omega)]
    unfold noughts
    rw [List.getElem?_replicate]
    split <;> rfl
theorem meta_told (m : ME) (a y : Nat) (ha : a + 4 ≤ 128) (hy : y < 2 ^ 32) (hy0 : y ≠ 0)
    (hm : (∀ k, k < 4 → turnB y k ≠ 0 → 32 ≤ a + k ∧ a + k < 36) ∨ (∀ k, k < 4 → turnB y k ≠ 0 → ¬ (32 ≤ a + k ∧ a + k < 36))) : readM (Crc.turn (packedM m) a y 4) = none := by
  cases hr : readM (Crc.turn (packedM m) a y 4) with
  | none => rfl
  | some q =>
    exfalso
    obtain ⟨_, hq⟩ := of_readM _ _ hr
    have hl := packedM_length m
    have g : ∀ i, (packedM q).getD i 0 = if a ≤ i ∧ i < a + 4 then (packedM m).getD i 0 ^^^ turnB y (i - a) else (packedM m).getD i 0 := fun i => by rw [hq]; exact turn_getD _ a y 4 (by omega) i
    have z : ∀ k, k < 4 → (∀ h : turnB y k ≠ 0, False) → turnB y k = 0 := fun k _ h => by
      rcases Classical.em (turnB y k = 0) with e | e
      · exact e
      · exact (h e).elim
    rcases hm with hm | hm
    · have hh : headM q = headM m := by
        refine ext_getD _ _ (by rw [headM_length, headM_length]) (fun i hi => ?_)
        rw [headM_length] at hi
        rw [← headM_getD q i hi, ← headM_getD m i hi, g i]
        split
        · rename_i hj
          rw [z (i - a) (by omega) (fun h => by have := hm (i - a) (by omega) h; omega), UInt8.xor_zero]
        · rfl
      have hz4 : ∀ k, k < 4 → turnB y k = 0 := fun k hk => z k hk (fun h => by
        have hk2 := hm k hk h
        have h1 := sumM_getD q (a + k - 32) (by omega)
        rw [hh, ← sumM_getD m (a + k - 32) (by omega), show 32 + (a + k - 32) = a + k by omega, g (a + k), if_pos (by omega), Nat.add_sub_cancel_left] at h1
        exact h (xor_self_zero _ _ h1))
      exact hy0 (Crc.zero_of y hy (hz4 0 (by omega)) (hz4 1 (by omega)) (hz4 2 (by omega)) (hz4 3 (by omega)))
    · have hb0 : ∀ i, 32 ≤ i → a ≤ i → i < a + 4 → turnB y (i - a) = 0 := by
        intro i h1 h3 h4
        refine z (i - a) (by omega) (fun h => ?_)
        by_cases h2 : i < 36
        · exact hm (i - a) (by omega) h (by omega)
        · have := g i
          rw [tailM_getD q i (by omega), if_pos ⟨h3, h4⟩, tailM_getD m i (by omega), UInt8.zero_xor] at this
          exact h this.symm
      have hs : beB (Crc.on 0 (headM q)) 4 0 = beB (Crc.on 0 (headM m)) 4 0 := by
        refine ext_getD _ _ (by rw [beB_length, beB_length]) (fun i hi => ?_)
        rw [beB_length] at hi
        rw [← sumM_getD q i (by omega), ← sumM_getD m i (by omega), g (32 + i)]
        split
        · rename_i hj
          rw [hb0 (32 + i) (by omega) hj.1 hj.2, UInt8.xor_zero]
        · rfl
      have hon := beB_inj _ _ (on_lt _ _) (on_lt _ _) hs
      have hon2 : Crc.on 0 (headM q ++ noughts 4) = Crc.on 0 (headM m ++ noughts 4) := by
        rw [← Crc.on_append 0 (by omega), ← Crc.on_append 0 (by omega), hon]
      have hlen : ∀ x : ME, (headM x ++ noughts 4).length = 36 := fun x => by rw [List.length_append, headM_length]; rfl
      by_cases ha2 : a + 4 ≤ 36
      · have hz : headM q ++ noughts 4 = Crc.turn (headM m ++ noughts 4) a y 4 := by
          refine ext_getD _ _ (by rw [Crc.turn_length, hlen, hlen]) (fun i _ => ?_)
          rw [turn_getD _ a y 4 (by rw [hlen]; exact ha2), wide_getD, wide_getD]
          by_cases h1 : i < 32
          · rw [if_pos h1, if_pos h1, ← headM_getD q i h1, ← headM_getD m i h1, g i]
          · rw [if_neg h1, if_neg h1]
            split
            · rename_i hj
              rw [hb0 i (by omega) hj.1 hj.2]; rfl
            · rfl
        rw [hz] at hon2
        exact Crc.turn_tells (headM m ++ noughts 4) a y (by rw [hlen]; exact ha2) hy hy0 hon2
      · have hz4 : ∀ k, k < 4 → turnB y k = 0 := fun k hk => by
          have := hb0 (a + k) (by omega) (by omega) (by omega)
          rwa [Nat.add_sub_cancel_left] at this
        exact hy0 (Crc.zero_of y hy (hz4 0 (by omega)) (hz4 1 (by omega)) (hz4 2 (by omega)) (hz4 3 (by omega)))
/-- the newest of two, and where it stands -/
def newest (a b : List UInt8) : Option (ME × Nat) :=
  match readM a, readM b with
  | some x, some y => if x.txn < y.txn then some (y, 1) else some (x, 0)
  | some x, none => some (x, 0)
  | none, some y => some (y, 1)
  | none, none => none
theorem newest_told (a b : List UInt8) : (newest a b).isSome = ((readM a).isSome || (readM b).isSome) ∧
    ∀ m k, newest a b = some (m, k) → (∀ x, readM a = some x → x.txn ≤ m.txn) ∧ (∀ x, readM b = some x → x.txn ≤ m.txn) := by
  unfold newest
  cases readM a with
  | none =>
    cases readM b with
    | none => exact ⟨rfl, fun m k h => (nomatch h)⟩
    | some y =>
      refine ⟨rfl, fun m k h => ⟨fun x hx => (nomatch hx), fun x hx => ?_⟩⟩
      cases h
      cases hx
      exact Nat.le_refl _
  | some x =>
    cases readM b with
    | none =>
      refine ⟨rfl, fun m k h => ⟨fun x hx => ?_, fun x hx => (nomatch hx)⟩⟩
      cases h
      cases hx
      exact Nat.le_refl _
    | some y =>
      refine ⟨by dsimp only; split <;> rfl, fun m k h => ?_⟩
      dsimp only at h
      split at h <;> cases h <;> refine ⟨fun z hz => ?_, fun z hz => ?_⟩ <;> cases hz <;> omega
end Page
end Go.Proofs.Ytjgndgcegenikaa
