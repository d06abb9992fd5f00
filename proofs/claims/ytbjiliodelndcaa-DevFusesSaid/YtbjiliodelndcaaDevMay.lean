/-
  Plain laws of no statement: what may last of a sector (chapter 3, P3.4): what lasts of it, and what its writes that wait wrote. No conditions but those typed.
-/
import Derived.Test.YtbjiliodelndcaaDevOk
namespace Go.Proofs.Ytbjiliodelndcaa
namespace RD
theorem last_writes (l : List (Nat × ByteArray)) (i : Nat) (s : ByteArray) : last l i s = (s :: writes l i).getLast (by simp) := by
  induction l generalizing s with
  | nil => rfl
  | cons x l ih =>
    have e : last (x :: l) i s = last l i (if x.1 = i then x.2 else s) := rfl
    rw [e, ih]
    unfold writes
    by_cases h : x.1 = i
    · simp [h]
    · simp [h]
theorem synced_at (l : List (Nat × ByteArray)) (i : Nat) (s : List ByteArray) (h : i < s.length) : (synced l s).getD i ⟨#[]⟩ = last l i (s.getD i ⟨#[]⟩) := by
  induction l generalizing s with
  | nil => rfl
  | cons x l ih =>
    have e : synced (x :: l) s = synced l (s.set x.1 x.2) := rfl
    have e2 : last (x :: l) i (s.getD i ⟨#[]⟩) = last l i (if x.1 = i then x.2 else s.getD i ⟨#[]⟩) := rfl
    rw [e, ih _ (by rw [List.length_set]; exact h), e2]
    congr 1
    by_cases hx : x.1 = i
    · subst hx
      simp [List.getD_eq_getElem?_getD, h]
    · simp [List.getD_eq_getElem?_getD, hx]
theorem getD_set_mem (s : List ByteArray) (j i : Nat) (x : ByteArray) : (s.set j x).getD i ⟨#[]⟩ = s.getD i ⟨#[]⟩ ∨ (j = i ∧ (s.set j x).getD i ⟨#[]⟩ = x) := by
  by_cases hj : j = i
  · subst hj
    by_cases hl : j < s.length
    · right; simp [List.getD_eq_getElem?_getD, hl]
    · left
      rw [List.set_eq_of_length_le (by omega)]
  · left; simp [List.getD_eq_getElem?_getD, hj]
theorem started_mem (picks : List Int) (row : List (Nat × ByteArray)) (i : Nat) (n j turn : Nat) (s : List ByteArray) :
    (started picks row n j turn s).getD i ⟨#[]⟩ ∈ s.getD i ⟨#[]⟩ :: writes row i := by
  induction n generalizing j turn s with
  | zero => exact List.mem_cons_self
  | succ n ih =>
    rw [started]
    split
    · exact ih _ _ _
    · rename_i hw
      have h1 := ih (j + 1) (turn + 1) (if keeps picks turn (writes row j).length = 0 then s else s.set j ((writes row j).getD (keeps picks turn (writes row j).length - 1) ⟨#[]⟩))
      split
      · rename_i hk
        rw [if_pos hk] at h1
        exact h1
      · rename_i hk
        rw [if_neg hk] at h1
        rcases List.mem_cons.1 h1 with h1 | h1
        · rcases getD_set_mem s j i ((writes row j).getD (keeps picks turn (writes row j).length - 1) ⟨#[]⟩) with h2 | ⟨hj, h2⟩
          · rw [h1, h2]; exact List.mem_cons_self
          · subst hj
            rw [h1, h2]
            have hle := keeps_le picks turn (writes row j).length
            have hlt : keeps picks turn (writes row j).length - 1 < (writes row j).length := by omega
            have hg : (writes row j).getD (keeps picks turn (writes row j).length - 1) ⟨#[]⟩ = (writes row j)[keeps picks turn (writes row j).length - 1] := by simp [List.getD_eq_getElem?_getD, hlt]
            rw [hg]
            exact List.mem_cons_of_mem _ (List.getElem_mem hlt)
        · exact List.mem_cons_of_mem _ h1
end RD
/-- what may last of sector i: nothing that can be told of no sector -/
def MayOk (i : Int) (d : RD) (M : List ByteArray) : Prop :=
  M ≠ [] ∧ (0 ≤ i → i < 4 → M = d.sector.getD i.toNat ⟨#[]⟩ :: RD.writes d.row i.toNat)
theorem may_fresh (i : Int) (z : ByteArray) : MayOk i (RD.fresh z 4) [z] := by
  refine ⟨by simp, fun h0 h4 => ?_⟩
  have : i.toNat < 4 := by omega
  show [z] = (List.replicate 4 z).getD i.toNat ⟨#[]⟩ :: RD.writes [] i.toNat
  rw [List.getD_eq_getElem?_getD, List.getElem?_replicate, if_pos this]
  rfl
theorem may_same {i : Int} {d d' : RD} {M : List ByteArray} (h : MayOk i d M) (h1 : d'.sector = d.sector) (h2 : d'.row = d.row) : MayOk i d' M := by
  unfold MayOk
  rw [h1, h2]
  exact h
theorem may_stepped {i : Int} {d : RD} {M : List ByteArray} (h : MayOk i d M) : MayOk i d.stepped M := may_same h (RD.stepped_sector d) (RD.stepped_row d)
/-- a write of the sector that was answered -/
theorem may_write {i : Int} {d : RD} {M : List ByteArray} (h : MayOk i d M) (s : ByteArray) (he : d.writeE i s = 0) : MayOk i (d.writeD i s) (M ++ [s]) := by
  obtain ⟨h1, h2⟩ := h
  unfold RD.writeE at he
  split at he
  · rename_i hh
    split at he
    · rename_i hg
      refine ⟨by simp, fun h0 h4 => ?_⟩
      unfold RD.writeD
      rw [if_pos hh, if_pos hg, h2 h0 h4]
      show _ = d.stepped.sector.getD _ _ :: RD.writes (d.row ++ [(i.toNat, s)]) i.toNat
      rw [RD.stepped_sector, RD.writes_snoc, if_pos rfl]
      rfl
    · omega
  · omega
/-- .. any other write -/
theorem may_write_other {i k : Int} {d : RD} {M : List ByteArray} (h : MayOk i d M) (s : ByteArray) (he : ¬ (k = i ∧ d.writeE k s = 0)) : MayOk i (d.writeD k s) M := by
  unfold RD.writeD
  split
  · rename_i hh
    split
    · rename_i hg
      have hne : k ≠ i := by
        intro e
        apply he
        refine ⟨e, ?_⟩
        unfold RD.writeE
        rw [if_pos hh, if_pos hg]
      obtain ⟨h1, h2⟩ := h
      refine ⟨h1, fun h0 h4 => ?_⟩
      show _ = d.stepped.sector.getD _ _ :: RD.writes (d.row ++ [(k.toNat, s)]) i.toNat
      have hk : 0 ≤ k := by unfold RD.has at hh; simp at hh; omega
      rw [RD.stepped_sector, RD.writes_snoc, if_neg (by show ¬ (k.toNat = i.toNat); omega)]
      exact h2 h0 h4
    · exact may_stepped h
  · exact h
theorem may_sync {i : Int} {d : RD} {M : List ByteArray} (hl : d.sector.length = 4) (h : MayOk i d M) (he : d.syncE = 0) : MayOk i d.syncD [M.getLast h.1] := by
  refine ⟨by simp, fun h0 h4 => ?_⟩
  unfold RD.syncE at he
  split at he
  · rename_i hg
    unfold RD.syncD
    rw [if_pos hg]
    show _ = (RD.synced d.row d.sector).getD _ _ :: RD.writes [] i.toNat
    rw [RD.synced_at _ _ _ (by omega), RD.last_writes]
    have := h.2 h0 h4
    simp only [this]
    rfl
  · omega
theorem may_sync_not {i : Int} {d : RD} {M : List ByteArray} (h : MayOk i d M) (he : d.syncE ≠ 0) : MayOk i d.syncD M := by
  unfold RD.syncE at he
  split at he
  · omega
  · rename_i hg
    unfold RD.syncD
    rw [if_neg hg]
    exact may_stepped h
theorem may_start {i : Int} {d : RD} (hl : d.sector.length = 4) (picks : List Int) (he : d.startE = 0) (lastsS : RD → Int → ByteArray) (hL : ∀ d : RD, d.sector.length = 4 → 0 ≤ i → i < 4 → lastsS d i = d.sector.getD i.toNat ⟨#[]⟩) : MayOk i (d.startD picks) [lastsS (d.startD picks) i] := by
  refine ⟨by simp, fun h0 h4 => ?_⟩
  rw [hL _ (by rw [RD.start_length]; exact hl) h0 h4]
  unfold RD.startE at he
  split at he
  · rename_i hg
    have e : (d.startD picks).row = [] := by unfold RD.startD; rw [if_pos hg]
    rw [e]
    rfl
  · omega
theorem may_start_not {i : Int} {d : RD} {M : List ByteArray} (h : MayOk i d M) (picks : List Int) (he : d.startE ≠ 0) : MayOk i (d.startD picks) M := by
  unfold RD.startE at he
  split at he
  · omega
  · rename_i hg
    unfold RD.startD
    rw [if_neg hg]
    exact h
theorem may_fuse {i : Int} {d : RD} {M : List ByteArray} (h : MayOk i d M) (n : Int) : MayOk i (d.fuseD n) M := by
  unfold RD.fuseD
  split
  · exact h
  · exact may_same h rfl rfl
theorem may_cut {i : Int} {d : RD} {M : List ByteArray} (h : MayOk i d M) : MayOk i d.cutD M := by
  unfold RD.cutD
  split
  · exact h
  · exact may_same h rfl rfl
/-- behind a loss of power, and any picks: what lasts is one of those -/
theorem may_last {i : Int} {d : RD} {M : List ByteArray} (h : MayOk i d M) (h0 : 0 ≤ i) (h4 : i < 4) (picks : List Int) : (d.cutD.startD picks).sector.getD i.toNat ⟨#[]⟩ ∈ M := by
  have hc := may_cut h
  have hoff : d.cutD.off = true := by unfold RD.cutD; split <;> simp_all
  unfold RD.startD
  rw [if_pos hoff, hc.2 h0 h4]
  exact RD.started_mem _ _ _ _ _ _ _
theorem cut_off (d : RD) : d.cutD.off = true := by unfold RD.cutD; split <;> simp_all
end Go.Proofs.Ytbjiliodelndcaa
