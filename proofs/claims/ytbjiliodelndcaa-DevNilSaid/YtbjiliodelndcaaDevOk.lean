/-
  Plain laws of no statement: what stays of a device (chapter 3), whatever is called. No conditions but those typed.
-/
import Derived.Test.YtbjiliodelndcaaDevSpec
namespace Go.Proofs.Ytbjiliodelndcaa
namespace RD
theorem Ok.more {K K' : Nat} {d : RD} (h : Ok K d) (hK : K ≤ K') : Ok K' d :=
  ⟨h.len, Nat.le_trans h.row hK, h.at_, h.left, ⟨h.count.1, by have := h.count.2; omega⟩, ⟨h.wrote.1, by have := h.wrote.2; omega⟩⟩
theorem stepped_ok {K : Nat} {d : RD} (h : Ok K d) : Ok (K + 1) d.stepped := by
  have h1 := h.count
  have h2 := h.left
  have h3 := h.wrote
  have h4 := h.row
  unfold stepped
  split
  · exact h.more (by omega)
  · split
    · exact ⟨h.len, by simp only; omega, h.at_, by simp only; omega, by simp only; omega, by simp only; omega⟩
    · split
      · exact ⟨h.len, by simp only; omega, h.at_, by simp only; omega, by simp only; omega, by simp only; omega⟩
      · exact ⟨h.len, by simp only; omega, h.at_, by simp only; omega, by simp only; omega, by simp only; omega⟩
theorem write_ok {K : Nat} {d : RD} (h : Ok K d) (i : Int) (s : ByteArray) : Ok (K + 1) (d.writeD i s) := by
  have hs := stepped_ok h
  unfold writeD
  split
  · rename_i hh
    split
    · have h3 := h.wrote
      have h4 := h.row
      refine ⟨hs.len, by simp only [List.length_append, List.length_singleton]; omega, ?_, hs.left, hs.count, by simp only; omega⟩
      intro x hx
      simp only [List.mem_append, List.mem_singleton] at hx
      rw [show ({ d.stepped with row := d.row ++ [(i.toNat, s)], wrote := d.wrote + 1 } : RD).sector = d.stepped.sector from rfl, stepped_sector]
      rcases hx with hx | rfl
      · exact h.at_ x hx
      · unfold has at hh
        simp at hh
        simp only
        omega
    · exact hs
  · exact h.more (by omega)
theorem sync_ok {K : Nat} {d : RD} (h : Ok K d) : Ok (K + 1) d.syncD := by
  have hs := stepped_ok h
  unfold syncD
  split
  · exact ⟨by simp only [synced_length]; exact h.len, by simp, by simp, hs.left, hs.count, hs.wrote⟩
  · exact hs
theorem fuse_ok {K : Nat} {d : RD} (h : Ok K d) (n : Int) (hn : n ≤ 9223372036854775807) : Ok (K + 1) (d.fuseD n) := by
  have h' := h.more (Nat.le_succ K)
  unfold fuseD
  split
  · exact h'
  · exact ⟨h'.len, h'.row, h'.at_, by simp only; split <;> omega, h'.count, h'.wrote⟩
theorem cut_ok {K : Nat} {d : RD} (h : Ok K d) : Ok (K + 1) d.cutD := by
  have h' := h.more (Nat.le_succ K)
  unfold cutD
  split
  · exact h'
  · exact ⟨h'.len, h'.row, h'.at_, by simp, h'.count, h'.wrote⟩
theorem started_length (picks : List Int) (row : List (Nat × ByteArray)) (n i turn : Nat) (s : List ByteArray) : (started picks row n i turn s).length = s.length := by
  induction n generalizing i turn s with
  | zero => rfl
  | succ n ih =>
    rw [started]
    split
    · exact ih _ _ _
    · rw [ih]
      split
      · rfl
      · rw [List.length_set]
theorem start_ok {K : Nat} {d : RD} (h : Ok K d) (picks : List Int) : Ok (K + 1) (d.startD picks) := by
  have h' := h.more (Nat.le_succ K)
  unfold startD
  split
  · exact ⟨by simp only [started_length]; exact h.len, by simp, by simp, h'.left, h'.count, h'.wrote⟩
  · exact h'
theorem fresh_ok (z : ByteArray) (n : Nat) (h : n ≤ 2048) : Ok 0 (fresh z n) :=
  ⟨by simp [fresh]; omega, by simp [fresh], by simp [fresh], by simp [fresh], by simp [fresh], by simp [fresh]⟩
theorem write_length (d : RD) (i : Int) (s : ByteArray) : (d.writeD i s).sector.length = d.sector.length := by
  unfold writeD
  split
  · split
    · rw [← stepped_sector d]
    · rw [stepped_sector]
  · rfl
theorem sync_length (d : RD) : d.syncD.sector.length = d.sector.length := by
  unfold syncD
  split
  · simp only [synced_length]
  · rw [stepped_sector]
theorem fuse_length (d : RD) (n : Int) : (d.fuseD n).sector.length = d.sector.length := by unfold fuseD; split <;> rfl
theorem cut_length (d : RD) : d.cutD.sector.length = d.sector.length := by unfold cutD; split <;> rfl
theorem start_length (d : RD) (picks : List Int) : (d.startD picks).sector.length = d.sector.length := by
  unfold startD
  split
  · simp only [started_length]
  · rfl
end RD
/-- a call that is played: what it does, and what it answers -/
structure ActM where
  kind : Int
  i : Int
  n : Int
  c : UInt8
  text : ByteArray
  picks : List Int
def actD (f : UInt8 → ByteArray → ByteArray) (x : ActM) (d : RD) : RD :=
  if x.kind = 1 then d.writeD x.i (f x.c x.text) else if x.kind = 2 then d.syncD else if x.kind = 3 then d.fuseD x.n else if x.kind = 4 then d.cutD else if x.kind = 5 then d.startD x.picks else d
def actE (f : UInt8 → ByteArray → ByteArray) (x : ActM) (d : RD) : Int :=
  if x.kind = 1 then d.writeE x.i (f x.c x.text) else if x.kind = 2 then d.syncE else if x.kind = 3 then d.fuseE else if x.kind = 4 then d.fuseE else if x.kind = 5 then d.startE else d.readE x.i
theorem act_ok {K : Nat} {d : RD} (f : UInt8 → ByteArray → ByteArray) (x : ActM) (h : RD.Ok K d) (hn : x.n ≤ 9223372036854775807) : RD.Ok (K + 1) (actD f x d) := by
  unfold actD
  split
  · exact RD.write_ok h _ _
  · split
    · exact RD.sync_ok h
    · split
      · exact RD.fuse_ok h _ hn
      · split
        · exact RD.cut_ok h
        · split
          · exact RD.start_ok h _
          · exact h.more (Nat.le_succ K)
theorem act_length (f : UInt8 → ByteArray → ByteArray) (x : ActM) (d : RD) : (actD f x d).sector.length = d.sector.length := by
  unfold actD
  split
  · exact RD.write_length _ _ _
  · split
    · exact RD.sync_length _
    · split
      · exact RD.fuse_length _ _
      · split
        · exact RD.cut_length _
        · split
          · exact RD.start_length _ _
          · rfl
end Go.Proofs.Ytbjiliodelndcaa
