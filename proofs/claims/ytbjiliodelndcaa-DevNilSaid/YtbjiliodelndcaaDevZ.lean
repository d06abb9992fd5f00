/-
  The program's dev.Start, its plain part: the sectors that wait in their order, and what of each lasts; contracts of pickOf and picked. No conditions but those typed.
-/
import Derived.Test.YtbjiliodelndcaaDevY
import Derived.Test.YtbjiliodelndcaaSorted
import Derived.Lib.SlKeysI
namespace Go.Proofs.Ytbjiliodelndcaa
open Go.RowKit
attribute [local go_sem ↓] Go.wp_at_zero Go.wp_at_succ
/-- sector by sector of those that wait -/
def startL (picks : List Int) (row : List (Nat × ByteArray)) : List Nat → Nat → List ByteArray → List ByteArray
  | [], _, s => s
  | i :: l, turn, s => startL picks row l (turn + 1) (kept s i (RD.writes row i) (RD.keeps picks turn (RD.writes row i).length))
theorem started_eq (picks : List Int) (row : List (Nat × ByteArray)) : ∀ (n i turn : Nat) (s : List ByteArray),
    RD.started picks row n i turn s = startL picks row ((List.range' i n).filter fun j => decide ((RD.writes row j).length ≠ 0)) turn s
  | 0, _, _, _ => rfl
  | n + 1, i, turn, s => by
    rw [List.range'_succ]
    by_cases h : (RD.writes row i).length = 0
    · rw [RD.started_skip _ _ _ _ _ _ h, started_eq, List.filter_cons_of_neg (by simp [h])]
    · rw [RD.started_take _ _ _ _ _ _ h, started_eq, List.filter_cons_of_pos (by simpa using h)]
      rfl
/-- the sectors that wait -/
def dueOf (d : RD) : List Nat := (List.range' 0 d.sector.length).filter fun j => decide ((RD.writes d.row j).length ≠ 0)
theorem mem_due (d : RD) (j : Nat) : j ∈ dueOf d ↔ j < d.sector.length ∧ RD.writes d.row j ≠ [] := by
  unfold dueOf
  rw [List.mem_filter, List.mem_range']
  simp
theorem range_rises (n : Nat) : (List.range' 0 n).Pairwise (· < ·) := by
  rw [← List.range_eq_range']
  exact List.pairwise_lt_range
/-- the keys of the map, sorted, are the sectors that wait in their order -/
theorem sorted_due {w : World} {b n nn : Nat} {d : RD} {f : Int → Option Value} {D : DataW Value} {kt : TypeId} {P : Program} (hk : P.underlying kt = some (.int .i64)) (hown : w.ownsMap P kt heldR b nn D)
    (h1 : ∀ k v, f k = some v → Maps.has D (.int .i64 k) = true) (h2 : ∀ k, Maps.has D (.int .i64 k) = true → ∃ v, f k = some v)
    (hr : ∀ k v, f k = some v → ∃ i : Nat, k = i ∧ i < d.sector.length ∧ RD.writes d.row i ≠ []) (hr2 : ∀ i : Nat, RD.writes d.row i ≠ [] → ∃ v, f i = some v)
    (ss : List Int) (hp : ss.Perm (intKeys D)) (hn : n = ss.length) : ss.mergeSort (fun x y => decide (x ≤ y)) = (dueOf d).map (fun i : Nat => (i : Int)) ∧ n = (dueOf d).length := by
  have hc : CollectedI D (fun _ => false) ((dueOf d).map (fun i : Nat => (i : Int))) := by
    refine ⟨?_, fun x => ?_⟩
    · refine List.pairwise_map.2 ?_
      refine (((range_rises d.sector.length).filter _).imp ?_)
      intro a b hab e
      omega
    · rw [List.mem_map]
      constructor
      · rintro ⟨j, hj, rfl⟩
        obtain ⟨v, hv⟩ := hr2 j ((mem_due d j).1 hj).2
        exact ⟨h1 _ v hv, rfl⟩
      · rintro ⟨hx, _⟩
        obtain ⟨v, hv⟩ := h2 x hx
        obtain ⟨i, rfl, hi, hw⟩ := hr x v hv
        exact ⟨i, (mem_due d i).2 ⟨hi, hw⟩, rfl⟩
  have hperm := hp.trans (hc.perm hown (Maps.int_keyed hk) hk (fun _ => rfl)).symm
  refine ⟨?_, by rw [hn, hperm.length_eq, List.length_map]⟩
  rw [mergeSort_of_perm_i hperm]
  refine List.mergeSort_of_pairwise ?_
  refine List.pairwise_map.2 (((range_rises d.sector.length).filter _).imp ?_)
  intro a b hab
  simp
  omega
/-- the pick of the k-th -/
def pickAt (picks : List Int) (k : Nat) : Int := if picks.length = 0 then 0 else picks.getD (k % picks.length) 0
theorem pickOf40 (w : World) (F : List Nat) (v : Value) (picks : List Int) (h : NumsAt w F v picks) (k : Nat) :
    Calls Try.prog 40 #[v, .int .i64 k] w fun e w' => e = .returned (.int .i64 (pickAt picks k)) ∧ w = w' := by
  obtain ⟨A, cap, rfl, hl, hz, hc⟩ := h
  by_cases h0 : picks.length = 0
  · have d0 : ((picks.length : Int) == 0) = true := by rw [h0]; rfl
    have HP : Hid (pickAt picks k = 0) := Lib.hid (by unfold pickAt; rw [if_pos h0])
    clear hc hz h0
    go_enter Try.func40, Try.ntmps40
    go_wp2
    go_ret
    exact ⟨by rw [HP.out]; rfl, rfl⟩
  · have d0 : ((picks.length : Int) == 0) = false := by rw [beq_eq_false_iff_ne]; omega
    have hm : k % picks.length < picks.length := Nat.mod_lt _ (by omega)
    obtain ⟨b, off, rfl, _, _, hcell⟩ := hc (k % picks.length) hm
    obtain ⟨x, hx⟩ : ∃ x, picks[k % picks.length] = x := ⟨_, rfl⟩
    have HP : Hid (pickAt picks k = x) := Lib.hid (by unfold pickAt; rw [if_neg h0, ← hx, List.getD_eq_getElem?_getD, List.getElem?_eq_getElem hm]; rfl)
    rw [hx] at hcell
    obtain ⟨q, hq⟩ : ∃ q : Nat, k % picks.length = q := ⟨_, rfl⟩
    rw [hq] at hm hcell
    obtain ⟨n, hn⟩ : ∃ n : Nat, picks.length = n := ⟨_, rfl⟩
    rw [hn] at d0 hm hq hl
    have hrem : Int.tmod (k : Int) (n : Int) = (q : Int) := by rw [← hq]; rfl
    have i1 : (0 : Int) ≤ (q : Int) := by omega
    have i2 : (q : Int) < (n : Int) := by omega
    clear hc hz hx
    rw [hn]
    go_enter Try.func40, Try.ntmps40
    go_wp2
    go_ret
    exact ⟨by rw [HP.out]; rfl, rfl⟩
theorem pickAt_in {w : World} {F : List Nat} {v : Value} {picks : List Int} (h : NumsAt w F v picks) (k : Nat) : -9223372036854775808 ≤ pickAt picks k ∧ pickAt picks k ≤ 9223372036854775807 := by
  obtain ⟨_, _, _, _, hz, _⟩ := h
  unfold pickAt
  split
  · omega
  · rename_i h0
    have hm : k % picks.length < picks.length := Nat.mod_lt _ (by omega)
    rw [List.getD_eq_getElem?_getD, List.getElem?_eq_getElem hm]
    exact hz _ (List.getElem_mem hm)
theorem keeps_eq (picks : List Int) (k m : Nat) : RD.keeps picks k m = if 0 < pickAt picks k then (pickAt picks k % ((m : Int) + 1)).toNat else 0 := by
  unfold RD.keeps pickAt
  by_cases h : picks.length = 0
  · rw [if_pos h, if_pos h]; rfl
  · rw [if_neg h, if_neg h]
theorem picked39 (w : World) (picks : List Int) (k m : Nat) (hm : m ≤ 1000000) (hz : -9223372036854775808 ≤ pickAt picks k ∧ pickAt picks k ≤ 9223372036854775807) :
    Calls Try.prog 39 #[.int .i64 (pickAt picks k), .int .i64 m] w fun e w' => e = .returned (.int .i64 (RD.keeps picks k m : Nat)) ∧ w = w' := by
  have HK := Lib.hid (keeps_eq picks k m)
  obtain ⟨x, hx⟩ : ∃ x, pickAt picks k = x := ⟨_, rfl⟩
  rw [hx] at HK hz ⊢
  by_cases h0 : x < 0
  · have d0 : decide (x < 0) = true := decide_eq_true h0
    have HV : Hid (RD.keeps picks k m = 0) := Lib.hid (by rw [HK.out, if_neg (by omega)])
    clear hz h0
    go_enter Try.func39, Try.ntmps39
    go_wp2
    go_ret
    exact ⟨by rw [HV.out]; rfl, rfl⟩
  · have d0 : decide (x < 0) = false := decide_eq_false h0
    obtain ⟨y, rfl⟩ := Int.eq_ofNat_of_zero_le (show 0 ≤ x by omega)
    have HV : Hid (RD.keeps picks k m = y % (m + 1)) := Lib.hid (by
      rw [HK.out]
      split
      · rw [show ((m : Int) + 1) = ((m + 1 : Nat) : Int) by omega, ← Int.natCast_emod, Int.toNat_natCast]
      · rw [show y = 0 by omega, Nat.zero_mod])
    obtain ⟨q, hq⟩ : ∃ q : Nat, y % (m + 1) = q := ⟨_, rfl⟩
    have hrem : Int.tmod (y : Int) ((m : Int) + 1) = (q : Int) := by rw [← hq]; rfl
    have hqm : q < m + 1 := by rw [← hq]; exact Nat.mod_lt _ (by omega)
    rw [hq] at HV
    clear hz h0 hq
    go_enter Try.func39, Try.ntmps39
    go_wp2
    go_ret
    exact ⟨by rw [HV.out]; rfl, rfl⟩
end Go.Proofs.Ytbjiliodelndcaa
