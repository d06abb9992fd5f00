/-
  P3.2 (fuses), of any program's device that meets the kit: the statement's function returns true, whatever it is handed. No conditions but those typed.
-/
import Derived.Test.YtbjiliodelndcaaDevAwake
import Derived.Laws.Bits64b
namespace Go.Proofs.Ytbjiliodelndcaa
open Go.RowKit
theorem and31 (n : Int) : ∃ m : Nat, m ≤ 31 ∧ bits .and .i64 n 31 = (m : Int) := by
  have h : ((BitVec.ofInt 64 n &&& BitVec.ofInt 64 31).toNat) ≤ 31 := by
    rw [BitVec.toNat_and]
    exact Nat.le_trans Nat.and_le_right (by decide)
  refine ⟨(BitVec.ofInt 64 n &&& BitVec.ofInt 64 31).toNat, h, ?_⟩
  show IntKind.i64.wrap ((BitVec.ofInt 64 n &&& BitVec.ofInt 64 31).toNat : Int) = _
  rw [IntKind.wrap_i64]
  omega
/-- the device behind so many steps, of a fuse of n -/
def FuseAt (n j : Nat) (d : RD) : Prop :=
  RD.Ok (j + 10) d ∧ d.sector.length = 1 ∧ d.count = j ∧ (if j < n then d.off = false ∧ d.left = (n : Int) - j else d.off = true)
theorem fuse_goes {n j : Nat} {d : RD} (h : FuseAt n j d) (hj : j < n) : d.goes = decide (j + 1 < n) := by
  obtain ⟨_, _, _, h4⟩ := h
  rw [if_pos hj] at h4
  unfold RD.goes
  rw [h4.1, h4.2]
  by_cases h : j + 1 < n
  · have : ¬ ((n : Int) - j = 1) := by omega
    simp [h, this]
  · have : (n : Int) - j = 1 := by omega
    simp [h, this]
theorem fuse_stepped {n j : Nat} {d : RD} (h : FuseAt n j d) (hj : j < n) : d.stepped.count = ((j + 1 : Nat) : Int) ∧ (if j + 1 < n then d.stepped.off = false ∧ d.stepped.left = (n : Int) - ((j + 1 : Nat) : Int) else d.stepped.off = true) := by
  obtain ⟨_, _, h3, h4⟩ := h
  rw [if_pos hj] at h4
  unfold RD.stepped
  rw [if_neg (by rw [h4.1]; simp)]
  by_cases hl : j + 1 < n
  · rw [if_neg (by omega), if_pos (by omega), if_pos hl]
    exact ⟨by simp only; omega, h4.1, by simp only; omega⟩
  · rw [if_pos (by omega), if_neg hl]
    exact ⟨by simp only; omega, rfl⟩
theorem fuse_sync {n j : Nat} {d : RD} (h : FuseAt n j d) (hj : j < n) : FuseAt n (j + 1) d.syncD ∧ d.syncE = (if j + 1 < n then 0 else 6) ∧ (¬ j + 1 < n → d.syncD.wrote = d.wrote) := by
  have hg := fuse_goes h hj
  obtain ⟨s1, s2⟩ := fuse_stepped h hj
  refine ⟨⟨(RD.sync_ok h.1).more (by omega), by rw [RD.sync_length]; exact h.2.1, ?_, ?_⟩, ?_, ?_⟩
  · unfold RD.syncD; by_cases hq : d.goes = true
    · rw [if_pos hq]; exact s1
    · rw [if_neg hq]; exact s1
  · unfold RD.syncD; by_cases hq : d.goes = true
    · rw [if_pos hq]; exact s2
    · rw [if_neg hq]; exact s2
  · unfold RD.syncE; rw [hg]; simp
  · intro hl; unfold RD.syncD; rw [hg, if_neg (by simp [hl]), RD.stepped_wrote]
theorem fuse_write {n j : Nat} {d : RD} (h : FuseAt n j d) (hj : j < n) (s : ByteArray) (hs : s.size = 128) : FuseAt n (j + 1) (d.writeD 0 s) ∧ d.writeE 0 s = (if j + 1 < n then 0 else 6) ∧ (¬ j + 1 < n → (d.writeD 0 s).wrote = d.wrote) := by
  have hg := fuse_goes h hj
  obtain ⟨s1, s2⟩ := fuse_stepped h hj
  have hh : (d.has 0 && decide (s.size = 128)) = true := by unfold RD.has; rw [h.2.1, hs]; rfl
  refine ⟨⟨(RD.write_ok h.1 _ _).more (by omega), by rw [RD.write_length]; exact h.2.1, ?_, ?_⟩, ?_, ?_⟩
  · unfold RD.writeD; rw [if_pos hh]; by_cases hq : d.goes = true
    · rw [if_pos hq]; exact s1
    · rw [if_neg hq]; exact s1
  · unfold RD.writeD; rw [if_pos hh]; by_cases hq : d.goes = true
    · rw [if_pos hq]; exact s2
    · rw [if_neg hq]; exact s2
  · unfold RD.writeE; rw [if_pos hh, hg]; simp
  · intro hl; unfold RD.writeD; rw [if_pos hh, hg, if_neg (by simp [hl]), RD.stepped_wrote]
set_option maxHeartbeats 1600000 in
theorem fuses_any (At : World → Nat → RD → List Nat → Prop) (D : DevKit At) (w : World) (n0 syncs : Int) : Calls Try.prog 5 #[.int .i64 n0, .int .i64 syncs] w fun e w' => e = .returned (.bool true) ∧ Below w.heap.size w w' := by
  obtain ⟨m, hm, he⟩ := and31 n0
  have f0 := RD.fresh_ok (sectorOf 0) 1 (by omega)
  go_enter Try.func5, Try.ntmps5
  go_wp2_with fail
  refine (awake_any At D _).mono ?_
  rintro _ w1 ⟨rfl, hb1⟩
  go_wp2_with fail
  refine (D.new 1 _ (by omega) (by omega)).mono ?_
  rintro _ w2 ⟨p, F, rfl, hA, hF, hb2⟩
  go_wp2_with fail
  refine (D.fuse _ _ _ _ _ hA).mono ?_
  rintro _ w3 ⟨rfl, F3, hA3, hT3, hG3⟩
  have hfe : (RD.fresh (sectorOf 0) 1).fuseE = 0 := rfl
  rw [hfe]
  go_wp2
  have H3 : Hid (FuseAt (m + 1) 0 ((RD.fresh (sectorOf 0) 1).fuseD (1 + (m : Int)))) := Lib.hid (by
    refine ⟨(RD.fuse_ok f0 _ (by omega)).more (by omega), by rw [RD.fuse_length]; rfl, ?_, ?_⟩
    · unfold RD.fuseD; rfl
    · rw [if_pos (by omega)]
      unfold RD.fuseD
      rw [if_neg (by simp [RD.fresh])]
      refine ⟨rfl, ?_⟩
      show (if 1 + (m : Int) < 1 then 0 else 1 + (m : Int)) = _
      rw [if_neg (by omega)]
      omega)
  have B2 := hb1.trans (hb2.mono hb1.size)
  have B3 := below_step B2 (fun k hk => Nat.le_trans hb1.size (hF k hk)) hT3 (hG3.up B2.size)
  clear hA hF hb2 hT3 hG3 hfe f0 hb1 B2 he
  go_loopw [7] (fun i wr => ∃ (j : Nat) (d : RD) (F : List Nat), j ≤ m + 1 ∧ i = .int .i64 ((j : Int) + 1) ∧ At wr p d F ∧ Hid (FuseAt (m + 1) j d) ∧ (∀ k ∈ F, w.heap.size ≤ k) ∧ Below w.heap.size w wr) (fun i _ => m + 2 - (intOf i).toNat)
  case atStart => exact ⟨0, _, F3, by omega, rfl, hA3, H3, B3.2, B3.1⟩
  case round =>
    obtain ⟨j, d, F4, hj, rfl, hA4, hFA, hF4, hB4⟩ := hrel
    by_cases hlt : j < m + 1
    · have t1 : decide ((j : Int) + 1 ≤ 1 + (m : Int)) = true := decide_eq_true (by omega)
      obtain ⟨m2, hm2, he2⟩ := and31 ((j : Int) + 1)
      have W1 := Lib.hid (D.writes _ _ _ _ hA4)
      go_wp2_with fail
      refine W1.out.mono ?_
      rintro _ _ ⟨rfl, rfl⟩
      by_cases hs : (bits .and .i64 (syncs / 2 ^ m2) 1 == 1) = true
      · go_wp2_with fail
        refine (D.sync _ _ _ _ _ (by omega) hFA.out.1 hA4).mono ?_
        rintro _ w5 ⟨rfl, F5, hA5, hT5, hG5⟩
        have hFS := fuse_sync hFA.out hlt
        have hB5 := below_step hB4 hF4 hT5 (hG5.up hB4.size)
        by_cases hl : j + 1 < m + 1
        · have hoff : d.syncD.off = false := by
            have h := hFS.1.2.2.2
            rw [if_pos hl] at h
            exact h.1
          have hE : d.syncE = 0 := by rw [hFS.2.1, if_pos hl]
          rw [hE]
          have t2 : decide ((j : Int) + 1 < 1 + (m : Int)) = true := decide_eq_true (by omega)
          have t3 : ((j : Int) + 1 == 1 + (m : Int)) = false := by rw [beq_eq_false_iff_ne]; omega
          have HF2 := Lib.hid hFS.1
          have hcnt := hFS.1.2.2.1
          clear hE hFS hl
          go_wp2_with fail
          refine (D.steps _ _ _ _ hA5).mono ?_
          rintro _ _ ⟨rfl, rfl⟩
          rw [hcnt]
          go_wp2_with fail
          refine (D.on _ _ _ _ hA5).mono ?_
          rintro _ _ ⟨rfl, rfl⟩
          rw [hoff]
          clear hcnt hoff
          go_wp2
          go_roundw
          case rel => exact ⟨j + 1, _, F5, by omega, by go_num, hA5, HF2, hB5.2, hB5.1⟩
          case measure => simp [intOf]; omega
        · have hoff : d.syncD.off = true := by
            have h := hFS.1.2.2.2
            rw [if_neg hl] at h
            exact h
          have hE : d.syncE = 6 := by rw [hFS.2.1, if_neg hl]
          rw [hE]
          have t2 : decide ((j : Int) + 1 < 1 + (m : Int)) = false := decide_eq_false (by omega)
          have t3 : ((j : Int) + 1 == 1 + (m : Int)) = true := by rw [beq_iff_eq]; omega
          have hw := hFS.2.2 hl
          have HF2 := Lib.hid hFS.1
          have hcnt := hFS.1.2.2.1
          clear hE hFS hl
          go_wp2_with fail
          refine (D.steps _ _ _ _ hA5).mono ?_
          rintro _ _ ⟨rfl, rfl⟩
          rw [hcnt]
          go_wp2_with fail
          refine (D.on _ _ _ _ hA5).mono ?_
          rintro _ _ ⟨rfl, rfl⟩
          rw [hoff]
          clear hcnt hoff
          go_wp2_with fail
          refine (D.writes _ _ _ _ hA5).mono ?_
          rintro _ _ ⟨rfl, rfl⟩
          rw [hw]
          clear hw
          go_wp2
          go_roundw
          case rel => exact ⟨j + 1, _, F5, by omega, by go_num, hA5, HF2, hB5.2, hB5.1⟩
          case measure => simp [intOf]; omega
      · have hs : (bits .and .i64 (syncs / 2 ^ m2) 1 == 1) = false := by simpa using hs
        have hu : ((UInt8.ofNat (j + 1)).toNat : Int) = (j : Int) + 1 := by simp; omega
        have SC := fun w => sector_ok (UInt8.ofNat (j + 1)) w
        rw [hu] at SC
        obtain ⟨sx, hsx⟩ : ∃ sx, sectorOf (UInt8.ofNat (j + 1)) = sx := ⟨_, rfl⟩
        have hsz := sectorOf_size (UInt8.ofNat (j + 1))
        rw [hsx] at SC hsz
        clear hsx
        have SH := fun w => Lib.hid (SC w)
        clear SC hu
        go_wp2_with fail
        refine (SH _).out.mono ?_
        rintro _ w5 ⟨rfl, hb5⟩
        have hA45 := D.touch hA4 (Touch.ofBelow hb5) (by simp)
        have hB45 := hB4.trans (hb5.mono hB4.size)
        go_wp2_with fail
        refine (D.write _ _ _ _ _ (by omega) hFA.out.1 0 sx hA45).mono ?_
        rintro _ w6 ⟨rfl, F5, hA5, hT5, hG5⟩
        have hFS := fuse_write hFA.out hlt sx hsz
        clear hsz
        have hB5 := below_step hB45 hF4 hT5 (hG5.up hB45.size)
        by_cases hl : j + 1 < m + 1
        · have hoff : (d.writeD 0 sx).off = false := by
            have h := hFS.1.2.2.2
            rw [if_pos hl] at h
            exact h.1
          have hE : d.writeE 0 sx = 0 := by rw [hFS.2.1, if_pos hl]
          rw [hE]
          have t2 : decide ((j : Int) + 1 < 1 + (m : Int)) = true := decide_eq_true (by omega)
          have t3 : ((j : Int) + 1 == 1 + (m : Int)) = false := by rw [beq_eq_false_iff_ne]; omega
          have HF2 := Lib.hid hFS.1
          have hcnt := hFS.1.2.2.1
          clear hE hFS hl
          go_wp2_with fail
          refine (D.steps _ _ _ _ hA5).mono ?_
          rintro _ _ ⟨rfl, rfl⟩
          rw [hcnt]
          go_wp2_with fail
          refine (D.on _ _ _ _ hA5).mono ?_
          rintro _ _ ⟨rfl, rfl⟩
          rw [hoff]
          clear hcnt hoff
          go_wp2
          go_roundw
          case rel => exact ⟨j + 1, _, F5, by omega, by go_num, hA5, HF2, hB5.2, hB5.1⟩
          case measure => simp [intOf]; omega
        · have hoff : (d.writeD 0 sx).off = true := by
            have h := hFS.1.2.2.2
            rw [if_neg hl] at h
            exact h
          have hE : d.writeE 0 sx = 6 := by rw [hFS.2.1, if_neg hl]
          rw [hE]
          have t2 : decide ((j : Int) + 1 < 1 + (m : Int)) = false := decide_eq_false (by omega)
          have t3 : ((j : Int) + 1 == 1 + (m : Int)) = true := by rw [beq_iff_eq]; omega
          have hw := hFS.2.2 hl
          have HF2 := Lib.hid hFS.1
          have hcnt := hFS.1.2.2.1
          clear hE hFS hl
          go_wp2_with fail
          refine (D.steps _ _ _ _ hA5).mono ?_
          rintro _ _ ⟨rfl, rfl⟩
          rw [hcnt]
          go_wp2_with fail
          refine (D.on _ _ _ _ hA5).mono ?_
          rintro _ _ ⟨rfl, rfl⟩
          rw [hoff]
          clear hcnt hoff
          go_wp2_with fail
          refine (D.writes _ _ _ _ hA5).mono ?_
          rintro _ _ ⟨rfl, rfl⟩
          rw [hw]
          clear hw
          go_wp2
          go_roundw
          case rel => exact ⟨j + 1, _, F5, by omega, by go_num, hA5, HF2, hB5.2, hB5.1⟩
          case measure => simp [intOf]; omega
    · obtain rfl : j = m + 1 := by omega
      have t1 : decide ((m : Int) + 1 + 1 ≤ 1 + (m : Int)) = false := decide_eq_false (by omega)
      have hoff : d.off = true := by
        have h := hFA.out.2.2.2
        rw [if_neg hlt] at h
        exact h
      have hcnt : d.count = ((m + 1 : Nat) : Int) := hFA.out.2.2.1
      have hse : d.syncE = 6 := by unfold RD.syncE RD.goes; rw [hoff]; rfl
      have hsd : d.syncD = d := by unfold RD.syncD RD.goes RD.stepped; rw [hoff]; simp
      have SY := D.sync _ _ _ _ _ (by omega) hFA.out.1 hA4
      rw [hse, hsd] at SY
      have SH := Lib.hid SY
      clear SY hse hsd hoff
      have HC := Lib.hid hcnt
      clear hcnt
      go_wp2_with fail
      refine SH.out.mono ?_
      rintro _ w5 ⟨rfl, F5, hA5, hT5, hG5⟩
      have hB5 := below_step hB4 hF4 hT5 (hG5.up hB4.size)
      go_wp2_with fail
      refine (D.steps _ _ _ _ hA5).mono ?_
      rintro _ _ ⟨rfl, rfl⟩
      rw [HC.out]
      have t9 : ((m : Int) + 1 == 1 + (m : Int)) = true := by rw [beq_iff_eq]; omega
      go_wp2
      go_ret
      exact ⟨rfl, hB5.1⟩
end Go.Proofs.Ytbjiliodelndcaa
