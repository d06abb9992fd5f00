/-
  Old or new, wherever the power goes (P5.4): the statement's function returns true at every input; of any device and pager that meet the kits. No conditions but those typed.
-/
import Derived.Test.YtjgmlpfallakmaaPgCommitPure
import Derived.Test.YtjgmlpfallakmaaActs
import Derived.Deep.DeepCutAuto
namespace Go.Proofs.Ytjgmlpfallakmaa
open Go.RowKit
/-- what holds of the device and its pager between two calls -/
structure CommitAt (At : World → Nat → RD → List Nat → Prop) (PAt : World → Nat → Nat → PS → List Nat → Prop) (B p q j : Nat) (d : RD) (s : PS) (F G : List Nat) (w : World) : Prop where
  a : At w p d F
  p : PAt w q p s G
  apart : ∀ k ∈ F, k ∉ G
  f : ∀ k ∈ F, B ≤ k
  g : ∀ k ∈ G, B ≤ k
  file : RD.File d s
  ok : DS.Ok (20 + 8 * j) ⟨d, some s⟩
  txn : s.m.txn = 1 + j
/-- what may be read behind a loss of power -/
def Good (dX : RD) (m n : MV) (e f : Int) : Prop :=
  ∀ picks, RD.Still (dX.cutD.startD picks) ∧ ((e = 6 ∧ f = 6 ∧ RD.Holds (dX.cutD.startD picks) m) ∨ (e = 0 ∧ f = 0 ∧ RD.Holds (dX.cutD.startD picks) n) ∨ (e = 0 ∧ f = 6 ∧ (RD.Holds (dX.cutD.startD picks) m ∨ RD.Holds (dX.cutD.startD picks) n)))
/-- what the device is behind Seal and Done -/
structure Ended (At : World → Nat → RD → List Nat → Prop) (B p K : Nat) (m n : MV) (e f : Int) (dX : RD) (F : List Nat) (w : World) : Prop where
  a : At w p dX F
  ge : ∀ k ∈ F, B ≤ k
  ok : RD.Ok K dX
  full : dX.Full
  len : dX.sector.length = 24
  good : Good dX m n e f
theorem nextM_right (t r : Int) (ht : 0 ≤ t ∧ t ≤ 1000) (hr : 0 ≤ r ∧ r < 4) : (⟨t, r, 0, 4, 6⟩ : MV).right = true := by
  rw [MV.right_iff]
  simp only
  omega
theorem off_cut {d : RD} (h : d.off = true) : d.cutD = d := by unfold RD.cutD; rw [if_pos h]
theorem cut_length (d : RD) : d.cutD.sector.length = d.sector.length := by unfold RD.cutD; split <;> rfl
theorem start_length (d : RD) (picks : List Int) : (d.startD picks).sector.length = d.sector.length := by
  unfold RD.startD
  split
  · exact RD.started_length _ _ _ _ _ _
  · rfl
set_option maxRecDepth 100000 in
set_option maxHeartbeats 6400000 in
theorem pgcommits_any (At : World → Nat → RD → List Nat → Prop) (PAt : World → Nat → Nat → PS → List Nat → Prop) (lt : ∀ {w : World} {p : Nat} {d : RD} {F : List Nat}, At w p d F → ∀ k ∈ F, k < w.heap.size)
    (tch : ∀ {w w' : World} {p : Nat} {d : RD} {F S : List Nat}, At w p d F → Touch S w w' → (∀ k ∈ S, k ∉ F) → At w' p d F) (N : HasNew At 8) (U : LandUse At) (S : HasSteps At 19) (O : HasOn At 16) (P : PgKit At PAt) (w : World) (txns root fuse : Int) (hfuse : fuse ≤ 9223372036854775807) (pv : Value) (picks : List Int) (hp : NumsLow w w.heap.size pv picks) :
    Calls Try.prog 4 #[.int .i64 txns, .int .i64 root, .int .i64 fuse, pv] w fun e w' => e = .returned (.bool true) ∧ Below w.heap.size w w' := by
  have HP := Lib.hid hp
  obtain ⟨PA, pcap, rfl, _⟩ := hp
  have AC := fun w => Lib.hid (pgawake_ok At PAt lt tch N P w)
  have BC := fun w => Lib.hid (begin_ok At PAt lt tch N P w)
  have a7 := and7 txns
  obtain ⟨t, ht⟩ : ∃ t : Nat, txns % 8 = (t : Int) := ⟨(txns % 8).toNat, by omega⟩
  have ht7 : t ≤ 7 := by omega
  rw [ht] at a7
  have a3 := and3 root
  obtain ⟨r, hr⟩ : ∃ r : Int, root % 4 = r := ⟨_, rfl⟩
  have hr4 : 0 ≤ r ∧ r < 4 := by omega
  rw [hr] at a3
  have E11 := func_enters Try.func11 (by kernel_rfl) rfl
  clear ht hr
  go_enter Try.func4, Try.ntmps4
  go_wp2_with fail
  refine (AC _).out.mono ?_
  rintro _ w1 ⟨rfl, hb1⟩
  go_wp2_with fail
  refine (BC _).out.mono ?_
  rintro _ w2 ⟨p, q, F, G, rfl, hA, hP, hFG, hF, hG, hb2⟩
  have HB2 := Lib.hid (hb1.trans (hb2.mono hb1.size))
  have HS2 : Hid (CommitAt At PAt w.heap.size p q 0 begD begS F G w2) := Lib.hid ⟨hA, hP, hFG, fun k hk => Nat.le_trans hb1.size (hF k hk), fun k hk => Nat.le_trans hb1.size (hG k hk), beg_file, ⟨begD_ok, begD_full, fun s hs => by injection hs with hs; subst hs; exact begS_ok⟩, rfl⟩
  clear hA hP hFG hF hG hb2 hb1
  go_wp2_with fail
  go_loopw [11] (fun i wr => ∃ (j : Nat) (d : RD) (s : PS) (F G : List Nat), j ≤ t ∧ i = .int .i64 j ∧ Hid (CommitAt At PAt w.heap.size p q j d s F G wr) ∧ Hid (Below w.heap.size w wr)) (fun i _ => t - (intOf i).toNat)
  case atStart => exact ⟨0, _, _, _, _, by omega, rfl, HS2, HB2⟩
  case round =>
    obtain ⟨j, d, s, F, G, hj, rfl, H, HB⟩ := hrel
    clear HS2 HB2
    obtain ⟨⟨mt, mr, mf, mp, ml⟩, hm⟩ : ∃ m, s.m = m := ⟨_, rfl⟩
    have htx := H.out.txn
    rw [hm] at htx
    simp only at htx
    have hw1 : IntKind.i64.wrap (mt + 1) = mt + 1 := IntWalk.i64_in _ (by omega)
    have hfd : ∀ w, (Instr.field 32 (.agg #[.int .i64 mt, .int .i64 mr, .int .i64 mf, .int .i64 mp, .int .i64 ml]) 0).run Try.prog w = .ok (.int .i64 mt) w := fun w => by kernel_rfl
    have MC := P.meta_ wr q p s G H.out.p
    rw [hm] at MC
    unfold MV.val at MC
    simp only at MC
    have MC := Lib.hid MC
    by_cases hlt : j < t
    · have t1 : decide ((j : Int) < (t : Int)) = true := decide_eq_true (by omega)
      obtain ⟨n, hn⟩ : ∃ n : MV, (⟨mt + 1, 0, 0, 4, 6⟩ : MV) = n := ⟨_, rfl⟩
      have hnr : n.right = true := by rw [← hn]; exact nextM_right _ _ (by omega) (by omega)
      have hn1 : n.txn = s.m.txn + 1 := by rw [← hn, hm]
      have hn2 : n.limit = 6 := by rw [← hn]
      have hnv : n.val = .agg #[.int .i64 (mt + 1), .int .i64 0, .int .i64 0, .int .i64 4, .int .i64 6] := by rw [← hn]; rfl
      obtain ⟨x1, x2, x3, x4⟩ := RD.file_next H.out.file n hnr hn2 hn1
      have OK1 := DS.pSeal_ok H.out.ok n
      have OK2 := DS.pDone_ok OK1
      have OK1' : DS.Ok (20 + 8 * j + 4) ⟨s.sealD d n, some (s.sealS d n)⟩ := OK1
      have OK2' : DS.Ok (20 + 8 * j + 4 + 4) ⟨(s.sealS d n).doneD (s.sealD d n), some ((s.sealS d n).doneS (s.sealD d n))⟩ := OK2
      have OK2'' := OK2'.more (show 20 + 8 * j + 4 + 4 ≤ 20 + 8 * (j + 1) by omega)
      clear OK1 OK2
      have HX3 := Lib.hid x3
      have HX4 := Lib.hid (show ((s.sealS d n).doneS (s.sealD d n)).m.txn = 1 + (j + 1 : Nat) by rw [x4, ← hn]; simp only; omega)
      clear x3 x4 htx
      go_wp2_with fail
      refine MC.out.mono ?_
      rintro _ w3 ⟨rfl, hb3⟩
      have SC := P.seal_ w3 p q d s F G (20 + 8 * j) (by omega) H.out.ok.d (H.out.ok.s s rfl) n (tch H.out.a (Touch.ofBelow hb3) (by simp)) (P.touch H.out.p (Touch.ofBelow hb3) (by simp)) H.out.apart
      rw [hnv, x1] at SC
      have SC := Lib.hid SC
      have HB3 := Lib.hid (HB.out.trans (hb3.mono HB.out.size))
      clear hb3
      go_wp2_with fail
      refine SC.out.mono ?_
      rintro _ w4 ⟨rfl, F4, G4, hA4, hP4, hFG4, hT4, hG4⟩
      have HFG : ∀ k ∈ F ++ G, w.heap.size ≤ k := fun k hk => (List.mem_append.1 hk).elim (H.out.f k) (H.out.g k)
      have HFG4 : ∀ k ∈ F4 ++ G4, w.heap.size ≤ k := fun k hk => (hG4 k hk).elim (HFG k) (fun h => Nat.le_trans HB3.out.size h)
      have HB4 := Lib.hid (HB3.out.trans (hT4.below HB3.out.size HFG))
      have DC := P.done w4 p q _ _ F4 G4 (20 + 8 * j + 4) (by omega) OK1'.d (OK1'.s _ rfl) hA4 hP4 hFG4
      rw [x2] at DC
      have DC := Lib.hid DC
      clear hT4 hG4 hA4 hP4 hFG4
      go_wp2_with fail
      refine DC.out.mono ?_
      rintro _ w5 ⟨rfl, F5, G5, hA5, hP5, hFG5, hT5, hG5⟩
      have HFG5 : ∀ k ∈ F5 ++ G5, w.heap.size ≤ k := fun k hk => (hG5 k hk).elim (HFG4 k) (fun h => Nat.le_trans HB4.out.size h)
      have HB5 := Lib.hid (HB4.out.trans (hT5.below HB4.out.size HFG4))
      have HC5 : Hid (CommitAt At PAt w.heap.size p q (j + 1) _ _ F5 G5 w5) := Lib.hid ⟨hA5, hP5, hFG5, fun k hk => HFG5 k (List.mem_append_left _ hk), fun k hk => HFG5 k (List.mem_append_right _ hk), HX3.out, OK2'', HX4.out⟩
      clear hT5 hG5 hA5 hP5 hFG5
      go_wp2
      go_roundw
      case rel => exact ⟨j + 1, _, _, _, _, by omega, by go_num, HC5, HB5⟩
      case measure => simp [intOf]; omega
    · obtain rfl : j = t := by omega
      have t1 : decide ((j : Int) < (j : Int)) = false := decide_eq_false (by omega)
      clear hlt
      go_wp2_with fail
      refine MC.out.mono ?_
      rintro _ w3 ⟨rfl, hb3⟩
      obtain ⟨n, hn⟩ : ∃ n : MV, (⟨mt + 1, r, 0, 4, 6⟩ : MV) = n := ⟨_, rfl⟩
      have hnr : n.right = true := by rw [← hn]; exact nextM_right _ _ (by omega) (by omega)
      have hn1 : n.txn = s.m.txn + 1 := by rw [← hn, hm]
      have hn2 : n.limit = 6 := by rw [← hn]
      have hnv : n.val = .agg #[.int .i64 (mt + 1), .int .i64 r, .int .i64 0, .int .i64 4, .int .i64 6] := by rw [← hn]; rfl
      obtain ⟨d0, hd0⟩ : ∃ d0, d.fuseD fuse = d0 := ⟨_, rfl⟩
      have hd0' : d0 = { d with left := if fuse < 1 then 0 else fuse } := by rw [← hd0]; exact RD.fuse_left H.out.file.calm.off fuse
      have HFS := Lib.hid (RD.file_seal H.out.file _ n hnr hn2 hn1 d0 hd0')
      have hl0 : d0.sector.length = 24 := by rw [hd0']; exact H.out.file.len
      have OK0 : DS.Ok (20 + 8 * j + 1) ⟨d0, some s⟩ := by rw [← hd0]; exact ⟨RD.fuse_ok H.out.ok.d _ hfuse, H.out.ok.full.fuse _, H.out.ok.s⟩
      have OK1 : DS.Ok (20 + 8 * j + 1 + 4) ⟨s.sealD d0 n, some (s.sealS d0 n)⟩ := DS.pSeal_ok OK0 n
      have OK2 : DS.Ok (20 + 8 * j + 1 + 4 + 4) ⟨(s.sealS d0 n).doneD (s.sealD d0 n), some ((s.sealS d0 n).doneS (s.sealD d0 n))⟩ := DS.pDone_ok OK1
      have hl1 : (s.sealD d0 n).sector.length = 24 := by unfold PS.sealD; split <;> simp only [RD.write_length, hl0]
      have hl2 : ((s.sealS d0 n).doneD (s.sealD d0 n)).sector.length = 24 := by unfold PS.doneD; split <;> simp only [RD.sync_length, hl1]
      have HOK0 := Lib.hid OK0
      have HOK1 := Lib.hid OK1
      have HOK2 := Lib.hid OK2
      have HL1 := Lib.hid hl1
      have HL2 := Lib.hid hl2
      have HNV := Lib.hid hnv
      have HN1 := Lib.hid hn1
      have HFL := Lib.hid H.out.file
      have HHM := Lib.hid hm
      have HNR := Lib.hid hnr
      have HN2 := Lib.hid hn2
      have HJ := Lib.hid ht7
      have hwa := hb3.size
      have hFlt : ∀ k ∈ F, k < w3.heap.size := fun k hk => Nat.lt_of_lt_of_le (lt H.out.a k hk) hwa
      have hGlt : ∀ k ∈ G, k < w3.heap.size := fun k hk => Nat.lt_of_lt_of_le (P.lt H.out.p k hk) hwa
      have T3 : Touch [] wr ((w3.alloc (.cells #[.int .i64 mt, .int .i64 mr, .int .i64 mf, .int .i64 mp, .int .i64 ml] 32)).alloc (.cells #[.int .i64 (mt + 1), .int .i64 r, .int .i64 0, .int .i64 4, .int .i64 6] 32)) := ((Touch.ofBelow hb3).alloc _).alloc _
      have B3 := HB.out.trans (hb3.mono HB.out.size)
      have B3a := B3.alloc B3.size (.cells #[.int .i64 mt, .int .i64 mr, .int .i64 mf, .int .i64 mp, .int .i64 ml] 32)
      have B3b := B3a.alloc B3a.size (.cells #[.int .i64 (mt + 1), .int .i64 r, .int .i64 0, .int .i64 4, .int .i64 6] 32)
      have hA3 := tch H.out.a T3 (by simp)
      have hP3 := P.touch H.out.p T3 (by simp)
      have X3 : Blk ((w3.alloc (.cells #[.int .i64 mt, .int .i64 mr, .int .i64 mf, .int .i64 mp, .int .i64 ml] 32)).alloc (.cells #[.int .i64 (mt + 1), .int .i64 r, .int .i64 0, .int .i64 4, .int .i64 6] 32)) w3.heap.size #[.int .i64 mt, .int .i64 mr, .int .i64 mf, .int .i64 mp, .int .i64 ml] 32 := (Blk.new w3 _ _).alloc _
      have Y3 : Blk ((w3.alloc (.cells #[.int .i64 mt, .int .i64 mr, .int .i64 mf, .int .i64 mp, .int .i64 ml] 32)).alloc (.cells #[.int .i64 (mt + 1), .int .i64 r, .int .i64 0, .int .i64 4, .int .i64 6] 32)) (w3.heap.size + 1) #[.int .i64 (mt + 1), .int .i64 r, .int .i64 0, .int .i64 4, .int .i64 6] 32 := by
        have := Blk.new (w3.alloc (.cells #[.int .i64 mt, .int .i64 mr, .int .i64 mf, .int .i64 mp, .int .i64 ml] 32)) #[.int .i64 (mt + 1), .int .i64 r, .int .i64 0, .int .i64 4, .int .i64 6] 32
        simpa using this
      have FC := U.fuse _ p d F fuse hA3
      rw [hd0] at FC
      have FC := Lib.hid FC
      have HX3 := Lib.hid X3
      have HY3 := Lib.hid Y3
      have HP3 := Lib.hid hP3
      have HB3 := Lib.hid B3b
      have hge : ∀ k ∈ F ++ G, w.heap.size ≤ k := fun k hk => (List.mem_append.1 hk).elim (H.out.f k) (H.out.g k)
      have hap := H.out.apart
      clear T3 B3 B3a B3b hA3 hP3 X3 Y3 OK0 OK1 OK2 hl0 hl1 hl2 hnv hn1 hnr hn2 hd0 hd0' H HB hb3 MC hn htx hm
      go_wp2_with fail
      refine FC.out.mono ?_
      rintro _ w6 ⟨rfl, F6, hA6, hT6, hG6⟩
      have hwb : w3.heap.size + 2 ≤ w6.heap.size := by have := hT6.size; simp at this; omega
      have X6 := HX3.out.touch hT6 (fun hm => by have := hFlt _ hm; omega)
      have Y6 := HY3.out.touch hT6 (fun hm => by have := hFlt _ hm; omega)
      have hF6 : ∀ k ∈ F6, k ∈ F ∨ w3.heap.size + 2 ≤ k := fun k hk => (hG6 k hk).elim .inl (fun h => .inr (by simp at h; omega))
      have hap6 : ∀ k ∈ F6, k ∉ G := fun k hk hm => (hF6 k hk).elim (fun h => hap k h hm) (fun h => by have := hGlt k hm; omega)
      have hge6 : ∀ k ∈ F6 ++ G, w.heap.size ≤ k := fun k hk => (List.mem_append.1 hk).elim (fun h => (hF6 k h).elim (fun h => hge k (List.mem_append_left _ h)) (fun h => by have := HB3.out.size; simp at this; omega)) (fun h => hge k (List.mem_append_right _ h))
      have hP6 := P.touch HP3.out hT6 (fun k hk hm => hap k hk hm)
      have HB6 := Lib.hid (HB3.out.trans (hT6.below HB3.out.size (fun k hk => hge k (List.mem_append_left _ hk))))
      have hno : w3.heap.size ∉ F6 ++ G ∧ w3.heap.size + 1 ∉ F6 ++ G := by
        constructor
        · intro hm
          rcases List.mem_append.1 hm with h | h
          · rcases hF6 _ h with h | h
            · have := hFlt _ h; omega
            · omega
          · have := hGlt _ h; omega
        · intro hm
          rcases List.mem_append.1 hm with h | h
          · rcases hF6 _ h with h | h
            · have := hFlt _ h; omega
            · omega
          · have := hGlt _ h; omega
      have SC := P.seal_ w6 p q d0 s F6 G _ (by have := HJ.out; omega) HOK0.out.d (HOK0.out.s s rfl) n hA6 hP6 hap6
      rw [HNV.out] at SC
      obtain ⟨E, hE⟩ : ∃ E, s.sealE d0 n = E := ⟨_, rfl⟩
      rw [hE] at SC
      have SC := Lib.hid SC
      have HEE := Lib.hid hE
      have y0 : w6.cell? ⟨w3.heap.size + 1, 0, none⟩ = some (.int .i64 (mt + 1)) := Y6.cell 0
      have y1 : w6.cell? ⟨w3.heap.size + 1, 1, none⟩ = some (.int .i64 r) := Y6.cell 1
      have y2 : w6.cell? ⟨w3.heap.size + 1, 2, none⟩ = some (.int .i64 0) := Y6.cell 2
      have y3 : w6.cell? ⟨w3.heap.size + 1, 3, none⟩ = some (.int .i64 4) := Y6.cell 3
      have y4 : w6.cell? ⟨w3.heap.size + 1, 4, none⟩ = some (.int .i64 6) := Y6.cell 4
      have HX6 := Lib.hid X6
      have HY6 := Lib.hid Y6
      clear X6 Y6 hA6 hP6 hT6 hG6 hF6 hap6 HX3 HY3 FC HP3 hE hap hge hFlt hGlt
      go_wp2_with fail
      refine SC.out.mono ?_
      rintro _ w7 ⟨rfl, F7, G7, hA7, hP7, hap7, hT7, hG7⟩
      have HX7 := Lib.hid (HX6.out.touch hT7 hno.1)
      have HY7 := Lib.hid (HY6.out.touch hT7 hno.2)
      have hge7 : ∀ k ∈ F7 ++ G7, w.heap.size ≤ k := fun k hk => (hG7 k hk).elim (hge6 k) (fun h => Nat.le_trans HB6.out.size h)
      have hno7 : w3.heap.size ∉ F7 ++ G7 ∧ w3.heap.size + 1 ∉ F7 ++ G7 := ⟨fun hm => (hG7 _ hm).elim hno.1 (fun h => by omega), fun hm => (hG7 _ hm).elim hno.2 (fun h => by omega)⟩
      have HB7 := Lib.hid (HB6.out.trans (hT7.below HB6.out.size hge6))
      have DC := Lib.hid (P.done w7 p q _ _ F7 G7 _ (by have := HJ.out; omega) HOK1.out.d (HOK1.out.s _ rfl) hA7 hP7 hap7)
      have HA7 := Lib.hid hA7
      clear y0 y1 y2 y3 y4 HX6 HY6 SC hT7 hG7 hA7 hP7 hap7 hno hge6
      go_upto_if 66 with fail
      go_cut [15] (fun f wx => ∃ (dX : RD) (Fx : List Nat) (f0 : Int), f = .int .i64 f0 ∧ Hid (Ended At w.heap.size p 100 s.m n E f0 dX Fx wx) ∧ Hid (Below w.heap.size w wx) ∧ Hid (Blk wx w3.heap.size #[.int .i64 mt, .int .i64 mr, .int .i64 mf, .int .i64 mp, .int .i64 ml] 32) ∧ Hid (Blk wx (w3.heap.size + 1) #[.int .i64 (mt + 1), .int .i64 r, .int .i64 0, .int .i64 4, .int .i64 6] 32) ∧ w3.heap.size ∉ Fx ∧ w3.heap.size + 1 ∉ Fx)
      case first =>
        rcases HFS.out with ⟨z1, z2⟩ | ⟨z1, -, z3⟩
        · have e6 : E = 6 := HEE.out.symm.trans z1
          subst e6
          go_wp2_with fail
          go_meet
          exact ⟨_, F7, 6, rfl, Lib.hid ⟨HA7.out, fun k hk => hge7 k (List.mem_append_left _ hk), HOK1.out.d.more (by have := HJ.out; omega), HOK1.out.full, HL1.out, fun picks => ⟨(z2 picks).1, .inl ⟨rfl, rfl, (z2 picks).2⟩⟩⟩, HB7, HX7, HY7, fun hm => hno7.1 (List.mem_append_left _ hm), fun hm => hno7.2 (List.mem_append_left _ hm)⟩
        · have e0 : E = 0 := HEE.out.symm.trans z1
          subst e0
          go_wp2_with fail
          refine DC.out.mono ?_
          rintro _ w8 ⟨rfl, F8, G8, hA8, hP8, hap8, hT8, hG8⟩
          have HX8 := Lib.hid (HX7.out.touch hT8 hno7.1)
          have HY8 := Lib.hid (HY7.out.touch hT8 hno7.2)
          have hge8 : ∀ k ∈ F8 ++ G8, w.heap.size ≤ k := fun k hk => (hG8 k hk).elim (hge7 k) (fun h => Nat.le_trans HB7.out.size h)
          have hwc := HX7.out.lt
          have hwd := HY7.out.lt
          have hno8 : w3.heap.size ∉ F8 ++ G8 ∧ w3.heap.size + 1 ∉ F8 ++ G8 := ⟨fun hm => (hG8 _ hm).elim hno7.1 (fun h => by omega), fun hm => (hG8 _ hm).elim hno7.2 (fun h => by omega)⟩
          have HB8 := Lib.hid (HB7.out.trans (hT8.below HB7.out.size hge7))
          have HA8 := Lib.hid hA8
          clear hT8 hG8 hA8 hP8 hap8
          go_wp2_with fail
          go_meet
          rcases z3 with ⟨y1, _, y3⟩ | ⟨y1, _, y3⟩
          · exact ⟨_, F8, 0, by rw [y1], Lib.hid ⟨HA8.out, fun k hk => hge8 k (List.mem_append_left _ hk), HOK2.out.d.more (by have := HJ.out; omega), HOK2.out.full, HL2.out, fun picks => ⟨(y3 picks).1, .inr (.inl ⟨rfl, rfl, (y3 picks).2⟩)⟩⟩, HB8, HX8, HY8, fun hm => hno8.1 (List.mem_append_left _ hm), fun hm => hno8.2 (List.mem_append_left _ hm)⟩
          · exact ⟨_, F8, 6, by rw [y1], Lib.hid ⟨HA8.out, fun k hk => hge8 k (List.mem_append_left _ hk), HOK2.out.d.more (by have := HJ.out; omega), HOK2.out.full, HL2.out, fun picks => ⟨(y3 picks).1, .inr (.inr ⟨rfl, rfl, (y3 picks).2⟩)⟩⟩, HB8, HX8, HY8, fun hm => hno8.1 (List.mem_append_left _ hm), fun hm => hno8.2 (List.mem_append_left _ hm)⟩
      case rest =>
        obtain ⟨dX, Fx, f0, rfl, HE9, HB9, HX9, HY9, hnx, hny⟩ := hcut
        have ON := Lib.hid (O wc p dX Fx HE9.out.a)
        have CC := Lib.hid (U.cut wc p dX Fx HE9.out.a)
        clear HFS HA7 HB7 HX7 HY7 DC HOK0 HOK1 HOK2 HL1 HL2 hge7 hno7 HB3 HB6 HEE
        go_wp2_with fail
        refine ON.out.mono ?_
        rintro _ _ ⟨rfl, rfl⟩
        go_upto_if 70 with fail
        go_cut [] (fun wx => ∃ Fy : List Nat, Hid (At wx p dX.cutD Fy) ∧ Hid (∀ k ∈ Fy, w.heap.size ≤ k) ∧ Hid (Below w.heap.size w wx) ∧ Hid (Blk wx w3.heap.size #[.int .i64 mt, .int .i64 mr, .int .i64 mf, .int .i64 mp, .int .i64 ml] 32) ∧ Hid (Blk wx (w3.heap.size + 1) #[.int .i64 (mt + 1), .int .i64 r, .int .i64 0, .int .i64 4, .int .i64 6] 32) ∧ w3.heap.size ∉ Fy ∧ w3.heap.size + 1 ∉ Fy)
        case first =>
          cases ho : dX.off with
          | true =>
            have hcu := off_cut ho
            go_wp2_with fail
            go_meet
            exact ⟨Fx, Lib.hid (by rw [hcu]; exact HE9.out.a), Lib.hid HE9.out.ge, HB9, HX9, HY9, hnx, hny⟩
          | false =>
            go_wp2_with fail
            refine CC.out.mono ?_
            rintro _ w10 ⟨rfl, F10, hA10, hT10, hG10⟩
            have hwc := HX9.out.lt
            have hwd := HY9.out.lt
            have H1 := Lib.hid hA10
            have H2 := Lib.hid (fun k (hk : k ∈ F10) => (hG10 k hk).elim (HE9.out.ge k) (fun h => Nat.le_trans HB9.out.size h))
            have H3 := Lib.hid (HB9.out.trans (hT10.below HB9.out.size HE9.out.ge))
            have H4 := Lib.hid (HX9.out.touch hT10 hnx)
            have H5 := Lib.hid (HY9.out.touch hT10 hny)
            have h6 : w3.heap.size ∉ F10 := fun hm => (hG10 _ hm).elim hnx (fun h => by omega)
            have h7 : w3.heap.size + 1 ∉ F10 := fun hm => (hG10 _ hm).elim hny (fun h => by omega)
            clear hA10 hT10 hG10
            go_wp2_with fail
            go_meet
            exact ⟨F10, H1, H2, H3, H4, H5, h6, h7⟩
        case rest =>
          obtain ⟨Fy, HA, HF, HB, HX, HY, hny1, hny2⟩ := hcut
          clear CC ON HB9 HX9 HY9 hnx hny
          have OKC : RD.Ok 101 dX.cutD := RD.cut_ok HE9.out.ok
          have FUC : dX.cutD.Full := HE9.out.full.cut
          obtain ⟨dZ, hdZ⟩ : ∃ dZ, dX.cutD.startD picks = dZ := ⟨_, rfl⟩
          have SC := U.start wc p dX.cutD Fy 101 (by omega) OKC HA.out (.slice PA picks.length pcap) picks ((HP.out.below HB.out).at_ HB.out.size HF.out)
          rw [hdZ] at SC
          have SC := Lib.hid SC
          have OKZ : RD.Ok 102 dZ := by rw [← hdZ]; exact RD.start_ok OKC picks
          have FUZ : dZ.Full := by rw [← hdZ]; exact FUC.start picks
          have hlZ : dZ.sector.length = 24 := by rw [← hdZ, start_length, cut_length]; exact HE9.out.len
          have HG := HE9.out.good picks
          rw [hdZ] at HG
          obtain ⟨hst, hgd⟩ := HG
          have hwc := HX.out.lt
          have hwd := HY.out.lt
          go_wp2_with fail
          refine SC.out.mono ?_
          rintro _ wD ⟨rfl, FD, hAD, hTD, hGD⟩
          have HXD := Lib.hid (HX.out.touch hTD hny1)
          have HYD := Lib.hid (HY.out.touch hTD hny2)
          have HBD := Lib.hid (HB.out.trans (hTD.below HB.out.size HF.out))
          have ST := Lib.hid (S wD p dZ FD hAD)
          have OC := Lib.hid (P.open_ wD p dZ FD 102 (by omega) OKZ FUZ hAD)
          have HAD := Lib.hid hAD
          clear hTD hGD hAD HX HY HB SC
          go_wp2_with fail
          refine ST.out.mono ?_
          rintro _ _ ⟨rfl, rfl⟩
          go_wp2_with fail
          refine OC.out.mono ?_
          rintro eO wO ⟨hbO, ho⟩
          have HBF := Lib.hid (HBD.out.trans (hbO.mono HBD.out.size))
          have HXO := Lib.hid (HXD.out.touch (Touch.ofBelow hbO) (by simp))
          have HYO := Lib.hid (HYD.out.touch (Touch.ofBelow hbO) (by simp))
          have ST2 := Lib.hid (S wO p dZ FD (tch HAD.out (Touch.ofBelow hbO) (by simp)))
          have KX : Hid (∀ wS, Below wO.heap.size wO wS → wS.cell? ⟨w3.heap.size, 0, none⟩ = some (.int .i64 mt) ∧ wS.cell? ⟨w3.heap.size, 1, none⟩ = some (.int .i64 mr) ∧ wS.cell? ⟨w3.heap.size, 2, none⟩ = some (.int .i64 mf) ∧ wS.cell? ⟨w3.heap.size, 3, none⟩ = some (.int .i64 mp) ∧ wS.cell? ⟨w3.heap.size, 4, none⟩ = some (.int .i64 ml)) := Lib.hid (fun wS hS => by
            have h := HXO.out.touch (Touch.ofBelow hS) (by simp)
            exact ⟨h.cell 0, h.cell 1, h.cell 2, h.cell 3, h.cell 4⟩)
          have KY : Hid (∀ wS, Below wO.heap.size wO wS → wS.cell? ⟨w3.heap.size + 1, 0, none⟩ = some (.int .i64 (mt + 1)) ∧ wS.cell? ⟨w3.heap.size + 1, 1, none⟩ = some (.int .i64 r) ∧ wS.cell? ⟨w3.heap.size + 1, 2, none⟩ = some (.int .i64 0) ∧ wS.cell? ⟨w3.heap.size + 1, 3, none⟩ = some (.int .i64 4) ∧ wS.cell? ⟨w3.heap.size + 1, 4, none⟩ = some (.int .i64 6)) := Lib.hid (fun wS hS => by
            have h := HYO.out.touch (Touch.ofBelow hS) (by simp)
            exact ⟨h.cell 0, h.cell 1, h.cell 2, h.cell 3, h.cell 4⟩)
          have cnt : (dZ.count != dZ.count) = false := by simp
          have HMV : Hid (s.m.val = .agg #[.int .i64 mt, .int .i64 mr, .int .i64 mf, .int .i64 mp, .int .i64 ml]) := Lib.hid (by rw [HHM.out]; rfl)
          clear hbO OC ST HXD HYD HBD HXO HYO HA HF
          rcases hgd with ⟨rfl, rfl, hh⟩ | ⟨rfl, rfl, hh⟩ | ⟨rfl, rfl, hh | hh⟩
          · obtain ⟨o1, o2, o3⟩ := RD.Holds.opens hh hst hlZ HFL.out.m HFL.out.limit
            rw [o1] at ho
            obtain ⟨q2, G2, rfl, hP2, _⟩ := ho.elim (fun h => by cases h.1) (fun h => h.2)
            have HP2 := Lib.hid hP2
            clear hP2 ho
            go_wp2_with fail
            refine ST2.out.mono ?_
            rintro _ _ ⟨rfl, rfl⟩
            have MC : Hid (∀ wS, Below wO.heap.size wO wS → Calls Try.prog 11 #[.pointer (some ⟨q2, 0, none⟩)] wS fun e w' => e = .returned (.agg #[.int .i64 mt, .int .i64 mr, .int .i64 mf, .int .i64 mp, .int .i64 ml]) ∧ Below wO.heap.size wO w') := Lib.hid (fun wS hS => by
              have := P.meta_ wS q2 p _ G2 (P.touch HP2.out (Touch.ofBelow hS) (by simp))
              rw [o3, HMV.out] at this
              exact this.mono fun _ _ ⟨e, hb⟩ => ⟨e, hS.trans (hb.mono hS.size)⟩)
            go_wp2_with fail
            refine region_qh (C := fun w' => Below wO.heap.size wO w') (by kernel_rfl) (by kernel_rfl) (Below.refl _ wO).drew ?_
            refine qh_op (.pointer (some ⟨q2, 0, none⟩)) rfl (fun wS hSw => by go_simp; try with_reducible rfl) ?_
            simp only [Act.put, List.setIfInBounds_toArray, List.set_cons_zero, List.set_cons_succ]
            refine qh_call1 (.agg #[.int .i64 mt, .int .i64 mr, .int .i64 mf, .int .i64 mp, .int .i64 ml]) rfl 11 _ _ rfl (.pointer (some ⟨q2, 0, none⟩)) (by rfl) E11 (fun wS hSw => MC.out wS hSw) ?_
            simp only [Act.put, List.setIfInBounds_toArray, List.set_cons_zero, List.set_cons_succ]
            refine qh_op (.agg #[.int .i64 mt, .int .i64 mr, .int .i64 mf, .int .i64 mp, .int .i64 ml]) rfl (fun wS hSw => by obtain ⟨k0, k1, k2, k3, k4⟩ := KX.out wS hSw; go_simp; try with_reducible rfl) ?_
            simp only [Act.put, List.setIfInBounds_toArray, List.set_cons_zero, List.set_cons_succ]
            refine qh_op (.bool true) rfl (fun wS hSw => by go_simp; try with_reducible rfl) ?_
            simp only [Act.put, List.setIfInBounds_toArray, List.set_cons_zero, List.set_cons_succ]
            refine qh_op (.bool true) rfl (fun wS hSw => by go_simp; try with_reducible rfl) ?_
            simp only [Act.put, List.setIfInBounds_toArray, List.set_cons_zero, List.set_cons_succ]
            refine qh_skip (by rfl) ?_
            simp only [Act.put, List.setIfInBounds_toArray, List.set_cons_zero, List.set_cons_succ]
            refine qh_skip (by rfl) ?_
            simp only [Act.put, List.setIfInBounds_toArray, List.set_cons_zero, List.set_cons_succ]
            refine qh_skip (by rfl) ?_
            simp only [Act.put, List.setIfInBounds_toArray, List.set_cons_zero, List.set_cons_succ]
            refine qh_skip (by rfl) ?_
            simp only [Act.put, List.setIfInBounds_toArray, List.set_cons_zero, List.set_cons_succ]
            refine qh_skip (by rfl) ?_
            simp only [Act.put, List.setIfInBounds_toArray, List.set_cons_zero, List.set_cons_succ]
            refine qh_skip (by rfl) ?_
            simp only [Act.put, List.setIfInBounds_toArray, List.set_cons_zero, List.set_cons_succ]
            refine qh_skip (by rfl) ?_
            simp only [Act.put, List.setIfInBounds_toArray, List.set_cons_zero, List.set_cons_succ]
            refine qh_skip (by rfl) ?_
            simp only [Act.put, List.setIfInBounds_toArray, List.set_cons_zero, List.set_cons_succ]
            refine qh_op (.bool true) rfl (fun wS hSw => by go_simp; try with_reducible rfl) ?_
            simp only [Act.put, List.setIfInBounds_toArray, List.set_cons_zero, List.set_cons_succ]
            refine qh_op (.bool true) rfl (fun wS hSw => by go_simp; try with_reducible rfl) ?_
            simp only [Act.put, List.setIfInBounds_toArray, List.set_cons_zero, List.set_cons_succ]
            refine qh_nil ⟨?_⟩
            intro wE hE2
            go_wp2
            go_ret
            exact ⟨rfl, HBF.out.trans (hE2.mono HBF.out.size)⟩
          · obtain ⟨o1, o2, o3⟩ := RD.Holds.opens hh hst hlZ HNR.out HN2.out
            rw [o1] at ho
            obtain ⟨q2, G2, rfl, hP2, _⟩ := ho.elim (fun h => by cases h.1) (fun h => h.2)
            have HP2 := Lib.hid hP2
            clear hP2 ho
            go_wp2_with fail
            refine ST2.out.mono ?_
            rintro _ _ ⟨rfl, rfl⟩
            have MC : Hid (∀ wS, Below wO.heap.size wO wS → Calls Try.prog 11 #[.pointer (some ⟨q2, 0, none⟩)] wS fun e w' => e = .returned (.agg #[.int .i64 (mt + 1), .int .i64 r, .int .i64 0, .int .i64 4, .int .i64 6]) ∧ Below wO.heap.size wO w') := Lib.hid (fun wS hS => by
              have := P.meta_ wS q2 p _ G2 (P.touch HP2.out (Touch.ofBelow hS) (by simp))
              rw [o3, HNV.out] at this
              exact this.mono fun _ _ ⟨e, hb⟩ => ⟨e, hS.trans (hb.mono hS.size)⟩)
            go_wp2_with fail
            refine region_qh (C := fun w' => Below wO.heap.size wO w') (by kernel_rfl) (by kernel_rfl) (Below.refl _ wO).drew ?_
            refine qh_op (.pointer (some ⟨q2, 0, none⟩)) rfl (fun wS hSw => by go_simp; try with_reducible rfl) ?_
            simp only [Act.put, List.setIfInBounds_toArray, List.set_cons_zero, List.set_cons_succ]
            refine qh_call1 (.agg #[.int .i64 (mt + 1), .int .i64 r, .int .i64 0, .int .i64 4, .int .i64 6]) rfl 11 _ _ rfl (.pointer (some ⟨q2, 0, none⟩)) (by rfl) E11 (fun wS hSw => MC.out wS hSw) ?_
            simp only [Act.put, List.setIfInBounds_toArray, List.set_cons_zero, List.set_cons_succ]
            refine qh_op (.agg #[.int .i64 (mt + 1), .int .i64 r, .int .i64 0, .int .i64 4, .int .i64 6]) rfl (fun wS hSw => by obtain ⟨k0, k1, k2, k3, k4⟩ := KY.out wS hSw; go_simp; try with_reducible rfl) ?_
            simp only [Act.put, List.setIfInBounds_toArray, List.set_cons_zero, List.set_cons_succ]
            refine qh_op (.bool true) rfl (fun wS hSw => by go_simp; try with_reducible rfl) ?_
            simp only [Act.put, List.setIfInBounds_toArray, List.set_cons_zero, List.set_cons_succ]
            refine qh_op (.bool true) rfl (fun wS hSw => by go_simp; try with_reducible rfl) ?_
            simp only [Act.put, List.setIfInBounds_toArray, List.set_cons_zero, List.set_cons_succ]
            refine qh_nil ⟨?_⟩
            intro wE hE2
            go_wp2
            go_ret
            exact ⟨rfl, HBF.out.trans (hE2.mono HBF.out.size)⟩
          · obtain ⟨o1, o2, o3⟩ := RD.Holds.opens hh hst hlZ HFL.out.m HFL.out.limit
            rw [o1] at ho
            obtain ⟨q2, G2, rfl, hP2, _⟩ := ho.elim (fun h => by cases h.1) (fun h => h.2)
            have HP2 := Lib.hid hP2
            clear hP2 ho
            go_wp2_with fail
            refine ST2.out.mono ?_
            rintro _ _ ⟨rfl, rfl⟩
            have MC : Hid (∀ wS, Below wO.heap.size wO wS → Calls Try.prog 11 #[.pointer (some ⟨q2, 0, none⟩)] wS fun e w' => e = .returned (.agg #[.int .i64 mt, .int .i64 mr, .int .i64 mf, .int .i64 mp, .int .i64 ml]) ∧ Below wO.heap.size wO w') := Lib.hid (fun wS hS => by
              have := P.meta_ wS q2 p _ G2 (P.touch HP2.out (Touch.ofBelow hS) (by simp))
              rw [o3, HMV.out] at this
              exact this.mono fun _ _ ⟨e, hb⟩ => ⟨e, hS.trans (hb.mono hS.size)⟩)
            go_wp2_with fail
            refine region_qh (C := fun w' => Below wO.heap.size wO w') (by kernel_rfl) (by kernel_rfl) (Below.refl _ wO).drew ?_
            refine qh_op (.pointer (some ⟨q2, 0, none⟩)) rfl (fun wS hSw => by go_simp; try with_reducible rfl) ?_
            simp only [Act.put, List.setIfInBounds_toArray, List.set_cons_zero, List.set_cons_succ]
            refine qh_call1 (.agg #[.int .i64 mt, .int .i64 mr, .int .i64 mf, .int .i64 mp, .int .i64 ml]) rfl 11 _ _ rfl (.pointer (some ⟨q2, 0, none⟩)) (by rfl) E11 (fun wS hSw => MC.out wS hSw) ?_
            simp only [Act.put, List.setIfInBounds_toArray, List.set_cons_zero, List.set_cons_succ]
            refine qh_op (.agg #[.int .i64 mt, .int .i64 mr, .int .i64 mf, .int .i64 mp, .int .i64 ml]) rfl (fun wS hSw => by obtain ⟨k0, k1, k2, k3, k4⟩ := KX.out wS hSw; go_simp; try with_reducible rfl) ?_
            simp only [Act.put, List.setIfInBounds_toArray, List.set_cons_zero, List.set_cons_succ]
            refine qh_op (.bool true) rfl (fun wS hSw => by go_simp; try with_reducible rfl) ?_
            simp only [Act.put, List.setIfInBounds_toArray, List.set_cons_zero, List.set_cons_succ]
            refine qh_op (.bool true) rfl (fun wS hSw => by go_simp; try with_reducible rfl) ?_
            simp only [Act.put, List.setIfInBounds_toArray, List.set_cons_zero, List.set_cons_succ]
            refine qh_skip (by rfl) ?_
            simp only [Act.put, List.setIfInBounds_toArray, List.set_cons_zero, List.set_cons_succ]
            refine qh_skip (by rfl) ?_
            simp only [Act.put, List.setIfInBounds_toArray, List.set_cons_zero, List.set_cons_succ]
            refine qh_skip (by rfl) ?_
            simp only [Act.put, List.setIfInBounds_toArray, List.set_cons_zero, List.set_cons_succ]
            refine qh_skip (by rfl) ?_
            simp only [Act.put, List.setIfInBounds_toArray, List.set_cons_zero, List.set_cons_succ]
            refine qh_skip (by rfl) ?_
            simp only [Act.put, List.setIfInBounds_toArray, List.set_cons_zero, List.set_cons_succ]
            refine qh_skip (by rfl) ?_
            simp only [Act.put, List.setIfInBounds_toArray, List.set_cons_zero, List.set_cons_succ]
            refine qh_skip (by rfl) ?_
            simp only [Act.put, List.setIfInBounds_toArray, List.set_cons_zero, List.set_cons_succ]
            refine qh_skip (by rfl) ?_
            simp only [Act.put, List.setIfInBounds_toArray, List.set_cons_zero, List.set_cons_succ]
            refine qh_op (.bool true) rfl (fun wS hSw => by go_simp; try with_reducible rfl) ?_
            simp only [Act.put, List.setIfInBounds_toArray, List.set_cons_zero, List.set_cons_succ]
            refine qh_op (.bool true) rfl (fun wS hSw => by go_simp; try with_reducible rfl) ?_
            simp only [Act.put, List.setIfInBounds_toArray, List.set_cons_zero, List.set_cons_succ]
            refine qh_nil ⟨?_⟩
            intro wE hE2
            go_wp2
            go_ret
            exact ⟨rfl, HBF.out.trans (hE2.mono HBF.out.size)⟩
          · obtain ⟨o1, o2, o3⟩ := RD.Holds.opens hh hst hlZ HNR.out HN2.out
            rw [o1] at ho
            obtain ⟨q2, G2, rfl, hP2, _⟩ := ho.elim (fun h => by cases h.1) (fun h => h.2)
            have HP2 := Lib.hid hP2
            clear hP2 ho
            go_wp2_with fail
            refine ST2.out.mono ?_
            rintro _ _ ⟨rfl, rfl⟩
            have MC : Hid (∀ wS, Below wO.heap.size wO wS → Calls Try.prog 11 #[.pointer (some ⟨q2, 0, none⟩)] wS fun e w' => e = .returned (.agg #[.int .i64 (mt + 1), .int .i64 r, .int .i64 0, .int .i64 4, .int .i64 6]) ∧ Below wO.heap.size wO w') := Lib.hid (fun wS hS => by
              have := P.meta_ wS q2 p _ G2 (P.touch HP2.out (Touch.ofBelow hS) (by simp))
              rw [o3, HNV.out] at this
              exact this.mono fun _ _ ⟨e, hb⟩ => ⟨e, hS.trans (hb.mono hS.size)⟩)
            go_wp2_with fail
            refine region_qh (C := fun w' => Below wO.heap.size wO w') (by kernel_rfl) (by kernel_rfl) (Below.refl _ wO).drew ?_
            refine qh_op (.pointer (some ⟨q2, 0, none⟩)) rfl (fun wS hSw => by go_simp; try with_reducible rfl) ?_
            simp only [Act.put, List.setIfInBounds_toArray, List.set_cons_zero, List.set_cons_succ]
            refine qh_call1 (.agg #[.int .i64 (mt + 1), .int .i64 r, .int .i64 0, .int .i64 4, .int .i64 6]) rfl 11 _ _ rfl (.pointer (some ⟨q2, 0, none⟩)) (by rfl) E11 (fun wS hSw => MC.out wS hSw) ?_
            simp only [Act.put, List.setIfInBounds_toArray, List.set_cons_zero, List.set_cons_succ]
            refine qh_op (.agg #[.int .i64 mt, .int .i64 mr, .int .i64 mf, .int .i64 mp, .int .i64 ml]) rfl (fun wS hSw => by obtain ⟨k0, k1, k2, k3, k4⟩ := KX.out wS hSw; go_simp; try with_reducible rfl) ?_
            simp only [Act.put, List.setIfInBounds_toArray, List.set_cons_zero, List.set_cons_succ]
            refine qh_op (.bool false) rfl (fun wS hSw => by go_simp; intro hq; omega) ?_
            simp only [Act.put, List.setIfInBounds_toArray, List.set_cons_zero, List.set_cons_succ]
            refine qh_op (.bool false) rfl (fun wS hSw => by go_simp; try with_reducible rfl) ?_
            simp only [Act.put, List.setIfInBounds_toArray, List.set_cons_zero, List.set_cons_succ]
            refine qh_opw (.int .i64 0) (by rfl) (fun wS hSw => by go_simp; try with_reducible rfl) ?_
            simp only [Act.put, List.setIfInBounds_toArray, List.set_cons_zero, List.set_cons_succ]
            refine qh_opw (.bool true) (by rfl) (fun wS hSw => by go_simp; try with_reducible rfl) ?_
            simp only [Act.put, List.setIfInBounds_toArray, List.set_cons_zero, List.set_cons_succ]
            refine qh_opw (.bool true) (by rfl) (fun wS hSw => by go_simp; try with_reducible rfl) ?_
            simp only [Act.put, List.setIfInBounds_toArray, List.set_cons_zero, List.set_cons_succ]
            refine qh_opw (.pointer (some ⟨q2, 0, none⟩)) (by rfl) (fun wS hSw => by go_simp; try with_reducible rfl) ?_
            simp only [Act.put, List.setIfInBounds_toArray, List.set_cons_zero, List.set_cons_succ]
            refine qh_call1w (.agg #[.int .i64 (mt + 1), .int .i64 r, .int .i64 0, .int .i64 4, .int .i64 6]) (by rfl) 11 _ _ rfl (.pointer (some ⟨q2, 0, none⟩)) (by rfl) E11 (fun wS hSw => MC.out wS hSw) ?_
            simp only [Act.put, List.setIfInBounds_toArray, List.set_cons_zero, List.set_cons_succ]
            refine qh_opw (.agg #[.int .i64 (mt + 1), .int .i64 r, .int .i64 0, .int .i64 4, .int .i64 6]) (by rfl) (fun wS hSw => by obtain ⟨k0, k1, k2, k3, k4⟩ := KY.out wS hSw; go_simp; try with_reducible rfl) ?_
            simp only [Act.put, List.setIfInBounds_toArray, List.set_cons_zero, List.set_cons_succ]
            refine qh_opw (.bool true) (by rfl) (fun wS hSw => by go_simp; try with_reducible rfl) ?_
            simp only [Act.put, List.setIfInBounds_toArray, List.set_cons_zero, List.set_cons_succ]
            refine qh_opw (.bool true) (by rfl) (fun wS hSw => by go_simp; try with_reducible rfl) ?_
            simp only [Act.put, List.setIfInBounds_toArray, List.set_cons_zero, List.set_cons_succ]
            refine qh_op (.bool true) rfl (fun wS hSw => by go_simp; try with_reducible rfl) ?_
            simp only [Act.put, List.setIfInBounds_toArray, List.set_cons_zero, List.set_cons_succ]
            refine qh_op (.bool true) rfl (fun wS hSw => by go_simp; try with_reducible rfl) ?_
            simp only [Act.put, List.setIfInBounds_toArray, List.set_cons_zero, List.set_cons_succ]
            refine qh_nil ⟨?_⟩
            intro wE hE2
            go_wp2
            go_ret
            exact ⟨rfl, HBF.out.trans (hE2.mono HBF.out.size)⟩
end Go.Proofs.Ytjgmlpfallakmaa
