/-
  The contract of the statements' own guard (rollbooklaw03.awake), of any device that meets the kit: it answers true, and nothing that was in memory before has changed. No conditions.
-/
import Derived.Test.YtbjiliodelndcaaAct
namespace Go.Proofs.Ytbjiliodelndcaa
open Go.RowKit
def s0 : ByteArray := sectorOf 0
def e0 : RD := { sector := [s0, s0], row := [], off := false, left := 0, count := 0, wrote := 0 }
def e1 : RD := { sector := [s0, s0], row := [(0, sectorOf 1)], off := false, left := 0, count := 1, wrote := 1 }
def e2 : RD := { sector := [s0, s0], row := [(0, sectorOf 1), (0, sectorOf 2)], off := false, left := 0, count := 2, wrote := 2 }
def e3 : RD := { sector := [s0, s0], row := [(0, sectorOf 1), (0, sectorOf 2), (1, sectorOf 3)], off := false, left := 0, count := 3, wrote := 3 }
def e4 : RD := { sector := [s0, s0], row := [(0, sectorOf 1), (0, sectorOf 2), (1, sectorOf 3)], off := true, left := 0, count := 3, wrote := 3 }
def e5 : RD := { sector := [sectorOf 1, s0], row := [], off := false, left := 0, count := 3, wrote := 3 }
theorem a0 : RD.fresh (sectorOf 0) 2 = e0 := rfl
theorem a1 : e0.writeD 0 (sectorOf 1) = e1 ∧ e0.writeE 0 (sectorOf 1) = 0 := by
  constructor <;> simp [RD.writeD, RD.writeE, RD.has, RD.goes, RD.stepped, sectorOf_size, e0, e1]
theorem a2 : e1.writeD 0 (sectorOf 2) = e2 ∧ e1.writeE 0 (sectorOf 2) = 0 := by
  constructor <;> simp [RD.writeD, RD.writeE, RD.has, RD.goes, RD.stepped, sectorOf_size, e1, e2]
theorem a3 : e2.writeD 1 (sectorOf 3) = e3 ∧ e2.writeE 1 (sectorOf 3) = 0 := by
  constructor <;> simp [RD.writeD, RD.writeE, RD.has, RD.goes, RD.stepped, sectorOf_size, e2, e3]
theorem a4 : e3.cutD = e4 ∧ e3.fuseE = 0 := by
  constructor <;> simp [RD.cutD, RD.fuseE, e3, e4]
theorem a5 : e4.startD [1, 0] = e5 ∧ e4.startE = 0 := by
  constructor
  · simp [RD.startD, RD.started, RD.writes, RD.keeps, e4, e5]
  · simp [RD.startE, e4]
theorem a6 : e5.readS 0 = sectorOf 1 ∧ e5.readE 0 = 0 ∧ e5.readS 1 = sectorOf 0 ∧ e5.readE 1 = 0 := by
  simp [RD.readS, RD.readE, RD.has, RD.last, e5, s0]
theorem ok5 : RD.Ok 10 e0 ∧ RD.Ok 10 e1 ∧ RD.Ok 10 e2 ∧ RD.Ok 10 e3 ∧ RD.Ok 10 e4 ∧ RD.Ok 10 e5 := by
  refine ⟨?_, ?_, ?_, ?_, ?_, ?_⟩
  all_goals constructor <;> simp [e0, e1, e2, e3, e4, e5]

theorem nums_new (w : World) (F : List Nat) (hF : ∀ k ∈ F, k < w.heap.size) : NumsAt (w.alloc (.cells #[.int .i64 1, .int .i64 0] 3)) F (.slice (some ⟨w.heap.size, 0, none⟩) 2 2) [1, 0] := by
  refine ⟨some ⟨w.heap.size, 0, none⟩, 2, rfl, by simp, by simp, fun j hj => ⟨w.heap.size, 0, rfl, fun hk => by have := hF _ hk; omega, by simp, ?_⟩⟩
  rw [Nat.zero_add, (Blk.new w _ _).cell]
  match j, hj with
  | 0, _ => rfl
  | 1, _ => rfl
theorem Grows.up {F F' : List Nat} {n m : Nat} (h : Grows F F' m) (_ : n ≤ m) : Grows F F' n := fun k hk => (h k hk).elim .inl (fun h => .inr (by omega))
theorem below_step {w wi wj : World} {F F' : List Nat} (hB : Below w.heap.size w wi) (hF : ∀ k ∈ F, w.heap.size ≤ k) (hT : Touch F wi wj) (hG : Grows F F' w.heap.size) : Below w.heap.size w wj ∧ ∀ k ∈ F', w.heap.size ≤ k :=
  ⟨hB.trans (hT.below hB.size hF), fun k hk => (hG k hk).elim (hF k) id⟩
set_option maxHeartbeats 1600000 in
theorem awake_any (At : World → Nat → RD → List Nat → Prop) (D : DevKit At) (w : World) : Calls Try.prog 7 #[] w fun e w' => e = .returned (.bool true) ∧ Below w.heap.size w w' := by
  obtain ⟨o0, o1, o2, o3, o4, o5⟩ := ok5
  have S0 := fun w => Lib.hid (sector_ok 0 w)
  have S1 := fun w => Lib.hid (sector_ok 1 w)
  have S2 := fun w => Lib.hid (sector_ok 2 w)
  have S3 := fun w => Lib.hid (sector_ok 3 w)
  go_enter Try.func7, Try.ntmps7
  go_wp2_with fail
  refine (D.new 2 _ (by omega) (by omega)).mono ?_
  rintro _ w1 ⟨p, F, rfl, hA, hF, hb⟩
  rw [a0] at hA
  have hBB := Lib.hid hb
  clear hb
  go_wp2_with fail
  refine (S1 _).out.mono ?_
  rintro _ w2 ⟨rfl, hb2⟩
  have hA2 := D.touch hA (Touch.ofBelow hb2) (by simp)
  go_wp2_with fail
  refine (D.write _ _ _ _ 10 (by omega) o0 0 (sectorOf 1) hA2).mono ?_
  rintro _ w3 ⟨rfl, F3, hA3, hT3, hG3⟩
  rw [a1.1] at hA3
  rw [a1.2]
  obtain ⟨B3, hF3⟩ := below_step (hBB.out.trans (hb2.mono hBB.out.size)) hF hT3 (hG3.up (Nat.le_trans hBB.out.size hb2.size))
  go_wp2_with fail
  refine (S2 _).out.mono ?_
  rintro _ w4 ⟨rfl, hb4⟩
  have hA4 := D.touch hA3 (Touch.ofBelow hb4) (by simp)
  go_wp2_with fail
  refine (D.write _ _ _ _ 10 (by omega) o1 0 (sectorOf 2) hA4).mono ?_
  rintro _ w5 ⟨rfl, F5, hA5, hT5, hG5⟩
  rw [a2.1] at hA5
  rw [a2.2]
  obtain ⟨B5, hF5⟩ := below_step (B3.trans (hb4.mono B3.size)) hF3 hT5 (hG5.up (Nat.le_trans B3.size hb4.size))
  go_wp2_with fail
  refine (S3 _).out.mono ?_
  rintro _ w6 ⟨rfl, hb6⟩
  have hA6 := D.touch hA5 (Touch.ofBelow hb6) (by simp)
  go_wp2_with fail
  refine (D.write _ _ _ _ 10 (by omega) o2 1 (sectorOf 3) hA6).mono ?_
  rintro _ w7 ⟨rfl, F7, hA7, hT7, hG7⟩
  rw [a3.1] at hA7
  rw [a3.2]
  obtain ⟨B7, hF7⟩ := below_step (B5.trans (hb6.mono B5.size)) hF5 hT7 (hG7.up (Nat.le_trans B5.size hb6.size))
  go_wp2_with fail
  refine (D.cut _ _ _ _ hA7).mono ?_
  rintro _ w8 ⟨rfl, F8, hA8, hT8, hG8⟩
  rw [a4.1] at hA8
  rw [a4.2]
  obtain ⟨B8, hF8⟩ := below_step B7 hF7 hT8 (hG8.up B7.size)
  have T9 : Touch [] w8 (w8.alloc (.cells #[.int .i64 1, .int .i64 0] 3)) := (Touch.refl _ _).alloc _
  have hA9 := D.touch hA8 T9 (by simp)
  have hP := Lib.hid (nums_new w8 F8 (D.lt hA8))
  have B9 := B8.alloc B8.size (.cells #[.int .i64 1, .int .i64 0] 3)
  go_wp2_with fail
  refine (D.start _ _ _ _ 10 (by omega) o4 hA9 _ [1, 0] hP.out).mono ?_
  rintro _ w10 ⟨rfl, F10, hA10, hT10, hG10⟩
  rw [a5.1] at hA10
  rw [a5.2]
  obtain ⟨B10, hF10⟩ := below_step B9 hF8 hT10 (hG10.up B9.size)
  go_wp2_with fail
  refine (D.read _ _ _ _ 10 (by omega) o5 0 hA10).mono ?_
  rintro _ wa ⟨rfl, hba⟩
  rw [a6.1, a6.2.1]
  have hAa := D.touch hA10 (Touch.ofBelow hba) (by simp)
  have Ba := B10.trans (hba.mono B10.size)
  go_wp2_with fail
  refine (D.read _ _ _ _ 10 (by omega) o5 1 hAa).mono ?_
  rintro _ wb ⟨rfl, hbb⟩
  have Bb := Ba.trans (hbb.mono Ba.size)
  rw [a6.2.2.1, a6.2.2.2]
  have q1 : ((sectorOf 1).toList == (sectorOf 1).toList) = true := by simp
  have q0 : ((sectorOf 0).toList == (sectorOf 0).toList) = true := by simp
  go_wp2_with fail
  refine (S1 _).out.mono ?_
  rintro _ w11 ⟨rfl, hb11⟩
  go_wp2_with fail
  refine (S0 _).out.mono ?_
  rintro _ w12 ⟨rfl, hb12⟩
  go_wp2
  go_ret
  refine ⟨rfl, ?_⟩
  have B11 := Bb.trans (hb11.mono Bb.size)
  exact B11.trans (hb12.mono B11.size)
end Go.Proofs.Ytbjiliodelndcaa
