/-
  Contracts of the reference's pager (package rollbookref05): Format. Conditions: at most 900000 calls before.
  Contracts of the reference's pager (package rollbookref05): its representation, Open. Conditions: at most 900000 calls before.
  Contracts of the reference's pager (package rollbookref05): Open. Conditions: at most 900000 calls before.
  Contracts of the reference's pager (package rollbookref05): Read. Conditions: at most 900000 calls before.
  Contracts of the reference's pager (package rollbookref05): Write. Conditions: at most 900000 calls before.
  Contracts of the reference's pager (package rollbookref05): Seal. Conditions: at most 900000 calls before.
  Contracts of the reference's pager (package rollbookref05): Done; all six together. Conditions: at most 900000 calls before.
-/
import Derived.Test.YtjgmlpfallakmaaGreatB6
import Derived.Test.YtjgmlpfallakmaaGreatB4
import Derived.BigQuiet
import Derived.Deep.RegionHeld3
import Derived.Deep.CutRange
import Derived.Deep.DeepCutAuto
section
namespace Go.Proofs.YtjgmlpfallakmaaGreat
open Go.RowKit
theorem refUse : DevUse RefAt 22 23 39 40 41 24 := refKit.use
theorem ref_sector {w : World} {p : Nat} {d : RD} {F : List Nat} (h : RefAt w p d F) : ∃ A cap, w.cell? ⟨p, 0, none⟩ = some (.slice A d.sector.length cap) := by
  obtain ⟨vs, vr, hb, hs, _⟩ := h
  obtain ⟨A, cap, rfl⟩ := ownsRow_slice hs
  exact ⟨A, cap, hb.cell 0⟩
theorem Did.below {At : World → Nat → RD → List Nat → Prop} {w w1 : World} {p : Nat} {F : List Nat} {d' : RD} {e0 : Ending} {e : Ending} {w' : World} (hB : Below w.heap.size w w1) (h : Did At w1 p F d' e0 e w') : Did At w p F d' e0 e w' :=
  by
  obtain ⟨he, F', hA, hT', hG⟩ := h
  have hT := Touch.ofBelow hB
  exact ⟨he, F', hA, (hT.more (by simp)).trans hT' (Grows.refl _ _), fun k hk => (hG k hk).elim .inl (fun h => .inr (Nat.le_trans hT.size h))⟩
set_option maxHeartbeats 1600000 in
theorem rformat_ok (w : World) (p : Nat) (d : RD) (F : List Nat) (K : Nat) (hK : K ≤ 900000) (ok : RD.Ok K d) (n : Int) (h : RefAt w p d F) :
    Calls Tryz.prog 7 #[.pointer (some ⟨p, 0, none⟩), .int .i64 n] w (Did RefAt w p F (d.fmtD n) (.returned (.int .i64 (d.fmtE n)))) := by
  obtain ⟨A, cap, c0⟩ := ref_sector h
  have hl := ok.len
  by_cases hm : d.fmtMay n = true
  · have hmm := hm
    unfold RD.fmtMay at hmm
    simp only [Bool.and_eq_true, decide_eq_true_eq] at hmm
    obtain ⟨⟨m1, m2⟩, m3⟩ := hmm
    obtain ⟨n, rfl⟩ := Int.eq_ofNat_of_zero_le (show 0 ≤ n by omega)
    have d1 : decide ((n : Int) < 4) = false := decide_eq_false (by omega)
    have d2 : decide (512 < (n : Int)) = false := decide_eq_false (by omega)
    have d3 : decide ((d.sector.length : Int) < 4 * (n : Int)) = false := decide_eq_false (by omega)
    have r0 := RD.fm_right 0 n (by omega) (by omega)
    have r1 := RD.fm_right 1 n (by omega) (by omega)
    have P0 : ∀ w, Hid (Calls Tryz.prog 21 #[.agg #[.int .i64 0, .int .i64 0, .int .i64 0, .int .i64 1, .int .i64 n]] w fun e w' => e = .returned (.tuple #[.string (RD.fm 0 n).packS, .int .i64 0]) ∧ Below w.heap.size w w') := fun w => by
      have := refPage.packM w (RD.fm 0 n)
      rw [show (RD.fm 0 n).packE = 0 by unfold MV.packE; rw [if_pos r0]] at this
      exact Lib.hid this
    have P1 : ∀ w, Hid (Calls Tryz.prog 21 #[.agg #[.int .i64 1, .int .i64 0, .int .i64 0, .int .i64 1, .int .i64 n]] w fun e w' => e = .returned (.tuple #[.string (RD.fm 1 n).packS, .int .i64 0]) ∧ Below w.heap.size w w') := fun w => by
      have := refPage.packM w (RD.fm 1 n)
      rw [show (RD.fm 1 n).packE = 0 by unfold MV.packE; rw [if_pos r1]] at this
      exact Lib.hid this
    have W1 := fun w (hw : RefAt w p d F) => Lib.hid (ref_write w p d F K (by omega) ok 0 (RD.fm 0 n).packS hw)
    have ok1 : RD.Ok (K + 1) (d.fmt1 n) := RD.write_ok ok _ _
    have ok2 : RD.Ok (K + 2) (d.fmt2 n) := RD.write_ok ok1 _ _
    have W2 := fun w F (hw : RefAt w p (d.fmt1 n) F) => Lib.hid (ref_write w p (d.fmt1 n) F (K + 1) (by omega) ok1 1 (RD.fm 1 n).packS hw)
    have W3 := fun w F (hw : RefAt w p (d.fmt2 n) F) => Lib.hid (ref_sync w p (d.fmt2 n) F (K + 2) (by omega) ok2 hw)
    have T : ∀ w1, Below w.heap.size w w1 → RefAt w1 p d F := fun w1 hb => h.touch (Touch.ofBelow hb) (by simp)
    have HT := Lib.hid T
    have HE : Hid (d.fmtE n = (if d.fmt1E n = 0 then (if d.fmt2E n = 0 then (d.fmt2 n).syncE else d.fmt2E n) else d.fmt1E n)) := Lib.hid (by unfold RD.fmtE; rw [if_pos hm])
    have HD : Hid (d.fmtD n = (if d.fmt1E n = 0 then (if d.fmt2E n = 0 then (d.fmt2 n).syncD else d.fmt2 n) else d.fmt1 n)) := Lib.hid (by unfold RD.fmtD; rw [if_pos hm])
    obtain ⟨E1, hE1⟩ : ∃ E, d.writeE 0 (RD.fm 0 n).packS = E := ⟨_, rfl⟩
    have hE1' : d.fmt1E n = E1 := hE1
    obtain ⟨E2, hE2⟩ : ∃ E, (d.fmt1 n).writeE 1 (RD.fm 1 n).packS = E := ⟨_, rfl⟩
    have hE2' : d.fmt2E n = E2 := hE2
    simp only [hE1] at W1
    simp only [hE2] at W2
    rw [hE1', hE2'] at HE HD
    obtain ⟨A0, hA0⟩ : ∃ A, (RD.fm 0 n).packS = A := ⟨_, rfl⟩
    obtain ⟨A1, hA1⟩ : ∃ A, (RD.fm 1 n).packS = A := ⟨_, rfl⟩
    have q1 : d.writeD 0 (RD.fm 0 n).packS = d.fmt1 n := rfl
    have q2 : (d.fmt1 n).writeD 1 (RD.fm 1 n).packS = d.fmt2 n := rfl
    simp only [q1] at W1
    simp only [q2] at W2
    rw [hA0] at P0 W1
    rw [hA1] at P1 W2
    clear T h hm r0 r1 ok1 ok2 hE1 hE1' hE2 hE2' hA0 hA1 q1 q2 ok
    by_cases z1 : E1 = 0
    · have t1 : (E1 == 0) = true := by rw [beq_iff_eq]; exact z1
      by_cases z2 : E2 = 0
      · have t2 : (E2 == 0) = true := by rw [beq_iff_eq]; exact z2
        rw [if_pos z1, if_pos z2] at HE HD
        clear z1 z2
        go_enter Tryz.func7, Tryz.ntmps7
        go_wp2_with fail
        refine (P0 _).out.mono ?_
        rintro _ w1 ⟨rfl, hb1⟩
        go_wp2_with fail
        refine (P1 _).out.mono ?_
        rintro _ w2 ⟨rfl, hb2⟩
        have hB := hb1.trans (hb2.mono hb1.size)
        go_wp2_with fail
        refine (W1 _ (HT.out _ hB)).out.mono ?_
        rintro _ w3 ⟨rfl, F3, hA3, hT3, hG3⟩
        go_wp2_with fail
        refine (W2 _ _ hA3).out.mono ?_
        rintro _ w4 ⟨rfl, F4, hA4, hT4, hG4⟩
        go_wp2_with fail
        refine (W3 _ _ hA4).out.mono ?_
        rintro _ w5 ⟨rfl, F5, hA5, hT5, hG5⟩
        go_wp2
        go_ret
        rw [HE.out, HD.out]
        refine Did.below hB ⟨rfl, F5, hA5, (hT3.trans hT4 hG3).trans hT5 (hG3.trans hG4 hT3.size), (hG3.trans hG4 hT3.size).trans hG5 (Nat.le_trans hT3.size hT4.size)⟩
      · have t2 : (E2 == 0) = false := by rw [beq_eq_false_iff_ne]; exact z2
        rw [if_pos z1, if_neg z2] at HE HD
        clear z1 z2
        go_enter Tryz.func7, Tryz.ntmps7
        go_wp2_with fail
        refine (P0 _).out.mono ?_
        rintro _ w1 ⟨rfl, hb1⟩
        go_wp2_with fail
        refine (P1 _).out.mono ?_
        rintro _ w2 ⟨rfl, hb2⟩
        have hB := hb1.trans (hb2.mono hb1.size)
        go_wp2_with fail
        refine (W1 _ (HT.out _ hB)).out.mono ?_
        rintro _ w3 ⟨rfl, F3, hA3, hT3, hG3⟩
        go_wp2_with fail
        refine (W2 _ _ hA3).out.mono ?_
        rintro _ w4 ⟨rfl, F4, hA4, hT4, hG4⟩
        go_wp2
        go_ret
        rw [HE.out, HD.out]
        refine Did.below hB ⟨rfl, F4, hA4, hT3.trans hT4 hG3, hG3.trans hG4 hT3.size⟩
    · have t1 : (E1 == 0) = false := by rw [beq_eq_false_iff_ne]; exact z1
      rw [if_neg z1] at HE HD
      clear z1
      go_enter Tryz.func7, Tryz.ntmps7
      go_wp2_with fail
      refine (P0 _).out.mono ?_
      rintro _ w1 ⟨rfl, hb1⟩
      go_wp2_with fail
      refine (P1 _).out.mono ?_
      rintro _ w2 ⟨rfl, hb2⟩
      have hB := hb1.trans (hb2.mono hb1.size)
      go_wp2_with fail
      refine (W1 _ (HT.out _ hB)).out.mono ?_
      rintro _ w3 ⟨rfl, F3, hA3, hT3, hG3⟩
      go_wp2
      go_ret
      rw [HE.out, HD.out]
      refine Did.below hB ⟨rfl, F3, hA3, hT3, hG3⟩
  · have HE : Hid (d.fmtE n = 1) := Lib.hid (by unfold RD.fmtE; rw [if_neg hm])
    have HD : Hid (d.fmtD n = d) := Lib.hid (by unfold RD.fmtD; rw [if_neg hm])
    unfold RD.fmtMay at hm
    simp only [Bool.and_eq_true, decide_eq_true_eq] at hm
    have HA := Lib.hid h
    clear h
    by_cases n1 : n < 4
    · have d1 : decide (n < 4) = true := decide_eq_true n1
      clear hm n1
      go_enter Tryz.func7, Tryz.ntmps7
      go_wp2
      go_ret
      rw [HE.out, HD.out]
      exact ⟨rfl, F, HA.out, Touch.refl _ _, Grows.refl _ _⟩
    · have d1 : decide (n < 4) = false := decide_eq_false n1
      by_cases n2 : 512 < n
      · have d2 : decide (512 < n) = true := decide_eq_true n2
        clear hm n1 n2
        go_enter Tryz.func7, Tryz.ntmps7
        go_wp2
        go_ret
        rw [HE.out, HD.out]
        exact ⟨rfl, F, HA.out, Touch.refl _ _, Grows.refl _ _⟩
      · have d2 : decide (512 < n) = false := decide_eq_false n2
        obtain ⟨n, rfl⟩ := Int.eq_ofNat_of_zero_le (show 0 ≤ n by omega)
        have d3 : decide ((d.sector.length : Int) < 4 * (n : Int)) = true := decide_eq_true (by omega)
        clear hm
        go_enter Tryz.func7, Tryz.ntmps7
        go_wp2
        go_ret
        rw [HE.out, HD.out]
        exact ⟨rfl, F, HA.out, Touch.refl _ _, Grows.refl _ _⟩
end Go.Proofs.YtjgmlpfallakmaaGreat
end
section
namespace Go.Proofs.YtjgmlpfallakmaaGreat
open Go.RowKit
def MV.cells (m : MV) : List Value := [.int .i64 m.txn, .int .i64 m.root, .int .i64 m.free, .int .i64 m.pages, .int .i64 m.limit]
/-- the cells of the reference's pager -/
def pgCells (s : PS) (p : Nat) (vs vr : Value) : Array Value :=
  #[.pointer (some ⟨p, 0, none⟩), .int .i64 s.m.txn, .int .i64 s.m.root, .int .i64 s.m.free, .int .i64 s.m.pages, .int .i64 s.m.limit,
    .int .i64 s.o.txn, .int .i64 s.o.root, .int .i64 s.o.free, .int .i64 s.o.pages, .int .i64 s.o.limit, .bool s.has, vs, vr]
/-- the reference's pager s lies in block q; its device in block p; G: its blocks -/
def RefPg (w : World) (q p : Nat) (s : PS) (G : List Nat) : Prop :=
  ∃ vs vr, Blk w q (pgCells s p vs vr) 57 ∧ w.ownsRow 0 40 5 vs s.seal_.toList.length (s.seal_.toList.flatMap MV.cells) ∧ w.ownsRow 0 3 1 vr s.row.length (s.row.map (Value.int .i64)) ∧
    G = q :: (vs.ownBlock.toList ++ vr.ownBlock.toList) ∧ G.Nodup
theorem RefPg.lt {w : World} {q p : Nat} {s : PS} {G : List Nat} (h : RefPg w q p s G) : ∀ k ∈ G, k < w.heap.size := by
  obtain ⟨vs, vr, hb, hs, hr, rfl, hN⟩ := h
  intro k hk
  rcases mem3.1 hk with rfl | hk | hk
  · exact hb.lt
  · exact ownsRow_lt hs k hk
  · exact ownsRow_lt hr k hk
theorem RefPg.touch {w w' : World} {q p : Nat} {s : PS} {G S : List Nat} (h : RefPg w q p s G) (hT : Touch S w w') (hS : ∀ k ∈ S, k ∉ G) : RefPg w' q p s G := by
  obtain ⟨vs, vr, hb, hs, hr, rfl, hN⟩ := h
  exact ⟨vs, vr, hb.touch hT (fun hk => hS _ hk (mem3.2 (.inl rfl))), ownsRow_touch hs hT (fun k hk hm => hS k hm (mem3.2 (.inr (.inl hk)))), ownsRow_touch hr hT (fun k hk hm => hS k hm (mem3.2 (.inr (.inr hk)))), rfl, hN⟩
theorem zeroM : ∀ w, (zeroValue 40).run Tryz.prog w = .ok (.agg #[.int .i64 0, .int .i64 0, .int .i64 0, .int .i64 0, .int .i64 0]) w := fun w => by kernel_rfl
theorem zeroPg : ∀ w, (zeroValue 57).run Tryz.prog w = .ok (.agg #[.pointer none, .int .i64 0, .int .i64 0, .int .i64 0, .int .i64 0, .int .i64 0, .int .i64 0, .int .i64 0, .int .i64 0, .int .i64 0, .int .i64 0, .bool false, .slice none 0 0, .slice none 0 0]) w := fun w => by kernel_rfl
theorem below_drewN2 {B : Nat} {w w' : World} (h : Below B w w') (n : Nat) : Below B w (w'.drewN n) := ⟨h.os, h.tape, h.output, h.size, h.block⟩
/-- what is read in an unturned world -/
def Reads2 (p : Nat) (w : World) (a b : ByteArray) (e0 e1 : Int) : Prop :=
  (∀ w1, Below w.heap.size w w1 → Calls Tryz.prog 24 #[.pointer (some ⟨p, 0, none⟩), .int .i64 0] w1 fun e w' => e = .returned (.tuple #[.string a, .int .i64 e0]) ∧ Below w1.heap.size w1 w') ∧
  (∀ w1, Below w.heap.size w w1 → Calls Tryz.prog 24 #[.pointer (some ⟨p, 0, none⟩), .int .i64 1] w1 fun e w' => e = .returned (.tuple #[.string b, .int .i64 e1]) ∧ Below w1.heap.size w1 w')
set_option maxHeartbeats 1600000 in
theorem ropen_e0 (w : World) (p : Nat) (a b : ByteArray) (e0 e1 : Int) (R : Hid (Reads2 p w a b e0 e1)) (h0 : (e0 != 0) = true) :
    Calls Tryz.prog 8 #[.pointer (some ⟨p, 0, none⟩)] w fun e w' => e = .returned (.tuple #[.pointer none, .int .i64 e0]) ∧ Below w.heap.size w w' := by
  go_enter Tryz.func8, Tryz.ntmps8
  go_wp2_with fail
  refine (R.out.1 _ (Below.refl _ _)).mono ?_
  rintro _ w1 ⟨rfl, hb1⟩
  go_wp2
  go_ret2
  exact ⟨rfl, hb1⟩
set_option maxHeartbeats 1600000 in
theorem ropen_e1 (w : World) (p : Nat) (a b : ByteArray) (e0 e1 : Int) (R : Hid (Reads2 p w a b e0 e1)) (h0 : (e0 != 0) = false) (h1 : (e1 != 0) = true) :
    Calls Tryz.prog 8 #[.pointer (some ⟨p, 0, none⟩)] w fun e w' => e = .returned (.tuple #[.pointer none, .int .i64 e1]) ∧ Below w.heap.size w w' := by
  go_enter Tryz.func8, Tryz.ntmps8
  go_wp2_with fail
  refine (R.out.1 _ (Below.refl _ _)).mono ?_
  rintro _ w1 ⟨rfl, hb1⟩
  go_wp2_with fail
  refine (R.out.2 _ hb1).mono ?_
  rintro _ w2 ⟨rfl, hb2⟩
  go_wp2
  go_ret2
  exact ⟨rfl, hb1.trans (hb2.mono hb1.size)⟩
set_option maxHeartbeats 1600000 in
theorem ropen_e2 (w : World) (p : Nat) (a b : ByteArray) (R : Hid (Reads2 p w a b 0 0)) (mt mr mf mp ml at_ e : Int) (NC : ∀ w, Hid (Calls Tryz.prog 25 #[.string a, .string b] w fun e' w' => e' = .returned (.tuple #[.agg #[.int .i64 mt, .int .i64 mr, .int .i64 mf, .int .i64 mp, .int .i64 ml], .int .i64 at_, .int .i64 e]) ∧ Below w.heap.size w w')) (h0 : (e != 0) = true) :
    Calls Tryz.prog 8 #[.pointer (some ⟨p, 0, none⟩)] w fun e w' => e = .returned (.tuple #[.pointer none, .int .i64 4]) ∧ Below w.heap.size w w' := by
  go_enter Tryz.func8, Tryz.ntmps8
  go_wp2_with fail
  refine (R.out.1 _ (Below.refl _ _)).mono ?_
  rintro _ w1 ⟨rfl, hb1⟩
  go_wp2_with fail
  refine (R.out.2 _ hb1).mono ?_
  rintro _ w2 ⟨rfl, hb2⟩
  have hB2 := hb1.trans (hb2.mono hb1.size)
  go_wp2_with fail
  refine (NC _).out.mono ?_
  rintro _ w3 ⟨rfl, hb3⟩
  have hB3 := hB2.trans (hb3.mono hB2.size)
  clear hb1 hb2 hb3 hB2
  go_wp2
  go_quiet (fail)
  go_wp2
  go_ret2
  exact ⟨rfl, below_drewN2 (hB3.alloc hB3.size _) nq⟩
set_option maxHeartbeats 1600000 in
theorem ropen_e3 (w : World) (p : Nat) (a b : ByteArray) (R : Hid (Reads2 p w a b 0 0)) (mt mr mf mp : Int) (ml : Nat) (at_ e : Int) (NC : ∀ w, Hid (Calls Tryz.prog 25 #[.string a, .string b] w fun e' w' => e' = .returned (.tuple #[.agg #[.int .i64 mt, .int .i64 mr, .int .i64 mf, .int .i64 mp, .int .i64 ml], .int .i64 at_, .int .i64 e]) ∧ Below w.heap.size w w')) (h0 : (e != 0) = false) (A : Option Addr) (len cap : Nat) (c0 : w.cell? ⟨p, 0, none⟩ = some (.slice A len cap)) (d1 : decide ((len : Int) < 4 * (ml : Int)) = true) (m2 : ml ≤ 512) :
    Calls Tryz.prog 8 #[.pointer (some ⟨p, 0, none⟩)] w fun e w' => e = .returned (.tuple #[.pointer none, .int .i64 4]) ∧ Below w.heap.size w w' := by
  go_enter Tryz.func8, Tryz.ntmps8
  go_wp2_with fail
  refine (R.out.1 _ (Below.refl _ _)).mono ?_
  rintro _ w1 ⟨rfl, hb1⟩
  go_wp2_with fail
  refine (R.out.2 _ hb1).mono ?_
  rintro _ w2 ⟨rfl, hb2⟩
  have hB2 := hb1.trans (hb2.mono hb1.size)
  go_wp2_with fail
  refine (NC _).out.mono ?_
  rintro _ w3 ⟨rfl, hb3⟩
  have hB3 := hB2.trans (hb3.mono hB2.size)
  clear hb1 hb2 hb3 hB2
  have c3 := (hB3.cell (p := ⟨p, 0, none⟩) (World.block_lt_of_cell? _ _ c0)).trans c0
  have hp3 : p < w3.heap.size := World.block_lt_of_cell? _ _ c3
  go_wp2
  go_quiet (fail)
  go_wp2
  go_ret2
  exact ⟨rfl, below_drewN2 (hB3.alloc hB3.size _) nq⟩
set_option maxHeartbeats 1600000 in
theorem ropen_ay (w : World) (p : Nat) (a b : ByteArray) (R : Hid (Reads2 p w a b 0 0)) (mt mr mf mp : Int) (ml : Nat) (at_ e ot or_ of_ op_ ol f : Int) (NC : ∀ w, Hid (Calls Tryz.prog 25 #[.string a, .string b] w fun e' w' => e' = .returned (.tuple #[.agg #[.int .i64 mt, .int .i64 mr, .int .i64 mf, .int .i64 mp, .int .i64 ml], .int .i64 at_, .int .i64 e]) ∧ Below w.heap.size w w')) (UC : ∀ w, Hid (Calls Tryz.prog 26 #[.string a] w fun e' w' => e' = .returned (.tuple #[.agg #[.int .i64 ot, .int .i64 or_, .int .i64 of_, .int .i64 op_, .int .i64 ol], .int .i64 f]) ∧ Below w.heap.size w w'))
    (h0 : (e != 0) = false) (A : Option Addr) (len cap : Nat) (c0 : w.cell? ⟨p, 0, none⟩ = some (.slice A len cap)) (d1 : decide ((len : Int) < 4 * (ml : Int)) = false) (m2 : ml ≤ 512) (t1 : (at_ == 1) = true) (t2 : (f == 0) = true) :
    Calls Tryz.prog 8 #[.pointer (some ⟨p, 0, none⟩)] w fun e w' => ∃ q, e = .returned (.tuple #[.pointer (some ⟨q, 0, none⟩), .int .i64 0]) ∧
      Blk w' q #[.pointer (some ⟨p, 0, none⟩), .int .i64 mt, .int .i64 mr, .int .i64 mf, .int .i64 mp, .int .i64 ml, .int .i64 ot, .int .i64 or_, .int .i64 of_, .int .i64 op_, .int .i64 ol, .bool true, .slice none 0 0, .slice none 0 0] 57 ∧ w.heap.size ≤ q ∧ Below w.heap.size w w' := by
  have hz := zeroPg
  go_enter Tryz.func8, Tryz.ntmps8
  go_wp2_with fail
  refine (R.out.1 _ (Below.refl _ _)).mono ?_
  rintro _ w1 ⟨rfl, hb1⟩
  go_wp2_with fail
  refine (R.out.2 _ hb1).mono ?_
  rintro _ w2 ⟨rfl, hb2⟩
  have hB2 := hb1.trans (hb2.mono hb1.size)
  go_wp2_with fail
  refine (NC _).out.mono ?_
  rintro _ w3 ⟨rfl, hb3⟩
  have hB3 := hB2.trans (hb3.mono hB2.size)
  clear hb1 hb2 hb3 hB2
  have c3 := (hB3.cell (p := ⟨p, 0, none⟩) (World.block_lt_of_cell? _ _ c0)).trans c0
  have hp3 : p < w3.heap.size := World.block_lt_of_cell? _ _ c3
  have HS : Hid (w.heap.size ≤ w3.heap.size + 1) := Lib.hid (by have := hB3.size; omega)
  go_wp2
  go_quiet (fail)
  go_wp2_with fail
  refine (UC _).out.mono ?_
  rintro _ w5 ⟨rfl, hb5⟩
  have HQ : Hid (Blk w5 (w3.heap.size + 1) #[.pointer (some ⟨p, 0, none⟩), .int .i64 mt, .int .i64 mr, .int .i64 mf, .int .i64 mp, .int .i64 ml, .int .i64 0, .int .i64 0, .int .i64 0, .int .i64 0, .int .i64 0, .bool false, .slice none 0 0, .slice none 0 0] 57) := Lib.hid ((hb5.block (w3.heap.size + 1) (by simp)).trans (by
    have := Blk.new ((w3.alloc (.cells #[.int .i64 mt, .int .i64 mr, .int .i64 mf, .int .i64 mp, .int .i64 ml] 40)).drewN nq) #[.pointer (some ⟨p, 0, none⟩), .int .i64 mt, .int .i64 mr, .int .i64 mf, .int .i64 mp, .int .i64 ml, .int .i64 0, .int .i64 0, .int .i64 0, .int .i64 0, .int .i64 0, .bool false, .slice none 0 0, .slice none 0 0] 57
    simpa [Blk] using this))
  have HB5 : Hid (Below w.heap.size w w5) := Lib.hid (((below_drewN2 (hB3.alloc hB3.size (.cells #[.int .i64 mt, .int .i64 mr, .int .i64 mf, .int .i64 mp, .int .i64 ml] 40)) nq).alloc (by have := hB3.size; simp; omega) _).trans (hb5.mono (by have := hB3.size; simp; omega)))
  have f6 := HQ.out.free 6
  have f7 := HQ.out.free 7
  have f8 := HQ.out.free 8
  have f9 := HQ.out.free 9
  have f10 := HQ.out.free 10
  have f11 := HQ.out.free 11
  have x6 := HQ.out.cell 6
  have x7 := HQ.out.cell 7
  have x8 := HQ.out.cell 8
  have x9 := HQ.out.cell 9
  have x10 := HQ.out.cell 10
  have x11 := HQ.out.cell 11
  have l5 := HQ.out.lt
  clear hb5
  go_wp2
  go_ret2
  refine ⟨w3.heap.size + 1, rfl, ?_, by have := hB3.size; omega, ?_⟩
  · exact ((((((HQ.out.set 6 (.int .i64 ot)).set 7 (.int .i64 or_)).set 8 (.int .i64 of_)).set 9 (.int .i64 op_)).set 10 (.int .i64 ol)).set 11 (.bool true)).alloc (.cells #[.int .i64 ot, .int .i64 or_, .int .i64 of_, .int .i64 op_, .int .i64 ol] 40)
  · exact (((((((HB5.out.setCell (p := ⟨w3.heap.size + 1, 6, none⟩) HS.out (.int .i64 ot)).setCell (p := ⟨w3.heap.size + 1, 7, none⟩) HS.out (.int .i64 or_)).setCell (p := ⟨w3.heap.size + 1, 8, none⟩) HS.out (.int .i64 of_)).setCell (p := ⟨w3.heap.size + 1, 9, none⟩) HS.out (.int .i64 op_)).setCell (p := ⟨w3.heap.size + 1, 10, none⟩) HS.out (.int .i64 ol)).setCell (p := ⟨w3.heap.size + 1, 11, none⟩) HS.out (.bool true))).alloc (((((((HB5.out.setCell (p := ⟨w3.heap.size + 1, 6, none⟩) HS.out (.int .i64 ot)).setCell (p := ⟨w3.heap.size + 1, 7, none⟩) HS.out (.int .i64 or_)).setCell (p := ⟨w3.heap.size + 1, 8, none⟩) HS.out (.int .i64 of_)).setCell (p := ⟨w3.heap.size + 1, 9, none⟩) HS.out (.int .i64 op_)).setCell (p := ⟨w3.heap.size + 1, 10, none⟩) HS.out (.int .i64 ol)).setCell (p := ⟨w3.heap.size + 1, 11, none⟩) HS.out (.bool true))).size (.cells #[.int .i64 ot, .int .i64 or_, .int .i64 of_, .int .i64 op_, .int .i64 ol] 40)
set_option maxHeartbeats 1600000 in
theorem ropen_an (w : World) (p : Nat) (a b : ByteArray) (R : Hid (Reads2 p w a b 0 0)) (mt mr mf mp : Int) (ml : Nat) (at_ e ot or_ of_ op_ ol f : Int) (NC : ∀ w, Hid (Calls Tryz.prog 25 #[.string a, .string b] w fun e' w' => e' = .returned (.tuple #[.agg #[.int .i64 mt, .int .i64 mr, .int .i64 mf, .int .i64 mp, .int .i64 ml], .int .i64 at_, .int .i64 e]) ∧ Below w.heap.size w w')) (UC : ∀ w, Hid (Calls Tryz.prog 26 #[.string a] w fun e' w' => e' = .returned (.tuple #[.agg #[.int .i64 ot, .int .i64 or_, .int .i64 of_, .int .i64 op_, .int .i64 ol], .int .i64 f]) ∧ Below w.heap.size w w'))
    (h0 : (e != 0) = false) (A : Option Addr) (len cap : Nat) (c0 : w.cell? ⟨p, 0, none⟩ = some (.slice A len cap)) (d1 : decide ((len : Int) < 4 * (ml : Int)) = false) (m2 : ml ≤ 512) (t1 : (at_ == 1) = true) (t2 : (f == 0) = false) :
    Calls Tryz.prog 8 #[.pointer (some ⟨p, 0, none⟩)] w fun e w' => ∃ q, e = .returned (.tuple #[.pointer (some ⟨q, 0, none⟩), .int .i64 0]) ∧
      Blk w' q #[.pointer (some ⟨p, 0, none⟩), .int .i64 mt, .int .i64 mr, .int .i64 mf, .int .i64 mp, .int .i64 ml, .int .i64 0, .int .i64 0, .int .i64 0, .int .i64 0, .int .i64 0, .bool false, .slice none 0 0, .slice none 0 0] 57 ∧ w.heap.size ≤ q ∧ Below w.heap.size w w' := by
  have hz := zeroPg
  go_enter Tryz.func8, Tryz.ntmps8
  go_wp2_with fail
  refine (R.out.1 _ (Below.refl _ _)).mono ?_
  rintro _ w1 ⟨rfl, hb1⟩
  go_wp2_with fail
  refine (R.out.2 _ hb1).mono ?_
  rintro _ w2 ⟨rfl, hb2⟩
  have hB2 := hb1.trans (hb2.mono hb1.size)
  go_wp2_with fail
  refine (NC _).out.mono ?_
  rintro _ w3 ⟨rfl, hb3⟩
  have hB3 := hB2.trans (hb3.mono hB2.size)
  clear hb1 hb2 hb3 hB2
  have c3 := (hB3.cell (p := ⟨p, 0, none⟩) (World.block_lt_of_cell? _ _ c0)).trans c0
  have hp3 : p < w3.heap.size := World.block_lt_of_cell? _ _ c3
  have HS : Hid (w.heap.size ≤ w3.heap.size + 1) := Lib.hid (by have := hB3.size; omega)
  go_wp2
  go_quiet (fail)
  go_wp2_with fail
  refine (UC _).out.mono ?_
  rintro _ w5 ⟨rfl, hb5⟩
  have HQ : Hid (Blk w5 (w3.heap.size + 1) #[.pointer (some ⟨p, 0, none⟩), .int .i64 mt, .int .i64 mr, .int .i64 mf, .int .i64 mp, .int .i64 ml, .int .i64 0, .int .i64 0, .int .i64 0, .int .i64 0, .int .i64 0, .bool false, .slice none 0 0, .slice none 0 0] 57) := Lib.hid ((hb5.block (w3.heap.size + 1) (by simp)).trans (by
    have := Blk.new ((w3.alloc (.cells #[.int .i64 mt, .int .i64 mr, .int .i64 mf, .int .i64 mp, .int .i64 ml] 40)).drewN nq) #[.pointer (some ⟨p, 0, none⟩), .int .i64 mt, .int .i64 mr, .int .i64 mf, .int .i64 mp, .int .i64 ml, .int .i64 0, .int .i64 0, .int .i64 0, .int .i64 0, .int .i64 0, .bool false, .slice none 0 0, .slice none 0 0] 57
    simpa [Blk] using this))
  have HB5 : Hid (Below w.heap.size w w5) := Lib.hid (((below_drewN2 (hB3.alloc hB3.size (.cells #[.int .i64 mt, .int .i64 mr, .int .i64 mf, .int .i64 mp, .int .i64 ml] 40)) nq).alloc (by have := hB3.size; simp; omega) _).trans (hb5.mono (by have := hB3.size; simp; omega)))
  have f6 := HQ.out.free 6
  have f7 := HQ.out.free 7
  have f8 := HQ.out.free 8
  have f9 := HQ.out.free 9
  have f10 := HQ.out.free 10
  have f11 := HQ.out.free 11
  have x6 := HQ.out.cell 6
  have x7 := HQ.out.cell 7
  have x8 := HQ.out.cell 8
  have x9 := HQ.out.cell 9
  have x10 := HQ.out.cell 10
  have x11 := HQ.out.cell 11
  have l5 := HQ.out.lt
  clear hb5
  go_wp2
  go_ret2
  refine ⟨w3.heap.size + 1, rfl, ?_, by have := hB3.size; omega, ?_⟩
  · exact HQ.out.alloc (.cells #[.int .i64 ot, .int .i64 or_, .int .i64 of_, .int .i64 op_, .int .i64 ol] 40)
  · exact HB5.out.alloc HB5.out.size (.cells #[.int .i64 ot, .int .i64 or_, .int .i64 of_, .int .i64 op_, .int .i64 ol] 40)
set_option maxHeartbeats 1600000 in
theorem ropen_by (w : World) (p : Nat) (a b : ByteArray) (R : Hid (Reads2 p w a b 0 0)) (mt mr mf mp : Int) (ml : Nat) (at_ e ot or_ of_ op_ ol f : Int) (NC : ∀ w, Hid (Calls Tryz.prog 25 #[.string a, .string b] w fun e' w' => e' = .returned (.tuple #[.agg #[.int .i64 mt, .int .i64 mr, .int .i64 mf, .int .i64 mp, .int .i64 ml], .int .i64 at_, .int .i64 e]) ∧ Below w.heap.size w w')) (UC : ∀ w, Hid (Calls Tryz.prog 26 #[.string b] w fun e' w' => e' = .returned (.tuple #[.agg #[.int .i64 ot, .int .i64 or_, .int .i64 of_, .int .i64 op_, .int .i64 ol], .int .i64 f]) ∧ Below w.heap.size w w'))
    (h0 : (e != 0) = false) (A : Option Addr) (len cap : Nat) (c0 : w.cell? ⟨p, 0, none⟩ = some (.slice A len cap)) (d1 : decide ((len : Int) < 4 * (ml : Int)) = false) (m2 : ml ≤ 512) (t1 : (at_ == 1) = false) (t2 : (f == 0) = true) :
    Calls Tryz.prog 8 #[.pointer (some ⟨p, 0, none⟩)] w fun e w' => ∃ q, e = .returned (.tuple #[.pointer (some ⟨q, 0, none⟩), .int .i64 0]) ∧
      Blk w' q #[.pointer (some ⟨p, 0, none⟩), .int .i64 mt, .int .i64 mr, .int .i64 mf, .int .i64 mp, .int .i64 ml, .int .i64 ot, .int .i64 or_, .int .i64 of_, .int .i64 op_, .int .i64 ol, .bool true, .slice none 0 0, .slice none 0 0] 57 ∧ w.heap.size ≤ q ∧ Below w.heap.size w w' := by
  have hz := zeroPg
  go_enter Tryz.func8, Tryz.ntmps8
  go_wp2_with fail
  refine (R.out.1 _ (Below.refl _ _)).mono ?_
  rintro _ w1 ⟨rfl, hb1⟩
  go_wp2_with fail
  refine (R.out.2 _ hb1).mono ?_
  rintro _ w2 ⟨rfl, hb2⟩
  have hB2 := hb1.trans (hb2.mono hb1.size)
  go_wp2_with fail
  refine (NC _).out.mono ?_
  rintro _ w3 ⟨rfl, hb3⟩
  have hB3 := hB2.trans (hb3.mono hB2.size)
  clear hb1 hb2 hb3 hB2
  have c3 := (hB3.cell (p := ⟨p, 0, none⟩) (World.block_lt_of_cell? _ _ c0)).trans c0
  have hp3 : p < w3.heap.size := World.block_lt_of_cell? _ _ c3
  have HS : Hid (w.heap.size ≤ w3.heap.size + 1) := Lib.hid (by have := hB3.size; omega)
  go_wp2
  go_quiet (fail)
  go_wp2_with fail
  refine (UC _).out.mono ?_
  rintro _ w5 ⟨rfl, hb5⟩
  have HQ : Hid (Blk w5 (w3.heap.size + 1) #[.pointer (some ⟨p, 0, none⟩), .int .i64 mt, .int .i64 mr, .int .i64 mf, .int .i64 mp, .int .i64 ml, .int .i64 0, .int .i64 0, .int .i64 0, .int .i64 0, .int .i64 0, .bool false, .slice none 0 0, .slice none 0 0] 57) := Lib.hid ((hb5.block (w3.heap.size + 1) (by simp)).trans (by
    have := Blk.new ((w3.alloc (.cells #[.int .i64 mt, .int .i64 mr, .int .i64 mf, .int .i64 mp, .int .i64 ml] 40)).drewN nq) #[.pointer (some ⟨p, 0, none⟩), .int .i64 mt, .int .i64 mr, .int .i64 mf, .int .i64 mp, .int .i64 ml, .int .i64 0, .int .i64 0, .int .i64 0, .int .i64 0, .int .i64 0, .bool false, .slice none 0 0, .slice none 0 0] 57
    simpa [Blk] using this))
  have HB5 : Hid (Below w.heap.size w w5) := Lib.hid (((below_drewN2 (hB3.alloc hB3.size (.cells #[.int .i64 mt, .int .i64 mr, .int .i64 mf, .int .i64 mp, .int .i64 ml] 40)) nq).alloc (by have := hB3.size; simp; omega) _).trans (hb5.mono (by have := hB3.size; simp; omega)))
  have f6 := HQ.out.free 6
  have f7 := HQ.out.free 7
  have f8 := HQ.out.free 8
  have f9 := HQ.out.free 9
  have f10 := HQ.out.free 10
  have f11 := HQ.out.free 11
  have x6 := HQ.out.cell 6
  have x7 := HQ.out.cell 7
  have x8 := HQ.out.cell 8
  have x9 := HQ.out.cell 9
  have x10 := HQ.out.cell 10
  have x11 := HQ.out.cell 11
  have l5 := HQ.out.lt
  clear hb5
  go_wp2
  go_ret2
  refine ⟨w3.heap.size + 1, rfl, ?_, by have := hB3.size; omega, ?_⟩
  · exact ((((((HQ.out.set 6 (.int .i64 ot)).set 7 (.int .i64 or_)).set 8 (.int .i64 of_)).set 9 (.int .i64 op_)).set 10 (.int .i64 ol)).set 11 (.bool true)).alloc (.cells #[.int .i64 ot, .int .i64 or_, .int .i64 of_, .int .i64 op_, .int .i64 ol] 40)
  · exact (((((((HB5.out.setCell (p := ⟨w3.heap.size + 1, 6, none⟩) HS.out (.int .i64 ot)).setCell (p := ⟨w3.heap.size + 1, 7, none⟩) HS.out (.int .i64 or_)).setCell (p := ⟨w3.heap.size + 1, 8, none⟩) HS.out (.int .i64 of_)).setCell (p := ⟨w3.heap.size + 1, 9, none⟩) HS.out (.int .i64 op_)).setCell (p := ⟨w3.heap.size + 1, 10, none⟩) HS.out (.int .i64 ol)).setCell (p := ⟨w3.heap.size + 1, 11, none⟩) HS.out (.bool true))).alloc (((((((HB5.out.setCell (p := ⟨w3.heap.size + 1, 6, none⟩) HS.out (.int .i64 ot)).setCell (p := ⟨w3.heap.size + 1, 7, none⟩) HS.out (.int .i64 or_)).setCell (p := ⟨w3.heap.size + 1, 8, none⟩) HS.out (.int .i64 of_)).setCell (p := ⟨w3.heap.size + 1, 9, none⟩) HS.out (.int .i64 op_)).setCell (p := ⟨w3.heap.size + 1, 10, none⟩) HS.out (.int .i64 ol)).setCell (p := ⟨w3.heap.size + 1, 11, none⟩) HS.out (.bool true))).size (.cells #[.int .i64 ot, .int .i64 or_, .int .i64 of_, .int .i64 op_, .int .i64 ol] 40)
set_option maxHeartbeats 1600000 in
theorem ropen_bn (w : World) (p : Nat) (a b : ByteArray) (R : Hid (Reads2 p w a b 0 0)) (mt mr mf mp : Int) (ml : Nat) (at_ e ot or_ of_ op_ ol f : Int) (NC : ∀ w, Hid (Calls Tryz.prog 25 #[.string a, .string b] w fun e' w' => e' = .returned (.tuple #[.agg #[.int .i64 mt, .int .i64 mr, .int .i64 mf, .int .i64 mp, .int .i64 ml], .int .i64 at_, .int .i64 e]) ∧ Below w.heap.size w w')) (UC : ∀ w, Hid (Calls Tryz.prog 26 #[.string b] w fun e' w' => e' = .returned (.tuple #[.agg #[.int .i64 ot, .int .i64 or_, .int .i64 of_, .int .i64 op_, .int .i64 ol], .int .i64 f]) ∧ Below w.heap.size w w'))
    (h0 : (e != 0) = false) (A : Option Addr) (len cap : Nat) (c0 : w.cell? ⟨p, 0, none⟩ = some (.slice A len cap)) (d1 : decide ((len : Int) < 4 * (ml : Int)) = false) (m2 : ml ≤ 512) (t1 : (at_ == 1) = false) (t2 : (f == 0) = false) :
    Calls Tryz.prog 8 #[.pointer (some ⟨p, 0, none⟩)] w fun e w' => ∃ q, e = .returned (.tuple #[.pointer (some ⟨q, 0, none⟩), .int .i64 0]) ∧
      Blk w' q #[.pointer (some ⟨p, 0, none⟩), .int .i64 mt, .int .i64 mr, .int .i64 mf, .int .i64 mp, .int .i64 ml, .int .i64 0, .int .i64 0, .int .i64 0, .int .i64 0, .int .i64 0, .bool false, .slice none 0 0, .slice none 0 0] 57 ∧ w.heap.size ≤ q ∧ Below w.heap.size w w' := by
  have hz := zeroPg
  go_enter Tryz.func8, Tryz.ntmps8
  go_wp2_with fail
  refine (R.out.1 _ (Below.refl _ _)).mono ?_
  rintro _ w1 ⟨rfl, hb1⟩
  go_wp2_with fail
  refine (R.out.2 _ hb1).mono ?_
  rintro _ w2 ⟨rfl, hb2⟩
  have hB2 := hb1.trans (hb2.mono hb1.size)
  go_wp2_with fail
  refine (NC _).out.mono ?_
  rintro _ w3 ⟨rfl, hb3⟩
  have hB3 := hB2.trans (hb3.mono hB2.size)
  clear hb1 hb2 hb3 hB2
  have c3 := (hB3.cell (p := ⟨p, 0, none⟩) (World.block_lt_of_cell? _ _ c0)).trans c0
  have hp3 : p < w3.heap.size := World.block_lt_of_cell? _ _ c3
  have HS : Hid (w.heap.size ≤ w3.heap.size + 1) := Lib.hid (by have := hB3.size; omega)
  go_wp2
  go_quiet (fail)
  go_wp2_with fail
  refine (UC _).out.mono ?_
  rintro _ w5 ⟨rfl, hb5⟩
  have HQ : Hid (Blk w5 (w3.heap.size + 1) #[.pointer (some ⟨p, 0, none⟩), .int .i64 mt, .int .i64 mr, .int .i64 mf, .int .i64 mp, .int .i64 ml, .int .i64 0, .int .i64 0, .int .i64 0, .int .i64 0, .int .i64 0, .bool false, .slice none 0 0, .slice none 0 0] 57) := Lib.hid ((hb5.block (w3.heap.size + 1) (by simp)).trans (by
    have := Blk.new ((w3.alloc (.cells #[.int .i64 mt, .int .i64 mr, .int .i64 mf, .int .i64 mp, .int .i64 ml] 40)).drewN nq) #[.pointer (some ⟨p, 0, none⟩), .int .i64 mt, .int .i64 mr, .int .i64 mf, .int .i64 mp, .int .i64 ml, .int .i64 0, .int .i64 0, .int .i64 0, .int .i64 0, .int .i64 0, .bool false, .slice none 0 0, .slice none 0 0] 57
    simpa [Blk] using this))
  have HB5 : Hid (Below w.heap.size w w5) := Lib.hid (((below_drewN2 (hB3.alloc hB3.size (.cells #[.int .i64 mt, .int .i64 mr, .int .i64 mf, .int .i64 mp, .int .i64 ml] 40)) nq).alloc (by have := hB3.size; simp; omega) _).trans (hb5.mono (by have := hB3.size; simp; omega)))
  have f6 := HQ.out.free 6
  have f7 := HQ.out.free 7
  have f8 := HQ.out.free 8
  have f9 := HQ.out.free 9
  have f10 := HQ.out.free 10
  have f11 := HQ.out.free 11
  have x6 := HQ.out.cell 6
  have x7 := HQ.out.cell 7
  have x8 := HQ.out.cell 8
  have x9 := HQ.out.cell 9
  have x10 := HQ.out.cell 10
  have x11 := HQ.out.cell 11
  have l5 := HQ.out.lt
  clear hb5
  go_wp2
  go_ret2
  refine ⟨w3.heap.size + 1, rfl, ?_, by have := hB3.size; omega, ?_⟩
  · exact HQ.out.alloc (.cells #[.int .i64 ot, .int .i64 or_, .int .i64 of_, .int .i64 op_, .int .i64 ol] 40)
  · exact HB5.out.alloc HB5.out.size (.cells #[.int .i64 ot, .int .i64 or_, .int .i64 of_, .int .i64 op_, .int .i64 ol] 40)
end Go.Proofs.YtjgmlpfallakmaaGreat
end
section
namespace Go.Proofs.YtjgmlpfallakmaaGreat
open Go.RowKit
theorem opened_made {w' : World} {q p : Nat} {s : PS} (hb : Blk w' q (pgCells s p (.slice none 0 0) (.slice none 0 0)) 57) (h1 : s.seal_ = none) (h2 : s.row = []) : RefPg w' q p s [q] := by
  refine ⟨_, _, hb, ?_, ?_, rfl, by simp⟩
  · rw [h1]; exact World.ownsRow_nil _ _ _ _
  · rw [h2]; exact World.ownsRow_nil _ _ _ _
theorem ropen_ok (w : World) (p : Nat) (d : RD) (F : List Nat) (K : Nat) (hK : K ≤ 900000) (ok : RD.Ok K d) (h : RefAt w p d F) :
    Calls Tryz.prog 8 #[.pointer (some ⟨p, 0, none⟩)] w (Opened RefPg w p d) := by
  have R : Hid (Reads2 p w (d.readS 0) (d.readS 1) (d.readE 0) (d.readE 1)) := Lib.hid ⟨
    fun w1 hb => refUse.read w1 p d F K (by omega) ok 0 (h.touch (Touch.ofBelow hb) (by simp)),
    fun w1 hb => refUse.read w1 p d F K (by omega) ok 1 (h.touch (Touch.ofBelow hb) (by simp))⟩
  obtain ⟨A, cap, c0⟩ := ref_sector h
  have hl := ok.len
  by_cases h0 : d.readE 0 = 0
  case neg =>
    refine (ropen_e0 w p _ _ _ _ R (by simpa using h0)).mono ?_
    rintro _ w' ⟨rfl, hb⟩
    refine ⟨hb, .inl ⟨?_, ?_⟩⟩
    · unfold RD.opens; simp [h0]
    · unfold RD.openE; rw [if_neg h0]
  by_cases h1 : d.readE 1 = 0
  case neg =>
    refine (ropen_e1 w p _ _ _ _ R (by rw [h0]; rfl) (by simpa using h1)).mono ?_
    rintro _ w' ⟨rfl, hb⟩
    refine ⟨hb, .inl ⟨?_, ?_⟩⟩
    · unfold RD.opens; simp [h1]
    · unfold RD.openE; rw [if_pos h0, if_neg h1]
  rw [h0, h1] at R
  have NC := fun w => Lib.hid (rnewest_ok w (d.readS 0) (d.readS 1))
  by_cases h2 : newestE (d.readS 0) (d.readS 1) = 0
  case neg =>
    refine (ropen_e2 w p _ _ R _ _ _ _ _ _ _ NC (by simpa using h2)).mono ?_
    rintro _ w' ⟨rfl, hb⟩
    have ho : d.opens = false := by unfold RD.opens; simp [h2]
    refine ⟨hb, .inl ⟨ho, ?_⟩⟩
    unfold RD.openE
    rw [if_pos h0, if_pos h1, ho]
    rfl
  have hr := newestM_right _ _ h2
  rw [MV.right_iff] at hr
  have hs : d.openS.m = newestM (d.readS 0) (d.readS 1) := rfl
  have hso : d.openS.o = unpackM d.rest := rfl
  have hsh : d.openS.has = decide (unpackME d.rest = 0) := rfl
  have hss : d.openS.seal_ = none := rfl
  have hsr : d.openS.row = [] := rfl
  have ho : d.opens = decide (4 * (newestM (d.readS 0) (d.readS 1)).limit ≤ d.sector.length) := by unfold RD.opens; simp [h0, h1, h2]
  have hE : d.openE = if d.opens then 0 else 4 := by unfold RD.openE; rw [if_pos h0, if_pos h1]
  have hrest : d.rest = if newestI (d.readS 0) (d.readS 1) = 1 then d.readS 0 else d.readS 1 := rfl
  rw [h2] at NC
  generalize d.readS 0 = a at *
  generalize d.readS 1 = b at *
  generalize newestI a b = at_ at *
  obtain ⟨S, hS⟩ : ∃ S, d.openS = S := ⟨_, rfl⟩
  rw [hS] at hs hso hsh hss hsr
  obtain ⟨⟨mt, mr, mf, mp, ml⟩, hM⟩ : ∃ m, newestM a b = m := ⟨_, rfl⟩
  rw [hM] at NC hr hs ho
  simp only at hr ho
  obtain ⟨ml, rfl⟩ := Int.eq_ofNat_of_zero_le (show 0 ≤ ml by omega)
  by_cases h4 : 4 * (ml : Int) ≤ d.sector.length
  case neg =>
    have ho' : d.opens = false := by rw [ho]; simpa using h4
    refine (ropen_e3 w p a b R mt mr mf mp ml at_ 0 NC rfl A _ cap c0 (decide_eq_true (by omega)) (by omega)).mono ?_
    rintro _ w' ⟨rfl, hb⟩
    refine ⟨hb, .inl ⟨ho', ?_⟩⟩
    rw [hE, ho']
    rfl
  have ho' : d.opens = true := by rw [ho]; simpa using h4
  have d1 : decide ((d.sector.length : Int) < 4 * (ml : Int)) = false := decide_eq_false (by omega)
  have fin : ∀ (e : Ending) (w' : World) (q : Nat), e = .returned (.tuple #[.pointer (some ⟨q, 0, none⟩), .int .i64 0]) → Blk w' q (pgCells S p (.slice none 0 0) (.slice none 0 0)) 57 → w.heap.size ≤ q → Below w.heap.size w w' → Opened RefPg w p d e w' := by
    intro e w' q he hb hq hB
    refine ⟨hB, .inr ⟨ho', q, [q], he, ?_, by simpa using hq⟩⟩
    rw [hS]
    exact opened_made hb hss hsr
  obtain ⟨f, hf⟩ : ∃ f, unpackME d.rest = f := ⟨_, rfl⟩
  obtain ⟨⟨ot, or_, of_, op_, ol⟩, hO⟩ : ∃ o, unpackM d.rest = o := ⟨_, rfl⟩
  have UC := fun w => Lib.hid (runpackM_ok w d.rest)
  simp only [hf, hO] at UC
  rw [hf] at hsh
  rw [hO] at hso
  have hz : f ≠ 0 → (⟨ot, or_, of_, op_, ol⟩ : MV) = MV.none := fun hf0 => by rw [← hO]; exact unpackM_not _ (by rw [hf]; exact hf0)
  have fin2 : f = 0 → ∀ (w' : World) (q : Nat), Blk w' q #[.pointer (some ⟨p, 0, none⟩), .int .i64 mt, .int .i64 mr, .int .i64 mf, .int .i64 mp, .int .i64 ml, .int .i64 ot, .int .i64 or_, .int .i64 of_, .int .i64 op_, .int .i64 ol, .bool true, .slice none 0 0, .slice none 0 0] 57 →
      Blk w' q (pgCells S p (.slice none 0 0) (.slice none 0 0)) 57 := fun hf0 w' q hb => by
    unfold pgCells
    rw [hs, hso, hsh, hf0]
    exact hb
  have fin3 : f ≠ 0 → ∀ (w' : World) (q : Nat), Blk w' q #[.pointer (some ⟨p, 0, none⟩), .int .i64 mt, .int .i64 mr, .int .i64 mf, .int .i64 mp, .int .i64 ml, .int .i64 0, .int .i64 0, .int .i64 0, .int .i64 0, .int .i64 0, .bool false, .slice none 0 0, .slice none 0 0] 57 →
      Blk w' q (pgCells S p (.slice none 0 0) (.slice none 0 0)) 57 := fun hf0 w' q hb => by
    unfold pgCells
    rw [hs, hso, hz hf0, hsh, decide_eq_false hf0]
    exact hb
  by_cases ht : at_ = 1
  · rw [if_pos ht] at hrest
    rw [hrest] at UC
    by_cases hf0 : f = 0
    · refine (ropen_ay w p a b R mt mr mf mp ml at_ 0 ot or_ of_ op_ ol f NC UC rfl A _ cap c0 d1 (by omega) (by rw [beq_iff_eq]; exact ht) (by rw [beq_iff_eq]; exact hf0)).mono ?_
      rintro e w' ⟨q, he, hb, hq, hB⟩
      exact fin e w' q he (fin2 hf0 _ _ hb) hq hB
    · refine (ropen_an w p a b R mt mr mf mp ml at_ 0 ot or_ of_ op_ ol f NC UC rfl A _ cap c0 d1 (by omega) (by rw [beq_iff_eq]; exact ht) (by rw [beq_eq_false_iff_ne]; exact hf0)).mono ?_
      rintro e w' ⟨q, he, hb, hq, hB⟩
      exact fin e w' q he (fin3 hf0 _ _ hb) hq hB
  · rw [if_neg ht] at hrest
    rw [hrest] at UC
    by_cases hf0 : f = 0
    · refine (ropen_by w p a b R mt mr mf mp ml at_ 0 ot or_ of_ op_ ol f NC UC rfl A _ cap c0 d1 (by omega) (by rw [beq_eq_false_iff_ne]; exact ht) (by rw [beq_iff_eq]; exact hf0)).mono ?_
      rintro e w' ⟨q, he, hb, hq, hB⟩
      exact fin e w' q he (fin2 hf0 _ _ hb) hq hB
    · refine (ropen_bn w p a b R mt mr mf mp ml at_ 0 ot or_ of_ op_ ol f NC UC rfl A _ cap c0 d1 (by omega) (by rw [beq_eq_false_iff_ne]; exact ht) (by rw [beq_eq_false_iff_ne]; exact hf0)).mono ?_
      rintro e w' ⟨q, he, hb, hq, hB⟩
      exact fin e w' q he (fin3 hf0 _ _ hb) hq hB
end Go.Proofs.YtjgmlpfallakmaaGreat
end
section
namespace Go.Proofs.YtjgmlpfallakmaaGreat
open Go.RowKit
theorem zeroP : ∀ w, (zeroValue 38).run Tryz.prog w = .ok (.agg #[.int .i64 0, .int .i64 0, .int .i64 0, .string ⟨#[]⟩]) w := fun w => by kernel_rfl
/-- the result's cells are written -/
theorem stored4 {w w' : World} {g : Nat} {cs : Array Value} {t : TypeId} (h : Blk w' g cs t) (hB : Below g w w') (a b c d : Value) :
    Blk ((((w'.setCell ⟨g, 0, none⟩ a).setCell ⟨g, 1, none⟩ b).setCell ⟨g, 2, none⟩ c).setCell ⟨g, 3, none⟩ d) g ((((cs.setIfInBounds 0 a).setIfInBounds 1 b).setIfInBounds 2 c).setIfInBounds 3 d) t ∧
    Below g w ((((w'.setCell ⟨g, 0, none⟩ a).setCell ⟨g, 1, none⟩ b).setCell ⟨g, 2, none⟩ c).setCell ⟨g, 3, none⟩ d) :=
  ⟨(((h.set 0 a).set 1 b).set 2 c).set 3 d, (((hB.setCell (p := ⟨g, 0, none⟩) (Nat.le_refl _) a).setCell (p := ⟨g, 1, none⟩) (Nat.le_refl _) b).setCell (p := ⟨g, 2, none⟩) (Nat.le_refl _) c).setCell (p := ⟨g, 3, none⟩) (Nat.le_refl _) d⟩
set_option maxRecDepth 4000 in
set_option maxHeartbeats 1600000 in
theorem rread_bad (w : World) (q : Nat) (no lim : Int) (c5 : w.cell? ⟨q, 5, none⟩ = some (.int .i64 lim)) (hn : no < 1 ∨ lim ≤ no) :
    Calls Tryz.prog 16 #[.pointer (some ⟨q, 0, none⟩), .int .i64 no] w fun e w' => e = .returned (.tuple #[.agg #[.int .i64 0, .int .i64 0, .int .i64 0, .string ⟨#[]⟩], .int .i64 1]) ∧ Below w.heap.size w w' := by
  have hz := zeroP
  have hq : q < w.heap.size := World.block_lt_of_cell? _ _ c5
  have hZ : Hid (Blk (w.alloc (.cells #[.int .i64 0, .int .i64 0, .int .i64 0, .string ⟨#[]⟩] 38)) w.heap.size #[.int .i64 0, .int .i64 0, .int .i64 0, .string ⟨#[]⟩] 38) := Lib.hid (Blk.new w _ _)
  have hB : Hid (Below w.heap.size w (w.alloc (.cells #[.int .i64 0, .int .i64 0, .int .i64 0, .string ⟨#[]⟩] 38))) := Lib.hid ((Below.refl _ w).alloc (Nat.le_refl _) _)
  by_cases n1 : no < 1
  · have d1 : decide (no < 1) = true := decide_eq_true n1
    clear hn n1
    go_enter Tryz.func16, Tryz.ntmps16
    go_wp2
    refine bodyPost_ret (results_cell2 rfl _ _ w.heap.size 38 _ (0, 0) _ rfl hZ.out Tryz.underlying38 rfl (by kernel_rfl)) rfl ⟨rfl, hB.out⟩
  · have d1 : decide (no < 1) = false := decide_eq_false n1
    have d2 : decide (lim ≤ no) = true := decide_eq_true (by omega)
    clear hn n1
    go_enter Tryz.func16, Tryz.ntmps16
    go_wp2
    refine bodyPost_ret (results_cell2 rfl _ _ w.heap.size 38 _ (0, 0) _ rfl hZ.out Tryz.underlying38 rfl (by kernel_rfl)) rfl ⟨rfl, hB.out⟩
set_option maxRecDepth 4000 in
set_option maxHeartbeats 3200000 in
theorem rread_in (w : World) (p q : Nat) (d : RD) (F : List Nat) (K : Nat) (hK : K ≤ 900000) (ok : RD.Ok K d) (hfull : d.Full) (n lim : Nat) (hA : RefAt w p d F) (c0 : w.cell? ⟨q, 0, none⟩ = some (.pointer (some ⟨p, 0, none⟩))) (c5 : w.cell? ⟨q, 5, none⟩ = some (.int .i64 lim)) (hn : 1 ≤ n ∧ n < lim) (hl : lim ≤ 512)
    (RP : PV) (RE : Int) (hX1 : d.rdE (4 * n) 4 ≠ 0 → RP = PV.none ∧ RE = d.rdE (4 * n) 4)
    (hX2 : d.rdE (4 * n) 4 = 0 → ¬ (unpackE (d.rdS (4 * n) 4) = 0 ∧ (unpackP (d.rdS (4 * n) 4)).no = n) → RP = PV.none ∧ RE = 4)
    (hX3 : d.rdE (4 * n) 4 = 0 → (unpackE (d.rdS (4 * n) 4) = 0 ∧ (unpackP (d.rdS (4 * n) 4)).no = n) → RP = unpackP (d.rdS (4 * n) 4) ∧ RE = 0) :
    Calls Tryz.prog 16 #[.pointer (some ⟨q, 0, none⟩), .int .i64 n] w fun e w' => e = .returned (.tuple #[RP.val, .int .i64 RE]) ∧ Below w.heap.size w w' := by
  have hz := zeroP
  have hq : q < w.heap.size := World.block_lt_of_cell? _ _ c5
  have d1 : decide ((n : Int) < 1) = false := decide_eq_false (by omega)
  have d2 : decide (lim ≤ n) = false := decide_eq_false (by omega)
  have hZ : Blk (w.alloc (.cells #[.int .i64 0, .int .i64 0, .int .i64 0, .string ⟨#[]⟩] 38)) w.heap.size #[.int .i64 0, .int .i64 0, .int .i64 0, .string ⟨#[]⟩] 38 := Blk.new w _ _
  have hB : Below w.heap.size w (w.alloc (.cells #[.int .i64 0, .int .i64 0, .int .i64 0, .string ⟨#[]⟩] 38)) := (Below.refl _ w).alloc (Nat.le_refl _) _
  have HX1 := Lib.hid hX1
  have HX2 := Lib.hid hX2
  have HX3 := Lib.hid hX3
  have HF := Lib.hid hfull
  have HQ := Lib.hid hq
  have hn5 : n ≤ 511 := by omega
  have RC : Hid (∀ (k : Nat) (wr : World), Below w.heap.size w wr → Calls Tryz.prog 24 #[.pointer (some ⟨p, 0, none⟩), .int .i64 (4 * (n : Int) + (k : Int))] wr fun e w' => e = .returned (.tuple #[.string (d.readS (4 * n + k)), .int .i64 (d.readE (4 * n + k))]) ∧ Below wr.heap.size wr w') :=
    Lib.hid fun k wr hb => refUse.read wr p d F K (by omega) ok _ (hA.touch (Touch.ofBelow hb) (by simp))
  have HZ0 := Lib.hid hZ
  have HB0 := Lib.hid hB
  have C0 := Lib.hid c0
  clear hX1 hX2 hX3 hfull ok hA hn hl hZ hB
  go_enter Tryz.func16, Tryz.ntmps16
  go_wp2
  go_loopw [6, 7] (fun ss kk wr => ∃ (k : Nat) (S : ByteArray), k ≤ 4 ∧ ss = .string S ∧ kk = .int .i64 k ∧ Hid (S = d.rdS (4 * n) k) ∧ Hid (d.rdE (4 * n) k = 0) ∧ Below w.heap.size w wr ∧ Blk wr w.heap.size #[.int .i64 0, .int .i64 0, .int .i64 0, .string ⟨#[]⟩] 38) (fun _ kk _ => 4 - (intOf kk).toNat)
  case atStart => exact ⟨0, ⟨#[]⟩, by omega, rfl, rfl, Lib.hid rfl, Lib.hid rfl, HB0.out, HZ0.out⟩
  case round =>
    obtain ⟨k, S, hk, rfl, rfl, HS, HE, hBr, hZr⟩ := hrel
    by_cases hk4 : k < 4
    · have t1 : decide (k < 4) = true := decide_eq_true hk4
      have x0 := (hBr.cell (p := ⟨q, 0, none⟩) HQ.out).trans C0.out
      have RK := Lib.hid (RC.out k wr hBr)
      obtain ⟨T, hT⟩ : ∃ T, d.readS (4 * n + k) = T := ⟨_, rfl⟩
      obtain ⟨E, hE⟩ : ∃ E, d.readE (4 * n + k) = E := ⟨_, rfl⟩
      rw [hT, hE] at RK
      have hSs : S.size ≤ 512 := by rw [HS.out]; have := HF.out.rdS (4 * n) k; omega
      have hTs : T.size ≤ 128 := by rw [← hT]; exact HF.out.read _
      have HBr := Lib.hid hBr
      have HZr := Lib.hid hZr
      by_cases hE0 : E = 0
      · have e1 : (E != 0) = false := by rw [hE0]; rfl
        have HS' : Hid (S ++ T = d.rdS (4 * n) (k + 1)) := Lib.hid (by rw [RD.rdS, HS.out, hT])
        have HE' : Hid (d.rdE (4 * n) (k + 1) = 0) := Lib.hid (by rw [RD.rdE, if_pos HE.out, hE, hE0])
        clear hT hE hE0 hBr hZr
        go_wp2_with fail
        refine RK.out.mono ?_
        rintro _ w2 ⟨rfl, hb2⟩
        go_wp2
        go_roundw
        case rel => exact ⟨k + 1, S ++ T, by omega, by rfl, by go_num, HS', HE', HBr.out.trans (hb2.mono HBr.out.size), (hb2.block _ HZr.out.lt).trans HZr.out⟩
        case measure => simp [intOf]; omega
      · have e1 : (E != 0) = true := by simpa using hE0
        have hR : d.rdE (4 * n) (k + 1) = E := by rw [RD.rdE, if_pos HE.out, hE]
        have hR4 : d.rdE (4 * n) 4 = E := by
          have := RD.rd_stop d (4 * n) (k + 1) (4 - (k + 1)) (by rw [hR]; exact hE0)
          rw [show k + 1 + (4 - (k + 1)) = 4 by omega, hR] at this
          exact this
        have HR : Hid (RP = PV.none ∧ RE = E) := Lib.hid (by have := HX1.out (by rw [hR4]; exact hE0); rw [hR4] at this; exact this)
        clear hT hE hE0 hBr hZr hR hR4
        go_wp2_with fail
        refine RK.out.mono ?_
        rintro _ w2 ⟨rfl, hb2⟩
        have hZ2 : Blk w2 w.heap.size #[.int .i64 0, .int .i64 0, .int .i64 0, .string ⟨#[]⟩] 38 := (hb2.block _ HZr.out.lt).trans HZr.out
        have hB2 := HBr.out.trans (hb2.mono HBr.out.size)
        have u0 : w2.cell? ⟨w.heap.size, 0, none⟩ = some (.int .i64 0) := hZ2.cell 0
        have m0 := hZ2.free 0
        have u1 : w2.cell? ⟨w.heap.size, 1, none⟩ = some (.int .i64 0) := hZ2.cell 1
        have m1 := hZ2.free 1
        have u2 : w2.cell? ⟨w.heap.size, 2, none⟩ = some (.int .i64 0) := hZ2.cell 2
        have m2 := hZ2.free 2
        have u3 : w2.cell? ⟨w.heap.size, 3, none⟩ = some (.string ⟨#[]⟩) := hZ2.cell 3
        have m3 := hZ2.free 3
        have lu := hZ2.lt
        have HZ2 := Lib.hid hZ2
        have HB2 := Lib.hid hB2
        clear hZ2 hB2 hb2
        go_wp2
        obtain ⟨hS4, hB4⟩ := stored4 HZ2.out HB2.out (.int .i64 0) (.int .i64 0) (.int .i64 0) (.string ⟨#[]⟩)
        refine bodyPost_ret (results_cell2 rfl _ _ w.heap.size 38 _ (0, 0) _ rfl hS4 Tryz.underlying38 rfl (by kernel_rfl)) rfl ⟨?_, hB4⟩
        rw [HR.out.1, HR.out.2]
        rfl
    · obtain rfl : k = 4 := by omega
      have HBr := Lib.hid hBr
      have HZr := Lib.hid hZr
      have UC := fun w => Lib.hid (runpack_ok w S)
      have hx2 := HX2.out HE.out
      have hx3 := HX3.out HE.out
      rw [← HS.out] at hx2 hx3
      obtain ⟨⟨kn, on, tn, body⟩, hU⟩ : ∃ x, unpackP S = x := ⟨_, rfl⟩
      obtain ⟨UE, hUE⟩ : ∃ x, unpackE S = x := ⟨_, rfl⟩
      simp only [hU, hUE] at UC hx2 hx3
      unfold PV.val at UC
      simp only at UC
      by_cases hg : UE = 0 ∧ on = n
      · have HR := Lib.hid (hx3 hg)
        obtain ⟨g1, g2⟩ := hg
        have e1 : (UE != 0) = false := by rw [g1]; rfl
        have e2 : (on != (n : Int)) = false := by rw [g2]; simp
        clear hx2 hx3 hU hUE g1 g2 hBr hZr
        go_wp2_with fail
        refine (UC _).out.mono ?_
        rintro _ w3 ⟨rfl, hb3⟩
        have hZ3 : Blk w3 w.heap.size #[.int .i64 0, .int .i64 0, .int .i64 0, .string ⟨#[]⟩] 38 := (hb3.block _ HZr.out.lt).trans HZr.out
        have hB3 := HBr.out.trans (hb3.mono HBr.out.size)
        have u0 : w3.cell? ⟨w.heap.size, 0, none⟩ = some (.int .i64 0) := hZ3.cell 0
        have m0 := hZ3.free 0
        have u1 : w3.cell? ⟨w.heap.size, 1, none⟩ = some (.int .i64 0) := hZ3.cell 1
        have m1 := hZ3.free 1
        have u2 : w3.cell? ⟨w.heap.size, 2, none⟩ = some (.int .i64 0) := hZ3.cell 2
        have m2 := hZ3.free 2
        have u3 : w3.cell? ⟨w.heap.size, 3, none⟩ = some (.string ⟨#[]⟩) := hZ3.cell 3
        have m3 := hZ3.free 3
        have lu := hZ3.lt
        have HZ3 := Lib.hid hZ3
        have HB3 := Lib.hid hB3
        clear hZ3 hB3 hb3
        go_wp2
        obtain ⟨hS4, hB4⟩ := stored4 HZ3.out HB3.out (.int .i64 kn) (.int .i64 on) (.int .i64 tn) (.string body)
        refine bodyPost_ret (results_cell2 rfl _ _ w.heap.size 38 _ (0, 0) _ rfl (hS4.alloc (.cells #[.int .i64 kn, .int .i64 on, .int .i64 tn, .string body] 38)) Tryz.underlying38 rfl (by kernel_rfl)) rfl ⟨?_, hB4.alloc hB4.size (.cells #[.int .i64 kn, .int .i64 on, .int .i64 tn, .string body] 38)⟩
        rw [HR.out.1, HR.out.2]
        rfl
      · have HR := Lib.hid (hx2 hg)
        clear hx2 hx3 hU hUE hBr hZr
        by_cases g1 : UE = 0
        · have e1 : (UE != 0) = false := by rw [g1]; rfl
          have e2 : (on != (n : Int)) = true := by
            rw [bne_iff_ne]
            exact fun h => hg ⟨g1, h⟩
          clear g1 hg
          go_wp2_with fail
          refine (UC _).out.mono ?_
          rintro _ w3 ⟨rfl, hb3⟩
          have hZ3 : Blk w3 w.heap.size #[.int .i64 0, .int .i64 0, .int .i64 0, .string ⟨#[]⟩] 38 := (hb3.block _ HZr.out.lt).trans HZr.out
          have hB3 := HBr.out.trans (hb3.mono HBr.out.size)
          have u0 : w3.cell? ⟨w.heap.size, 0, none⟩ = some (.int .i64 0) := hZ3.cell 0
          have m0 := hZ3.free 0
          have u1 : w3.cell? ⟨w.heap.size, 1, none⟩ = some (.int .i64 0) := hZ3.cell 1
          have m1 := hZ3.free 1
          have u2 : w3.cell? ⟨w.heap.size, 2, none⟩ = some (.int .i64 0) := hZ3.cell 2
          have m2 := hZ3.free 2
          have u3 : w3.cell? ⟨w.heap.size, 3, none⟩ = some (.string ⟨#[]⟩) := hZ3.cell 3
          have m3 := hZ3.free 3
          have lu := hZ3.lt
          have HZ3 := Lib.hid hZ3
          have HB3 := Lib.hid hB3
          clear hZ3 hB3 hb3
          go_wp2
          obtain ⟨hS4, hB4⟩ := stored4 HZ3.out HB3.out (.int .i64 0) (.int .i64 0) (.int .i64 0) (.string ⟨#[]⟩)
          refine bodyPost_ret (results_cell2 rfl _ _ w.heap.size 38 _ (0, 0) _ rfl (hS4.alloc (.cells #[.int .i64 kn, .int .i64 on, .int .i64 tn, .string body] 38)) Tryz.underlying38 rfl (by kernel_rfl)) rfl ⟨?_, hB4.alloc hB4.size (.cells #[.int .i64 kn, .int .i64 on, .int .i64 tn, .string body] 38)⟩
          rw [HR.out.1, HR.out.2]
          rfl
        · have e1 : (UE != 0) = true := by simpa using g1
          clear g1 hg
          go_wp2_with fail
          refine (UC _).out.mono ?_
          rintro _ w3 ⟨rfl, hb3⟩
          have hZ3 : Blk w3 w.heap.size #[.int .i64 0, .int .i64 0, .int .i64 0, .string ⟨#[]⟩] 38 := (hb3.block _ HZr.out.lt).trans HZr.out
          have hB3 := HBr.out.trans (hb3.mono HBr.out.size)
          have u0 : w3.cell? ⟨w.heap.size, 0, none⟩ = some (.int .i64 0) := hZ3.cell 0
          have m0 := hZ3.free 0
          have u1 : w3.cell? ⟨w.heap.size, 1, none⟩ = some (.int .i64 0) := hZ3.cell 1
          have m1 := hZ3.free 1
          have u2 : w3.cell? ⟨w.heap.size, 2, none⟩ = some (.int .i64 0) := hZ3.cell 2
          have m2 := hZ3.free 2
          have u3 : w3.cell? ⟨w.heap.size, 3, none⟩ = some (.string ⟨#[]⟩) := hZ3.cell 3
          have m3 := hZ3.free 3
          have lu := hZ3.lt
          have HZ3 := Lib.hid hZ3
          have HB3 := Lib.hid hB3
          clear hZ3 hB3 hb3
          go_wp2
          obtain ⟨hS4, hB4⟩ := stored4 HZ3.out HB3.out (.int .i64 0) (.int .i64 0) (.int .i64 0) (.string ⟨#[]⟩)
          refine bodyPost_ret (results_cell2 rfl _ _ w.heap.size 38 _ (0, 0) _ rfl (hS4.alloc (.cells #[.int .i64 kn, .int .i64 on, .int .i64 tn, .string body] 38)) Tryz.underlying38 rfl (by kernel_rfl)) rfl ⟨?_, hB4.alloc hB4.size (.cells #[.int .i64 kn, .int .i64 on, .int .i64 tn, .string body] 38)⟩
          rw [HR.out.1, HR.out.2]
          rfl
theorem rread_ok (w : World) (p q : Nat) (d : RD) (s : PS) (F G : List Nat) (K : Nat) (hK : K ≤ 900000) (ok : RD.Ok K d) (hfull : d.Full) (sok : s.Ok) (no : Int) (hA : RefAt w p d F) (hP : RefPg w q p s G) :
    Calls Tryz.prog 16 #[.pointer (some ⟨q, 0, none⟩), .int .i64 no] w fun e w' => e = .returned (.tuple #[(s.readP d no).val, .int .i64 (s.readE d no)]) ∧ Below w.heap.size w w' := by
  obtain ⟨vs, vr, hb, _⟩ := hP
  have c0 : w.cell? ⟨q, 0, none⟩ = some (.pointer (some ⟨p, 0, none⟩)) := hb.cell 0
  have c5 : w.cell? ⟨q, 5, none⟩ = some (.int .i64 s.m.limit) := hb.cell 5
  have hm := sok.m
  rw [MV.right_iff] at hm
  by_cases hno : 1 ≤ no ∧ no < s.m.limit
  · obtain ⟨n, rfl⟩ := Int.eq_ofNat_of_zero_le (show 0 ≤ no by omega)
    obtain ⟨lim, hlim⟩ := Int.eq_ofNat_of_zero_le (show 0 ≤ s.m.limit by omega)
    rw [hlim] at c5 hno hm
    have hmr : s.mayRead n = true := by unfold PS.mayRead; rw [hlim]; simp; omega
    refine rread_in w p q d F K hK ok hfull n lim hA c0 c5 (by omega) (by omega) _ _ ?_ ?_ ?_
    · intro h
      unfold PS.readP PS.readE PS.fine
      rw [hmr]
      simp [h]
    · intro h h2
      have hf : PS.fine d n = false := by
        unfold PS.fine
        rw [decide_eq_true h]
        simp only [Bool.true_and, Bool.and_eq_false_iff, decide_eq_false_iff_not]
        by_cases a : unpackE (d.rdS (4 * n) 4) = 0
        · exact .inr (fun b => h2 ⟨a, b⟩)
        · exact .inl a
      unfold PS.readP PS.readE
      rw [hmr, hf, if_pos h]
      exact ⟨rfl, rfl⟩
    · intro h h2
      have hf : PS.fine d n = true := by
        unfold PS.fine
        rw [decide_eq_true h, decide_eq_true h2.1, decide_eq_true h2.2]
        rfl
      unfold PS.readP PS.readE
      rw [hmr, hf, if_pos h]
      exact ⟨rfl, rfl⟩
  · have hmr : s.mayRead no = false := by
      unfold PS.mayRead
      simp only [Bool.and_eq_false_iff, decide_eq_false_iff_not]
      omega
    refine (rread_bad w q no s.m.limit c5 (by omega)).mono ?_
    rintro _ w' ⟨rfl, hB⟩
    refine ⟨?_, hB⟩
    unfold PS.readP PS.readE
    rw [hmr]
    rfl
end Go.Proofs.YtjgmlpfallakmaaGreat
end
section
namespace Go.Proofs.YtjgmlpfallakmaaGreat
open Go.RowKit
attribute [local go_sem ↓] Go.wp_at_zero Go.wp_at_succ
theorem PV.packS_512 (x : PV) (h : x.right = true) : x.packS.size = 512 := by
  unfold PV.packS
  rw [if_pos h, ba_size, Page.packed_length]
  rw [PV.right_iff] at h
  unfold PV.pg
  simp only [Array.length_toList]
  exact h.2.2.2.2.2.2
theorem info3 : (Tryz.prog.info? 3).map (fun i => (i.zero, i.size, i.bytes)) = some (some (.int .i64 0), 1, 8) := by kernel_rfl
theorem Grows.left {F F' G : List Nat} {n : Nat} (h : Grows F F' n) : Grows (F ++ G) (F' ++ G) n := fun k hk => by
  rcases List.mem_append.1 hk with hk | hk
  · exact (h k hk).elim (fun h => .inl (List.mem_append_left _ h)) .inr
  · exact .inl (List.mem_append_right _ hk)
theorem Did2.same {At : World → Nat → RD → List Nat → Prop} {PAt : World → Nat → Nat → PS → List Nat → Prop} {w w' : World} {p q : Nat} {F G : List Nat} {d : RD} {s : PS} {e : Ending} (hA : At w' p d F) (hP : PAt w' q p s G) (hFG : ∀ k ∈ F, k ∉ G) (hB : Below w.heap.size w w') : Did2 At PAt w p q (F ++ G) d s e e w' :=
  ⟨rfl, F, G, hA, hP, hFG, (Touch.ofBelow hB).more (by simp), Grows.refl _ _⟩
set_option maxRecDepth 4000 in
set_option maxHeartbeats 1600000 in
theorem rwrite_bad (w : World) (q : Nat) (x : PV) (hx : x.right = false) (hs : x.body.size ≤ 2000) :
    Calls Tryz.prog 36 #[.pointer (some ⟨q, 0, none⟩), x.val] w fun e w' => e = .returned (.int .i64 4) ∧ Below w.heap.size w w' := by
  have PC := fun w => refPage.pack w x hs
  rw [show x.packE = 4 by unfold PV.packE; rw [hx]; rfl] at PC
  obtain ⟨S, hS⟩ : ∃ S, x.packS = S := ⟨_, rfl⟩
  rw [hS] at PC
  obtain ⟨kn, no, tn, body⟩ := x
  unfold PV.val at PC ⊢
  simp only at PC ⊢
  have PC := fun w => Lib.hid (PC w)
  clear hx hs hS
  go_enter Tryz.func36, Tryz.ntmps36
  go_wp2_with fail
  refine (PC _).out.mono ?_
  rintro _ w1 ⟨rfl, hb1⟩
  have HB : Hid (Below w.heap.size w w1) := Lib.hid (((Below.refl _ w).alloc (Nat.le_refl _) _).trans (hb1.mono (by simp)))
  clear hb1
  go_wp2
  go_ret
  exact ⟨rfl, HB.out⟩
set_option maxRecDepth 4000 in
set_option maxHeartbeats 1600000 in
theorem rwrite_far (w : World) (q : Nat) (x : PV) (hx : x.right = true) (lim : Nat) (c5 : w.cell? ⟨q, 5, none⟩ = some (.int .i64 lim)) (hl : ¬ x.no < lim) :
    Calls Tryz.prog 36 #[.pointer (some ⟨q, 0, none⟩), x.val] w fun e w' => e = .returned (.int .i64 1) ∧ Below w.heap.size w w' := by
  have hr := hx
  rw [PV.right_iff] at hr
  have PC := fun w => refPage.pack w x (by omega)
  rw [show x.packE = 0 by unfold PV.packE; rw [hx]; rfl] at PC
  obtain ⟨S, hS⟩ : ∃ S, x.packS = S := ⟨_, rfl⟩
  rw [hS] at PC
  obtain ⟨kn, no, tn, body⟩ := x
  simp only at hr hl
  obtain ⟨n, rfl⟩ := Int.eq_ofNat_of_zero_le (show 0 ≤ no by omega)
  have d2 : decide (lim ≤ n) = true := decide_eq_true (by omega)
  unfold PV.val at PC ⊢
  simp only at PC ⊢
  have PC := fun w => Lib.hid (PC w)
  have hq : q < w.heap.size := World.block_lt_of_cell? _ _ c5
  clear hx hr hS hl
  go_enter Tryz.func36, Tryz.ntmps36
  go_wp2_with fail
  refine (PC _).out.mono ?_
  rintro _ w1 ⟨rfl, hb1⟩
  have hX : Blk w1 w.heap.size #[.int .i64 kn, .int .i64 n, .int .i64 tn, .string body] 38 := (hb1.block _ (by simp)).trans (heap_alloc_new w _)
  have y1 : w1.cell? ⟨w.heap.size, 1, none⟩ = some (.int .i64 n) := hX.cell 1
  have HB : Hid (Below w.heap.size w w1) := Lib.hid (((Below.refl _ w).alloc (Nat.le_refl _) _).trans (hb1.mono (by simp)))
  have x5 := (HB.out.cell (p := ⟨q, 5, none⟩) hq).trans c5
  clear hb1 hX
  go_wp2
  go_quiet (fail)
  go_wp2
  go_ret
  exact ⟨rfl, below_drewN2 HB.out _⟩
theorem rpg_end {w wc w' : World} {p q : Nat} {F G G1 F2 : List Nat} {d2 : RD} {s1 : PS} {e : Ending} (hT1 : Touch G w wc) (hG1 : ∀ k ∈ G1, k ∈ G ∨ w.heap.size ≤ k) (hP1 : RefPg wc q p s1 G1) (hFG : ∀ k ∈ F, k ∉ G1)
    (hA : RefAt w' p d2 F2) (hT : Touch F wc w') (hG : Grows F F2 wc.heap.size) : Did2 RefAt RefPg w p q (F ++ G) d2 s1 e e w' := by
  refine ⟨rfl, F2, G1, hA, hP1.touch hT hFG, ?_, ?_, ?_⟩
  · intro k hk hm
    rcases hG k hk with h | h
    · exact hFG k h hm
    · have := hP1.lt k hm; omega
  · have h1 : Touch (F ++ G) w wc := hT1.more (fun k hk => List.mem_append_right _ hk)
    have h2 : Touch (F ++ G) wc w' := hT.more (fun k hk => List.mem_append_left _ hk)
    exact h1.trans h2 (Grows.refl _ _)
  · intro k hk
    rcases List.mem_append.1 hk with hk | hk
    · rcases hG k hk with h | h
      · exact .inl (List.mem_append_left _ h)
      · exact .inr (Nat.le_trans hT1.size h)
    · exact (hG1 k hk).elim (fun h => .inl (List.mem_append_right _ h)) .inr
set_option maxRecDepth 4000 in
set_option maxHeartbeats 3200000 in
theorem rwrite_in (w : World) (p q : Nat) (d : RD) (s : PS) (F G : List Nat) (K : Nat) (hK : K ≤ 900000) (ok : RD.Ok K d) (hrow : s.row.length ≤ K) (x : PV) (hx : x.right = true) (hA : RefAt w p d F) (hP : RefPg w q p s G) (hFG : ∀ k ∈ F, k ∉ G) (lim : Nat) (hlim : s.m.limit = lim) (hl : x.no < lim) :
    Calls Tryz.prog 36 #[.pointer (some ⟨q, 0, none⟩), x.val] w (Did2 RefAt RefPg w p q (F ++ G) (d.wr (4 * x.no) x.packS 4).1 { s with row := s.row ++ [x.no] } (.returned (.int .i64 (d.wr (4 * x.no) x.packS 4).2))) := by
  have hr := hx
  rw [PV.right_iff] at hr
  have hS5 := PV.packS_512 x hx
  have PC := fun w => refPage.pack w x (by omega)
  rw [show x.packE = 0 by unfold PV.packE; rw [hx]; rfl] at PC
  obtain ⟨S, hS⟩ : ∃ S, x.packS = S := ⟨_, rfl⟩
  rw [hS] at PC hS5
  rw [hS]
  clear hS
  obtain ⟨kn, no, tn, body⟩ := x
  simp only at hr hl ⊢
  obtain ⟨n, rfl⟩ := Int.eq_ofNat_of_zero_le (show 0 ≤ no by omega)
  have d2 : decide (lim ≤ n) = false := decide_eq_false (by omega)
  have hn5 : n ≤ 511 := by omega
  unfold PV.val at PC ⊢
  simp only at PC ⊢
  have PC := fun w => Lib.hid (PC w)
  have HA := Lib.hid hA
  have HFG := Lib.hid hFG
  have HLF := Lib.hid hA.lt
  have HLG := Lib.hid hP.lt
  obtain ⟨vs, vr, hb, hs, hr2, hG, hN⟩ := hP
  rw [show pgCells s p vs vr = #[.pointer (some ⟨p, 0, none⟩), .int .i64 s.m.txn, .int .i64 s.m.root, .int .i64 s.m.free, .int .i64 s.m.pages, .int .i64 lim, .int .i64 s.o.txn, .int .i64 s.o.root, .int .i64 s.o.free, .int .i64 s.o.pages, .int .i64 s.o.limit, .bool s.has, vs, vr] by unfold pgCells; rw [hlim]] at hb
  have hq := hb.lt
  have OK := Lib.hid ok
  obtain ⟨i0, hi, hz0, hz1, hz2⟩ := info_parts info3
  have HNE : Hid (some q ≠ vr.ownBlock) := Lib.hid (by
    intro e
    subst hG
    exact (sep3 hN).2.1 e.symm)
  have HS2 := Lib.hid hs
  have HG := Lib.hid hG
  have HN := Lib.hid hN
  clear hx hr hl hA hFG ok hs hG hN
  go_enter Tryz.func36, Tryz.ntmps36
  go_wp2_with fail
  refine (PC _).out.mono ?_
  rintro _ w1 ⟨rfl, hb1⟩
  have hX : Blk w1 w.heap.size #[.int .i64 kn, .int .i64 n, .int .i64 tn, .string body] 38 := (hb1.block _ (by simp)).trans (heap_alloc_new w _)
  have y1 : w1.cell? ⟨w.heap.size, 1, none⟩ = some (.int .i64 n) := hX.cell 1
  have HB : Hid (Below w.heap.size w w1) := Lib.hid (((Below.refl _ w).alloc (Nat.le_refl _) _).trans (hb1.mono (by simp)))
  have hbp := hb.touch (Touch.ofBelow HB.out) (by simp)
  have hr1 := ownsRow_touch (S := []) hr2 (Touch.ofBelow HB.out) (by simp)
  have x5 : w1.cell? ⟨q, 5, none⟩ = some (.int .i64 lim) := hbp.cell 5
  have HX := Lib.hid hX
  clear hb1 hX
  go_wp2
  go_quiet (fail)
  go_upto_region 6 with fail
  obtain ⟨wq, hwq⟩ : ∃ wq, w1.drewN nq = wq := ⟨_, rfl⟩
  have hBq : Below w.heap.size w wq := hwq ▸ below_drewN2 HB.out nq
  have hXq : Blk wq w.heap.size #[.int .i64 kn, .int .i64 n, .int .i64 tn, .string body] 38 := hwq ▸ HX.out
  have hbq := hb.touch (Touch.ofBelow hBq) (by simp)
  have hrq := ownsRow_touch (S := []) hr2 (Touch.ofBelow hBq) (by simp)
  rw [hwq]
  clear hwq y1 hbp hr1 x5 hr2 hb
  have y1 : wq.cell? ⟨w.heap.size, 1, none⟩ = some (.int .i64 n) := hXq.cell 1
  have x5 : wq.cell? ⟨q, 13, none⟩ = some vr := hbq.cell 13
  have HXq := Lib.hid hXq
  have HBq := Lib.hid hBq
  have hqx : q ≠ w.heap.size := by omega
  have hlq := hbq.lt
  have hxq := hXq.lt
  go_cut [34] (fun s34 wx => ∃ g, RefPg wx q p { s with row := s.row ++ [(n : Int)] } (q :: (vs.ownBlock.toList ++ [g])) ∧ (∀ k ∈ q :: (vs.ownBlock.toList ++ [g]), k ∈ G ∨ w.heap.size ≤ k) ∧ Touch G w wx ∧ Blk wx w.heap.size #[.int .i64 kn, .int .i64 n, .int .i64 tn, .string body] 38)
  case first =>
    go_region_law
      ((refine step_append_lies _ (by rfl) _ _ _ (by rfl) 0 3 i0 _ 1 8 Tryz.underlying41 hi hz0 hz1 hz2 rfl (by omega) vr s.row.length _ (by rfl) (hrq.alloc _)
            ⟨wq.heap.size, 0, none⟩ 1 1 [.int .i64 n] (by rfl) (by rfl) (World.news_of_block (heap_alloc_new wq _)) (by simp [Value.oneCell'])
            (by omega) (by simp [maxLen]; omega) (by omega) (by simp) (wq.heap.size + 1) (by simp) ?_; intro g cap w2 hown2 hgrow hat hlt2; have kb2 := ((hbq.alloc (.cells #[.int .i64 n] 3)).drew).grown hgrow HNE.out; have g0 : w2.cell? ⟨q, 13, none⟩ = some vr := kb2.cell 13; have g1 := kb2.free 13; have g2 := kb2.lt))
    all_goals
      go_wp2
      go_meet
      have hs5 := HBq.out.size
      have hvr : ∀ k, vr.ownBlock = some k → k < w.heap.size := fun k hk => HLG.out k (by rw [HG.out]; exact mem3.2 (.inr (.inr hk)))
      have TT : Touch (q :: vr.ownBlock.toList) w (w2.setCell ⟨q, 13, none⟩ (.slice (some ⟨g, 0, none⟩) (s.row.length + 1) cap)) :=
        (((((Touch.ofBelow HBq.out).more (S' := q :: vr.ownBlock.toList) (by simp)).alloc _).drew.grown hgrow (by intro k hk; left; simp [hk])).setCell (p := ⟨q, 13, none⟩) (.inl (by simp)) _)
      have hN := HN.out
      rw [HG.out] at hN
      obtain ⟨n1, n2, n3⟩ := sep3 hN
      refine ⟨g, ⟨vs, .slice (some ⟨g, 0, none⟩) (s.row.length + 1) cap, ?_, ?_, ?_, rfl, ?_⟩, ?_, ?_, ?_⟩
      · have := kb2.set 13 (.slice (some ⟨g, 0, none⟩) (s.row.length + 1) cap)
        unfold pgCells
        rw [hlim]
        exact this
      · refine ownsRow_touch HS2.out TT ?_
        intro k hk hm
        rcases mem2 hm with rfl | hm
        · exact n1 hk
        · exact n3 k hk hm
      · show World.ownsRow _ 0 3 1 _ (s.row ++ [(n : Int)]).length ((s.row ++ [(n : Int)]).map (Value.int .i64))
        rw [List.length_append, List.map_append]
        refine ownsRow_touch (S := [q]) hown2 ((Touch.refl [q] w2).setCell (p := ⟨q, 13, none⟩) (.inl (by simp)) _) ?_
        intro k hk hm
        have hk : g = k := by simpa [Value.ownBlock] using hk
        simp only [List.mem_singleton] at hm
        subst hk hm
        rcases hat with hat | hat
        · exact n2 hat
        · omega
      · exact nodup_grown hN hq (fun k hk => HLG.out k (by rw [HG.out]; exact mem3.2 (.inr (.inl hk)))) (hat.elim .inl (fun e => .inr (by omega)))
      · intro k hk
        rw [HG.out]
        rcases (mem3 (b := some g)).1 hk with hk | hk | hk
        · exact .inl (mem3.2 (.inl hk))
        · exact .inl (mem3.2 (.inr (.inl hk)))
        · have hk : g = k := by simpa using hk
          subst hk
          rcases hat with hat | hat
          · exact .inl (mem3.2 (.inr (.inr hat)))
          · exact .inr (by omega)
      · refine TT.more ?_
        intro k hk
        rw [HG.out]
        rcases mem2 hk with rfl | hk
        · exact mem3.2 (.inl rfl)
        · exact mem3.2 (.inr (.inr hk))
      · exact ((((HXq.out.alloc (.cells #[.int .i64 n] 3)).drew).grown hgrow (fun e => by have := hvr _ e.symm; omega)).setOther (a := ⟨q, 13, none⟩) (by show w.heap.size ≠ q; omega) _)
  case rest =>
    obtain ⟨g, hP1, hGk, hT1, hX1⟩ := hcut
    have hA1 := HA.out.touch hT1 (fun k hk hm => HFG.out k hm hk)
    have hFG1 : Hid (∀ k ∈ F, k ∉ q :: (vs.ownBlock.toList ++ [g])) := Lib.hid (fun k hk hm => (hGk k hm).elim (fun h => HFG.out k hk h) (fun h => by have := HLF.out k hk; omega))
    have HFB : Hid (∀ k ∈ F, k ≠ w.heap.size ∧ k ≠ q) := Lib.hid (fun k hk => ⟨fun e => by have := HLF.out k hk; omega, fun e => by subst e; exact hFG1.out k hk (by simp)⟩)
    have hq0 : Hid (wc.cell? ⟨q, 0, none⟩ = some (.pointer (some ⟨p, 0, none⟩))) := Lib.hid (by
      obtain ⟨us, ur, kb, _⟩ := hP1
      exact kb.cell 0)
    have HP1 := Lib.hid hP1
    have HGK := Lib.hid hGk
    have HT1 := Lib.hid hT1
    have HX1 := Lib.hid hX1
    have HA1 := Lib.hid hA1
    have hqc : Hid (q < wc.heap.size) := Lib.hid (Nat.lt_of_lt_of_le hq hT1.size)
    clear hP1 hGk hT1 hX1 hA1 hXq hBq hbq hrq y1 x5 hqx hlq hxq
    go_wp2
    go_loopw [7] (fun kk wr => ∃ (k : Nat) (F' : List Nat), k ≤ 4 ∧ kk = .int .i64 k ∧ RefAt wr p (d.wr (4 * n) S k).1 F' ∧ Hid ((d.wr (4 * n) S k).2 = 0) ∧ Touch F wc wr ∧ Grows F F' wc.heap.size) (fun kk _ => 4 - (intOf kk).toNat)
    case atStart => exact ⟨0, F, by omega, rfl, HA1.out, Lib.hid rfl, Touch.refl _ _, Grows.refl _ _⟩
    case round =>
      obtain ⟨k, F', hk, rfl, hAr, HE, hTr, hGr⟩ := hrel
      by_cases hk4 : k < 4
      · have t1 : decide (k < 4) = true := decide_eq_true hk4
        have x0 := (hTr.cell (p := ⟨q, 0, none⟩) hqc.out (fun hm => (HFB.out q hm).2 rfl)).trans hq0.out
        have y1 := (hTr.cell (p := ⟨w.heap.size, 1, none⟩) HX1.out.lt (fun hm => (HFB.out _ hm).1 rfl)).trans (HX1.out.cell 1)
        obtain ⟨P, hP⟩ : ∃ P, S.extract (128 * k) (128 * k + 128) = P := ⟨_, rfl⟩
        obtain ⟨dk, hdk⟩ : ∃ dk, (d.wr (4 * n) S k).1 = dk := ⟨_, rfl⟩
        rw [hdk] at hAr
        have okk : RD.Ok (K + k) dk := hdk ▸ RD.wr_ok OK.out _ _ _
        have W := ref_write wr.drew p dk F' (K + k) (by omega) okk (4 * n + k) P (hAr.touch (Touch.refl [] wr).drew (by simp))
        have hst : d.wr (4 * n) S (k + 1) = (dk.writeD (4 * n + k) P, dk.writeE (4 * n + k) P) := by rw [RD.wr, if_pos HE.out, hdk, hP]
        obtain ⟨E, hE⟩ : ∃ E, dk.writeE (4 * n + k) P = E := ⟨_, rfl⟩
        rw [hE] at W hst
        have HW := Lib.hid W
        have HST := Lib.hid hst
        have HTr := Lib.hid hTr
        have HGr := Lib.hid hGr
        have hLF : Hid (∀ k ∈ F', k < wr.heap.size) := Lib.hid hAr.lt
        have hFX : Hid (∀ k ∈ F', k ≠ w.heap.size ∧ k ≠ q) := Lib.hid (fun j hj => (hGr j hj).elim (HFB.out j) (fun h => ⟨fun e => by have := HX1.out.lt; omega, fun e => by have := hqc.out; omega⟩))
        have hwq : q < wr.heap.size := Nat.lt_of_lt_of_le hqc.out hTr.size
        have hwx : w.heap.size < wr.heap.size := Nat.lt_of_lt_of_le HX1.out.lt hTr.size
        clear W hst hAr hTr hGr okk hdk
        have m1 : IntKind.i64.wrap (4 * (n : Int)) = 4 * n := IntWalk.i64_in _ (by omega)
        have m2 : IntKind.i64.wrap (4 * (n : Int) + k) = 4 * n + k := IntWalk.i64_in _ (by omega)
        have m3 : IntKind.i64.wrap (128 * (k : Int)) = 128 * k := IntWalk.i64_in _ (by omega)
        have m4 : IntKind.i64.wrap (128 * (k : Int) + 128) = 128 * k + 128 := IntWalk.i64_in _ (by omega)
        have hsl : ∀ w, (Instr.slice 9 (.string S) (some (.int .i64 (128 * (k : Int)))) (some (.int .i64 (128 * (k : Int) + 128))) none).run Tryz.prog w = .ok (.string P) w := fun w => by
          rw [run_slice_string w 9 S .i64 .i64 (128 * (k : Int)) (128 * (k : Int) + 128) Tryz.underlying9 (by omega) (by omega) (by omega), show (128 * (k : Int)).toNat = 128 * k by omega, show (128 * (k : Int) + 128).toNat = 128 * k + 128 by omega, hP]
        by_cases hE0 : E = 0
        · have e1 : (E != 0) = false := by rw [hE0]; rfl
          go_wp2
          go_region_held3 (fun w' => w'.cell? ⟨q, 0, none⟩ = some (.pointer (some ⟨p, 0, none⟩)) ∧ w'.cell? ⟨w.heap.size, 1, none⟩ = some (.int .i64 n))
            (first | (go_keep; done) | exact KK.out)
            (first | (go_at_call 22; refine HW.out.mono ?_; rintro e w2 ⟨rfl, F2, hA2, hT2, hG2⟩; have KK := Lib.hid (And.intro ((hT2.cell (p := ⟨q, 0, none⟩) hwq (fun hm => (hFX.out q hm).2 rfl)).trans x0) ((hT2.cell (p := ⟨w.heap.size, 1, none⟩) hwx (fun hm => (hFX.out _ hm).1 rfl)).trans y1))))
          go_wp2
          go_roundw
          case rel => exact ⟨k + 1, F2, by omega, by go_num, by rw [HST.out]; exact hA2, by rw [HST.out]; exact Lib.hid hE0, HTr.out.trans ((Touch.refl F' wr).drew.trans hT2 (Grows.refl _ _)) HGr.out, HGr.out.trans hG2 HTr.out.size⟩
          case measure => simp [intOf]; omega
        · have e1 : (E != 0) = true := by simpa using hE0
          have hlast : d.wr (4 * n) S 4 = (dk.writeD (4 * n + k) P, E) := by
            have := RD.wr_stop d (4 * n) S (k + 1) (4 - (k + 1)) (by rw [HST.out]; exact hE0)
            rw [show k + 1 + (4 - (k + 1)) = 4 by omega, HST.out] at this
            exact this
          have HL := Lib.hid hlast
          clear hlast hE0
          go_wp2
          go_region_held3 (fun w' => w'.cell? ⟨q, 0, none⟩ = some (.pointer (some ⟨p, 0, none⟩)) ∧ w'.cell? ⟨w.heap.size, 1, none⟩ = some (.int .i64 n))
            (first | (go_keep; done) | exact KK.out)
            (first | (go_at_call 22; refine HW.out.mono ?_; rintro e w2 ⟨rfl, F2, hA2, hT2, hG2⟩; have KK := Lib.hid (And.intro ((hT2.cell (p := ⟨q, 0, none⟩) hwq (fun hm => (hFX.out q hm).2 rfl)).trans x0) ((hT2.cell (p := ⟨w.heap.size, 1, none⟩) hwx (fun hm => (hFX.out _ hm).1 rfl)).trans y1))))
          go_wp2
          go_ret
          rw [HL.out]
          exact rpg_end HT1.out HGK.out HP1.out hFG1.out hA2 (HTr.out.trans ((Touch.refl F' wr).drew.trans hT2 (Grows.refl _ _)) HGr.out) (HGr.out.trans hG2 HTr.out.size)
      · obtain rfl : k = 4 := by omega
        go_wp2
        go_ret
        rw [HE.out]
        exact rpg_end HT1.out HGK.out HP1.out hFG1.out hAr hTr hGr
theorem rwrite_ok (w : World) (p q : Nat) (d : RD) (s : PS) (F G : List Nat) (K : Nat) (hK : K ≤ 900000) (ok : RD.Ok K d) (sok : s.Ok) (hrow : s.row.length ≤ K) (x : PV) (hs : x.body.size ≤ 2000) (hA : RefAt w p d F) (hP : RefPg w q p s G) (hFG : ∀ k ∈ F, k ∉ G) :
    Calls Tryz.prog 36 #[.pointer (some ⟨q, 0, none⟩), x.val] w (Did2 RefAt RefPg w p q (F ++ G) (s.writeD d x) (s.writeS x) (.returned (.int .i64 (s.writeE d x)))) := by
  have hm := sok.m
  rw [MV.right_iff] at hm
  obtain ⟨lim, hlim⟩ := Int.eq_ofNat_of_zero_le (show 0 ≤ s.m.limit by omega)
  have c5 : w.cell? ⟨q, 5, none⟩ = some (.int .i64 lim) := by
    obtain ⟨vs, vr, hb, _⟩ := hP
    rw [← hlim]
    exact hb.cell 5
  cases hx : x.right
  · have h1 : s.mayWrite x = false := by unfold PS.mayWrite; rw [hx]; rfl
    refine (rwrite_bad w q x hx hs).mono ?_
    rintro _ w' ⟨rfl, hB⟩
    unfold PS.writeD PS.writeS PS.writeE
    rw [h1, hx]
    exact Did2.same (hA.touch (Touch.ofBelow hB) (by simp)) (hP.touch (Touch.ofBelow hB) (by simp)) hFG hB
  · by_cases hl : x.no < lim
    · have h1 : s.mayWrite x = true := by unfold PS.mayWrite; rw [hx, hlim, decide_eq_true hl]; rfl
      have := rwrite_in w p q d s F G K hK ok hrow x hx hA hP hFG lim hlim hl
      unfold PS.writeD PS.writeS PS.writeE
      rw [h1, hx, hlim, if_pos hl]
      exact this
    · have h1 : s.mayWrite x = false := by unfold PS.mayWrite; rw [hx, hlim, decide_eq_false hl]; rfl
      refine (rwrite_far w q x hx lim c5 hl).mono ?_
      rintro _ w' ⟨rfl, hB⟩
      unfold PS.writeD PS.writeS PS.writeE
      rw [h1, hx, hlim, if_neg hl]
      exact Did2.same (hA.touch (Touch.ofBelow hB) (by simp)) (hP.touch (Touch.ofBelow hB) (by simp)) hFG hB
end Go.Proofs.YtjgmlpfallakmaaGreat
end
section
namespace Go.Proofs.YtjgmlpfallakmaaGreat
open Go.RowKit
attribute [local go_sem ↓] Go.wp_at_zero Go.wp_at_succ
theorem infoM : (Tryz.prog.info? 40).map (fun i => (i.zero, i.size, i.bytes)) = some (some (.agg #[.int .i64 0, .int .i64 0, .int .i64 0, .int .i64 0, .int .i64 0]), 5, 40) := by kernel_rfl
set_option maxRecDepth 4000 in
set_option maxHeartbeats 1600000 in
theorem rseal_bad (w : World) (q : Nat) (m : MV) (hm : m.right = false) :
    Calls Tryz.prog 37 #[.pointer (some ⟨q, 0, none⟩), m.val] w fun e w' => e = .returned (.int .i64 4) ∧ Below w.heap.size w w' := by
  have PC := fun w => refPage.packM w m
  rw [show m.packE = 4 by unfold MV.packE; rw [hm]; rfl] at PC
  obtain ⟨S, hS⟩ : ∃ S, m.packS = S := ⟨_, rfl⟩
  rw [hS] at PC
  obtain ⟨mt, mr, mf, mp, ml⟩ := m
  unfold MV.val at PC ⊢
  simp only at PC ⊢
  have PC := fun w => Lib.hid (PC w)
  clear hm hS
  go_enter Tryz.func37, Tryz.ntmps37
  go_wp2_with fail
  refine (PC _).out.mono ?_
  rintro _ w1 ⟨rfl, hb1⟩
  have HB : Hid (Below w.heap.size w w1) := Lib.hid (((Below.refl _ w).alloc (Nat.le_refl _) _).trans (hb1.mono (by simp)))
  clear hb1
  go_wp2
  go_quiet (fail)
  go_wp2
  go_ret
  exact ⟨rfl, below_drewN2 HB.out _⟩
set_option maxRecDepth 4000 in
set_option maxHeartbeats 1600000 in
theorem rseal_lim (w : World) (q : Nat) (m : MV) (hm : m.right = true) (lim : Int) (c5 : w.cell? ⟨q, 5, none⟩ = some (.int .i64 lim)) (hl : m.limit ≠ lim) :
    Calls Tryz.prog 37 #[.pointer (some ⟨q, 0, none⟩), m.val] w fun e w' => e = .returned (.int .i64 4) ∧ Below w.heap.size w w' := by
  have PC := fun w => refPage.packM w m
  rw [show m.packE = 0 by unfold MV.packE; rw [hm]; rfl] at PC
  obtain ⟨S, hS⟩ : ∃ S, m.packS = S := ⟨_, rfl⟩
  rw [hS] at PC
  obtain ⟨mt, mr, mf, mp, ml⟩ := m
  simp only at hl
  unfold MV.val at PC ⊢
  simp only at PC ⊢
  have PC := fun w => Lib.hid (PC w)
  have d1 : (ml != lim) = true := by rw [bne_iff_ne]; exact hl
  have hq : q < w.heap.size := World.block_lt_of_cell? _ _ c5
  clear hm hS hl
  go_enter Tryz.func37, Tryz.ntmps37
  go_wp2_with fail
  refine (PC _).out.mono ?_
  rintro _ w1 ⟨rfl, hb1⟩
  have hX : Blk w1 w.heap.size #[.int .i64 mt, .int .i64 mr, .int .i64 mf, .int .i64 mp, .int .i64 ml] 40 := (hb1.block _ (by simp)).trans (heap_alloc_new w _)
  have y4 : w1.cell? ⟨w.heap.size, 4, none⟩ = some (.int .i64 ml) := hX.cell 4
  have HB : Hid (Below w.heap.size w w1) := Lib.hid (((Below.refl _ w).alloc (Nat.le_refl _) _).trans (hb1.mono (by simp)))
  have x5 := (HB.out.cell (p := ⟨q, 5, none⟩) hq).trans c5
  clear hb1 hX
  go_wp2
  go_quiet (fail)
  go_wp2
  go_ret
  exact ⟨rfl, below_drewN2 HB.out _⟩
set_option maxRecDepth 4000 in
set_option maxHeartbeats 1600000 in
theorem rseal_txn (w : World) (q : Nat) (m : MV) (hm : m.right = true) (c5 : w.cell? ⟨q, 5, none⟩ = some (.int .i64 m.limit)) (t : Nat) (ht : t ≤ 1099511627776) (c1 : w.cell? ⟨q, 1, none⟩ = some (.int .i64 t)) (hl : m.txn ≠ t + 1) :
    Calls Tryz.prog 37 #[.pointer (some ⟨q, 0, none⟩), m.val] w fun e w' => e = .returned (.int .i64 11) ∧ Below w.heap.size w w' := by
  have PC := fun w => refPage.packM w m
  rw [show m.packE = 0 by unfold MV.packE; rw [hm]; rfl] at PC
  obtain ⟨S, hS⟩ : ∃ S, m.packS = S := ⟨_, rfl⟩
  rw [hS] at PC
  obtain ⟨mt, mr, mf, mp, ml⟩ := m
  simp only at hl c5
  unfold MV.val at PC ⊢
  simp only at PC ⊢
  have PC := fun w => Lib.hid (PC w)
  have d1 : (ml != ml) = false := by simp
  have d2 : (mt != (t : Int) + 1) = true := by rw [bne_iff_ne]; exact hl
  have m1 : IntKind.i64.wrap ((t : Int) + 1) = t + 1 := IntWalk.i64_in _ (by omega)
  have hq : q < w.heap.size := World.block_lt_of_cell? _ _ c5
  clear hm hS hl
  go_enter Tryz.func37, Tryz.ntmps37
  go_wp2_with fail
  refine (PC _).out.mono ?_
  rintro _ w1 ⟨rfl, hb1⟩
  have hX : Blk w1 w.heap.size #[.int .i64 mt, .int .i64 mr, .int .i64 mf, .int .i64 mp, .int .i64 ml] 40 := (hb1.block _ (by simp)).trans (heap_alloc_new w _)
  have y4 : w1.cell? ⟨w.heap.size, 4, none⟩ = some (.int .i64 ml) := hX.cell 4
  have y0 : w1.cell? ⟨w.heap.size, 0, none⟩ = some (.int .i64 mt) := hX.cell 0
  have HB : Hid (Below w.heap.size w w1) := Lib.hid (((Below.refl _ w).alloc (Nat.le_refl _) _).trans (hb1.mono (by simp)))
  have x5 := (HB.out.cell (p := ⟨q, 5, none⟩) hq).trans c5
  have x1 := (HB.out.cell (p := ⟨q, 1, none⟩) hq).trans c1
  clear hb1 hX
  go_wp2
  go_quiet (fail)
  go_wp2
  go_quiet (fail)
  go_wp2
  go_ret
  exact ⟨rfl, below_drewN2 (below_drewN2 HB.out _) _⟩
set_option maxRecDepth 4000 in
set_option maxHeartbeats 1600000 in
theorem rseal_two (w : World) (q : Nat) (m : MV) (hm : m.right = true) (c5 : w.cell? ⟨q, 5, none⟩ = some (.int .i64 m.limit)) (t : Nat) (ht : t ≤ 1099511627776) (c1 : w.cell? ⟨q, 1, none⟩ = some (.int .i64 t)) (hl : m.txn = t + 1) (A : Option Addr) (cap : Nat) (c12 : w.cell? ⟨q, 12, none⟩ = some (.slice A 1 cap)) :
    Calls Tryz.prog 37 #[.pointer (some ⟨q, 0, none⟩), m.val] w fun e w' => e = .returned (.int .i64 11) ∧ Below w.heap.size w w' := by
  have PC := fun w => refPage.packM w m
  rw [show m.packE = 0 by unfold MV.packE; rw [hm]; rfl] at PC
  obtain ⟨S, hS⟩ : ∃ S, m.packS = S := ⟨_, rfl⟩
  rw [hS] at PC
  obtain ⟨mt, mr, mf, mp, ml⟩ := m
  simp only at hl c5
  unfold MV.val at PC ⊢
  simp only at PC ⊢
  have PC := fun w => Lib.hid (PC w)
  have d1 : (ml != ml) = false := by simp
  have d2 : (mt != (t : Int) + 1) = false := by rw [hl]; simp
  have m1 : IntKind.i64.wrap ((t : Int) + 1) = t + 1 := IntWalk.i64_in _ (by omega)
  have hq : q < w.heap.size := World.block_lt_of_cell? _ _ c5
  clear hm hS hl
  go_enter Tryz.func37, Tryz.ntmps37
  go_wp2_with fail
  refine (PC _).out.mono ?_
  rintro _ w1 ⟨rfl, hb1⟩
  have hX : Blk w1 w.heap.size #[.int .i64 mt, .int .i64 mr, .int .i64 mf, .int .i64 mp, .int .i64 ml] 40 := (hb1.block _ (by simp)).trans (heap_alloc_new w _)
  have y4 : w1.cell? ⟨w.heap.size, 4, none⟩ = some (.int .i64 ml) := hX.cell 4
  have y0 : w1.cell? ⟨w.heap.size, 0, none⟩ = some (.int .i64 mt) := hX.cell 0
  have HB : Hid (Below w.heap.size w w1) := Lib.hid (((Below.refl _ w).alloc (Nat.le_refl _) _).trans (hb1.mono (by simp)))
  have x5 := (HB.out.cell (p := ⟨q, 5, none⟩) hq).trans c5
  have x1 := (HB.out.cell (p := ⟨q, 1, none⟩) hq).trans c1
  have x12 := (HB.out.cell (p := ⟨q, 12, none⟩) hq).trans c12
  clear hb1 hX
  go_wp2
  go_quiet (fail)
  go_wp2
  go_quiet (fail)
  go_wp2
  go_ret
  exact ⟨rfl, below_drewN2 (below_drewN2 HB.out _) _⟩
set_option maxRecDepth 100000 in
set_option maxHeartbeats 3200000 in
theorem rseal_in (w : World) (p q : Nat) (d : RD) (s : PS) (F G : List Nat) (K : Nat) (hK : K ≤ 900000) (ok : RD.Ok K d) (m : MV) (hm : m.right = true) (hlim : m.limit = s.m.limit) (t : Nat) (ht : t ≤ 1099511627776) (hst : s.m.txn = t) (hl : m.txn = t + 1) (hse : s.seal_ = none)
    (hA : RefAt w p d F) (hP : RefPg w q p s G) (hFG : ∀ k ∈ F, k ∉ G) :
    Calls Tryz.prog 37 #[.pointer (some ⟨q, 0, none⟩), m.val] w (Did2 RefAt RefPg w p q (F ++ G) (d.writeD (m.txn % 2) m.packS) (if d.writeE (m.txn % 2) m.packS = 0 then { s with seal_ := some m } else s) (.returned (.int .i64 (d.writeE (m.txn % 2) m.packS)))) := by
  have PC := fun w => refPage.packM w m
  rw [show m.packE = 0 by unfold MV.packE; rw [hm]; rfl] at PC
  obtain ⟨S, hS⟩ : ∃ S, m.packS = S := ⟨_, rfl⟩
  rw [hS] at PC
  rw [hS]
  obtain ⟨mt, mr, mf, mp, ml⟩ := m
  simp only at hl hlim ⊢
  unfold MV.val at PC ⊢
  simp only at PC ⊢
  have PC := fun w => Lib.hid (PC w)
  have WC := fun w F (hw : RefAt w p d F) => ref_write w p d F K (by omega) ok (mt % 2) S hw
  obtain ⟨E, hE⟩ : ∃ E, d.writeE (mt % 2) S = E := ⟨_, rfl⟩
  obtain ⟨D, hD⟩ : ∃ D, d.writeD (mt % 2) S = D := ⟨_, rfl⟩
  simp only [hE, hD] at WC ⊢
  obtain ⟨S2, hS2⟩ : ∃ S2, (if E = 0 then ({ s with seal_ := some ⟨mt, mr, mf, mp, ml⟩ } : PS) else s) = S2 := ⟨_, rfl⟩
  rw [hS2]
  have HSS := Lib.hid hS2
  clear hS2
  have HWC := Lib.hid WC
  have d1 : (ml != ml) = false := by simp
  have d2 : (mt != (t : Int) + 1) = false := by rw [hl]; simp
  have m1 : IntKind.i64.wrap ((t : Int) + 1) = t + 1 := IntWalk.i64_in _ (by omega)
  have m2 : Int.tmod mt 2 = mt % 2 := by rw [hl]; exact Int.tmod_eq_emod_of_nonneg (by omega)
  have m3 : IntKind.i64.wrap (mt % 2) = mt % 2 := IntWalk.i64_in _ (by omega)
  have HA := Lib.hid hA
  have HP := Lib.hid hP
  have HFG := Lib.hid hFG
  have HLF := Lib.hid hA.lt
  have HLG := Lib.hid hP.lt
  obtain ⟨vs, vr, hb, hs, hr2, hG, hN⟩ := hP
  rw [hse] at hs
  rw [show pgCells s p vs vr = #[.pointer (some ⟨p, 0, none⟩), .int .i64 t, .int .i64 s.m.root, .int .i64 s.m.free, .int .i64 s.m.pages, .int .i64 ml, .int .i64 s.o.txn, .int .i64 s.o.root, .int .i64 s.o.free, .int .i64 s.o.pages, .int .i64 s.o.limit, .bool s.has, vs, vr] by unfold pgCells; rw [hst, hlim]] at hb
  have hq := hb.lt
  obtain ⟨i0, hi, hz0, hz1, hz2⟩ := info_parts infoM
  have HNE : Hid (some q ≠ vs.ownBlock) := Lib.hid (by
    intro e
    subst hG
    exact (sep3 hN).1 e.symm)
  have HS2 := Lib.hid hs
  have HR2 := Lib.hid hr2
  have HG := Lib.hid hG
  have HN := Lib.hid hN
  have HBL := Lib.hid hb
  have HST := Lib.hid (And.intro hst hlim)
  obtain ⟨SA, scap, hvs⟩ := ownsRow_slice hs
  have HVS : Hid (vs = .slice SA 0 scap) := Lib.hid hvs
  have HSE := Lib.hid hse
  clear hm hS hE hD hA hFG ok hs hG hN hr2 hvs hlim hst WC hl hse
  go_enter Tryz.func37, Tryz.ntmps37
  go_wp2_with fail
  refine (PC _).out.mono ?_
  rintro _ w1 ⟨rfl, hb1⟩
  have HX1 : Hid (Blk w1 w.heap.size #[.int .i64 mt, .int .i64 mr, .int .i64 mf, .int .i64 mp, .int .i64 ml] 40) := Lib.hid ((hb1.block _ (by simp)).trans (heap_alloc_new w _))
  have y4 : w1.cell? ⟨w.heap.size, 4, none⟩ = some (.int .i64 ml) := HX1.out.cell 4
  have y0 : w1.cell? ⟨w.heap.size, 0, none⟩ = some (.int .i64 mt) := HX1.out.cell 0
  have HB : Hid (Below w.heap.size w w1) := Lib.hid (((Below.refl _ w).alloc (Nat.le_refl _) _).trans (hb1.mono (by simp)))
  have hbp := hb.touch (Touch.ofBelow HB.out) (by simp)
  have x0 : w1.cell? ⟨q, 0, none⟩ = some (.pointer (some ⟨p, 0, none⟩)) := hbp.cell 0
  have x5 : w1.cell? ⟨q, 5, none⟩ = some (.int .i64 ml) := hbp.cell 5
  have x1 : w1.cell? ⟨q, 1, none⟩ = some (.int .i64 t) := hbp.cell 1
  have x12 : w1.cell? ⟨q, 12, none⟩ = some (.slice SA 0 scap) := by rw [← HVS.out]; exact hbp.cell 12
  clear hb1 hb hbp
  go_wp2
  go_quiet (fail)
  obtain ⟨n1, rfl⟩ : ∃ n1 : Nat, n1 = nq := ⟨_, rfl⟩
  go_wp2
  go_quiet (fail)
  go_upto_region 6 with fail
  obtain ⟨wq, hwq⟩ : ∃ wq, (w1.drewN n1).drewN nq = wq := ⟨_, rfl⟩
  have HBq : Hid (Below w.heap.size w wq) := Lib.hid (hwq ▸ below_drewN2 (below_drewN2 HB.out n1) _)
  have HXq : Hid (Blk wq w.heap.size #[.int .i64 mt, .int .i64 mr, .int .i64 mf, .int .i64 mp, .int .i64 ml] 40) := Lib.hid (hwq ▸ HX1.out)
  rw [hwq]
  clear hwq x0 x1 x5 x12 y0 y4
  have hbq := HBL.out.touch (Touch.ofBelow HBq.out) (by simp)
  have x0 : wq.cell? ⟨q, 0, none⟩ = some (.pointer (some ⟨p, 0, none⟩)) := hbq.cell 0
  have y0 : wq.cell? ⟨w.heap.size, 0, none⟩ = some (.int .i64 mt) := HXq.out.cell 0
  have hAq := HA.out.touch (Touch.ofBelow HBq.out) (by simp)
  have HWQ := Lib.hid (HWC.out wq.drew F (hAq.touch (Touch.refl [] wq).drew (by simp)))
  have hwq' : q < wq.heap.size := Nat.lt_of_lt_of_le hq HBq.out.size
  have hwx : w.heap.size < wq.heap.size := HXq.out.lt
  have HFX : Hid (∀ k ∈ F, k ≠ w.heap.size ∧ k ≠ q) := Lib.hid (fun k hk => ⟨fun e => by have := HLF.out k hk; omega, fun e => HFG.out k hk (by rw [HG.out, e]; simp)⟩)
  clear hbq hAq
  go_cut [6] (fun s6 wx => s6 = .int .i64 E ∧ ∃ F', RefAt wx p D F' ∧ Touch F wq wx ∧ Grows F F' wq.heap.size)
  case first =>
    go_region_held3 (fun w' => w'.cell? ⟨q, 0, none⟩ = some (.pointer (some ⟨p, 0, none⟩)) ∧ w'.cell? ⟨w.heap.size, 0, none⟩ = some (.int .i64 mt))
      (first | (go_keep; done) | exact KK.out)
      (first | (go_at_call 22; refine HWQ.out.mono ?_; rintro e w2 ⟨rfl, F2, hA2, hT2, hG2⟩; have KK := Lib.hid (And.intro ((hT2.cell (p := ⟨q, 0, none⟩) hwq' (fun hm => (HFX.out q hm).2 rfl)).trans x0) ((hT2.cell (p := ⟨w.heap.size, 0, none⟩) hwx (fun hm => (HFX.out _ hm).1 rfl)).trans y0))))
    go_wp2
    go_meet
    exact ⟨rfl, F2, hA2, (Touch.refl F wq).drew.trans hT2 (Grows.refl _ _), hG2⟩
  case rest =>
    obtain ⟨rfl, F', hA', hT', hG'⟩ := hcut
    have hbc := (HBL.out.touch (Touch.ofBelow HBq.out) (by simp)).touch hT' (fun hm => (HFX.out _ hm).2 rfl)
    have hxc := HXq.out.touch hT' (fun hm => (HFX.out _ hm).1 rfl)
    by_cases hE0 : E = 0
    · have e1 : (E == 0) = true := by rw [beq_iff_eq]; exact hE0
      have hS2 : S2 = { s with seal_ := some ⟨mt, mr, mf, mp, ml⟩ } := by rw [← HSS.out, if_pos hE0]
      have HS3 := Lib.hid hS2
      have hTq : Touch F w wc := ((Touch.ofBelow HBq.out).more (S' := F) (by simp)).trans hT' (Grows.refl _ _)
      have hGF : Hid (∀ k ∈ G, k ∉ F) := Lib.hid (fun k hk hm => HFG.out k hm hk)
      have hsc : wc.ownsRow 0 40 5 vs 0 [] := ownsRow_touch (show w.ownsRow 0 40 5 vs 0 [] from HS2.out) hTq (fun k hk hm => hGF.out k (by rw [HG.out]; exact mem3.2 (.inr (.inl hk))) hm)
      have HTQ := Lib.hid hTq
      have HX2 := Lib.hid hxc
      have HAp := Lib.hid hA'
      have HT' := Lib.hid hT'
      have HG' := Lib.hid hG'
      have y0 : wc.cell? ⟨w.heap.size, 0, none⟩ = some (.int .i64 mt) := HX2.out.cell 0
      have y1 : wc.cell? ⟨w.heap.size, 1, none⟩ = some (.int .i64 mr) := HX2.out.cell 1
      have y2 : wc.cell? ⟨w.heap.size, 2, none⟩ = some (.int .i64 mf) := HX2.out.cell 2
      have y3 : wc.cell? ⟨w.heap.size, 3, none⟩ = some (.int .i64 mp) := HX2.out.cell 3
      have y4 : wc.cell? ⟨w.heap.size, 4, none⟩ = some (.int .i64 ml) := HX2.out.cell 4
      have x12 : wc.cell? ⟨q, 12, none⟩ = some vs := hbc.cell 12
      have hlq := hbc.lt
      have hlx := HX2.out.lt
      clear hS2 hE0 hTq hxc hA' hT' hG' x0 hwq' hwx
      go_upto_region 8 with fail
      go_region_law
        ((refine step_append_lies _ (by rfl) _ _ _ (by rfl) 0 40 i0 _ 5 40 Tryz.underlying55 hi hz0 hz1 hz2 rfl (by omega) vs 0 [] (by rfl) (hsc.alloc _)
              ⟨wc.heap.size, 0, none⟩ 1 1 [.int .i64 mt, .int .i64 mr, .int .i64 mf, .int .i64 mp, .int .i64 ml] (by rfl) (by rfl) (World.news_of_block (heap_alloc_new wc _)) (by simp [Value.oneCell'])
              (by omega) (by simp [maxLen]) (by omega) (by simp) (wc.heap.size + 1) (by simp) ?_; intro g cap w2 hown2 hgrow hat hlt2; have kb2 := ((hbc.alloc (.cells #[.int .i64 mt, .int .i64 mr, .int .i64 mf, .int .i64 mp, .int .i64 ml] 40)).drew).grown hgrow HNE.out; have g0 : w2.cell? ⟨q, 12, none⟩ = some vs := kb2.cell 12; have g1 := kb2.free 12; have g2 := kb2.lt))
      all_goals
        go_wp2
        go_ret
        rw [HS3.out]
        have TT : Touch (q :: vs.ownBlock.toList) wc (w2.setCell ⟨q, 12, none⟩ (.slice (some ⟨g, 0, none⟩) (0 + 1) cap)) :=
          ((((Touch.refl (q :: vs.ownBlock.toList) wc).alloc _).drew.grown hgrow (by intro k hk; left; simp [hk])).setCell (p := ⟨q, 12, none⟩) (.inl (by simp)) _)
        have TW : Touch (F ++ q :: vs.ownBlock.toList) w (w2.setCell ⟨q, 12, none⟩ (.slice (some ⟨g, 0, none⟩) (0 + 1) cap)) :=
          (HTQ.out.more (fun k hk => List.mem_append_left _ hk)).trans (TT.more (fun k hk => List.mem_append_right _ hk)) (Grows.refl _ _)
        have hN := HN.out
        rw [HG.out] at hN
        obtain ⟨n1, n2, n3⟩ := sep3 hN
        have inG : ∀ k ∈ q :: vs.ownBlock.toList, k ∈ G := fun k hk => by
          rw [HG.out]
          rcases mem2 hk with rfl | hk
          · exact mem3.2 (.inl rfl)
          · exact mem3.2 (.inr (.inl hk))
        have hs5 := HBq.out.size
        have hs6 := HT'.out.size
        have gin : g ∈ G ∨ w.heap.size ≤ g ∧ wc.heap.size ≤ g := by
          rcases hat with hat | hat
          · exact .inl (by rw [HG.out]; exact mem3.2 (.inr (.inl hat)))
          · exact .inr (by omega)
        refine ⟨rfl, F', q :: ((some g).toList ++ vr.ownBlock.toList), HAp.out.touch TT ?_, ⟨.slice (some ⟨g, 0, none⟩) (0 + 1) cap, vr, ?_, ?_, ?_, rfl, ?_⟩, ?_, ?_, ?_⟩
        · intro k hk hm
          rcases HG'.out k hm with h | h
          · exact HFG.out k h (inG k hk)
          · have := HLG.out k (inG k hk); omega
        · have := kb2.set 12 (.slice (some ⟨g, 0, none⟩) (0 + 1) cap)
          unfold pgCells
          rw [HST.out.1, ← HST.out.2]
          exact this
        · refine ownsRow_touch (S := [q]) hown2 ((Touch.refl [q] w2).setCell (p := ⟨q, 12, none⟩) (.inl (by simp)) _) ?_
          intro k hk hm
          have hk : g = k := by simpa [Value.ownBlock] using hk
          simp only [List.mem_singleton] at hm
          subst hk hm
          rcases hat with hat | hat
          · exact n1 hat
          · omega
        · refine ownsRow_touch HR2.out TW ?_
          intro k hk hm
          have hkG : k ∈ G := by rw [HG.out]; exact mem3.2 (.inr (.inr hk))
          rcases List.mem_append.1 hm with hm | hm
          · exact HFG.out k hm hkG
          · rcases mem2 hm with rfl | hm
            · exact n2 hk
            · exact n3 k hm hk
        · exact nodup_first hN hq (fun k hk => HLG.out k (by rw [HG.out]; exact mem3.2 (.inr (.inr hk)))) (hat.elim .inl (fun e => .inr (by omega)))
        · intro k hk hm
          have hkc := HAp.out.lt k hk
          rcases HG'.out k hk with h | h
          · rcases (mem3 (a := some g)).1 hm with rfl | hm | hm
            · exact HFG.out _ h (by rw [HG.out]; simp)
            · have : g = k := by simpa using hm
              subst this
              rcases gin with gin | gin
              · exact HFG.out _ h gin
              · have := HLF.out _ h; omega
            · exact HFG.out _ h (by rw [HG.out]; exact mem3.2 (.inr (.inr hm)))
          · rcases (mem3 (a := some g)).1 hm with rfl | hm | hm
            · omega
            · have : g = k := by simpa using hm
              subst this
              rcases gin with gin | gin
              · have := HLG.out _ gin; omega
              · omega
            · have := HLG.out k (by rw [HG.out]; exact mem3.2 (.inr (.inr hm))); omega
        · refine TW.more ?_
          intro k hk
          rcases List.mem_append.1 hk with hk | hk
          · exact List.mem_append_left _ hk
          · exact List.mem_append_right _ (inG k hk)
        · intro k hk
          rcases List.mem_append.1 hk with hk | hk
          · exact (HG'.out k hk).elim (fun h => .inl (List.mem_append_left _ h)) (fun h => .inr (by omega))
          · rcases (mem3 (a := some g)).1 hk with rfl | hk | hk
            · exact .inl (List.mem_append_right _ (by rw [HG.out]; simp))
            · have : g = k := by simpa using hk
              subst this
              exact gin.elim (fun h => .inl (List.mem_append_right _ h)) (fun h => .inr h.1)
            · exact .inl (List.mem_append_right _ (by rw [HG.out]; exact mem3.2 (.inr (.inr hk))))
    · have e1 : (E == 0) = false := by rw [beq_eq_false_iff_ne]; exact hE0
      have hS2 : S2 = s := by rw [← HSS.out, if_neg hE0]
      have HS3 := Lib.hid hS2
      clear hS2
      go_wp2
      go_ret
      rw [HS3.out]
      exact rpg_end ((Touch.ofBelow HBq.out).more (by simp)) (fun k hk => .inl hk) (HP.out.touch (Touch.ofBelow HBq.out) (by simp)) HFG.out hA' hT' hG'
theorem rseal_ok (w : World) (p q : Nat) (d : RD) (s : PS) (F G : List Nat) (K : Nat) (hK : K ≤ 900000) (ok : RD.Ok K d) (sok : s.Ok) (m : MV) (hA : RefAt w p d F) (hP : RefPg w q p s G) (hFG : ∀ k ∈ F, k ∉ G) :
    Calls Tryz.prog 37 #[.pointer (some ⟨q, 0, none⟩), m.val] w (Did2 RefAt RefPg w p q (F ++ G) (s.sealD d m) (s.sealS d m) (.returned (.int .i64 (s.sealE d m)))) := by
  have hm := sok.m
  rw [MV.right_iff] at hm
  obtain ⟨t, ht⟩ := Int.eq_ofNat_of_zero_le (show 0 ≤ s.m.txn by omega)
  have cells : w.cell? ⟨q, 5, none⟩ = some (.int .i64 s.m.limit) ∧ w.cell? ⟨q, 1, none⟩ = some (.int .i64 t) ∧ (s.seal_.isSome = true → ∃ A cap, w.cell? ⟨q, 12, none⟩ = some (.slice A 1 cap)) := by
    obtain ⟨vs, vr, hb, hs, _⟩ := hP
    refine ⟨hb.cell 5, by rw [← ht]; exact hb.cell 1, fun h => ?_⟩
    obtain ⟨A, cap, rfl⟩ := ownsRow_slice hs
    cases hse : s.seal_ with
    | none => rw [hse] at h; cases h
    | some x => exact ⟨A, cap, by have := hb.cell 12; rw [hse] at this; exact this⟩
  obtain ⟨c5, c1, c12⟩ := cells
  have stay : ∀ (e : Ending) (w' : World), Below w.heap.size w w' → Did2 RefAt RefPg w p q (F ++ G) d s e e w' := fun e w' hB => Did2.same (hA.touch (Touch.ofBelow hB) (by simp)) (hP.touch (Touch.ofBelow hB) (by simp)) hFG hB
  cases hr : m.right
  · have h1 : s.maySeal m = false := by unfold PS.maySeal; rw [hr]; rfl
    refine (rseal_bad w q m hr).mono ?_
    rintro _ w' ⟨rfl, hB⟩
    unfold PS.sealD PS.sealS PS.sealE
    rw [h1, hr]
    exact stay _ _ hB
  · by_cases hl : m.limit = s.m.limit
    case neg =>
      have h1 : s.maySeal m = false := by unfold PS.maySeal; rw [decide_eq_false hl]; simp
      refine (rseal_lim w q m hr _ c5 hl).mono ?_
      rintro _ w' ⟨rfl, hB⟩
      unfold PS.sealD PS.sealS PS.sealE
      rw [h1, decide_eq_false hl, Bool.and_false]
      exact stay _ _ hB
    by_cases htx : m.txn = t + 1
    case neg =>
      have h1 : s.maySeal m = false := by unfold PS.maySeal; rw [ht, decide_eq_false htx]; simp
      refine (rseal_txn w q m hr (hl ▸ c5) t (by omega) c1 htx).mono ?_
      rintro _ w' ⟨rfl, hB⟩
      unfold PS.sealD PS.sealS PS.sealE
      rw [h1, hr, decide_eq_true hl]
      exact stay _ _ hB
    cases hse : s.seal_ with
    | some x =>
      have h1 : s.maySeal m = false := by unfold PS.maySeal; rw [hse]; simp
      obtain ⟨A, cap, c12⟩ := c12 (by rw [hse]; rfl)
      refine (rseal_two w q m hr (hl ▸ c5) t (by omega) c1 htx A cap c12).mono ?_
      rintro _ w' ⟨rfl, hB⟩
      unfold PS.sealD PS.sealS PS.sealE
      rw [h1, hr, decide_eq_true hl]
      exact stay _ _ hB
    | none =>
      obtain ⟨h1, h2⟩ := RD.maySeal_of (s := s) hr hl (by rw [ht]; exact htx) hse
      obtain ⟨e1, e2, e3⟩ := RD.seal_e (d := d) h1 h2
      rw [e1, e2, e3]
      exact rseal_in w p q d s F G K hK ok m hr hl t (by omega) ht htx hse hA hP hFG
end Go.Proofs.YtjgmlpfallakmaaGreat
end
section
namespace Go.Proofs.YtjgmlpfallakmaaGreat
open Go.RowKit
set_option maxRecDepth 100000 in
set_option maxHeartbeats 1600000 in
theorem rdone_none (w : World) (q : Nat) (A : Option Addr) (cap : Nat) (c12 : w.cell? ⟨q, 12, none⟩ = some (.slice A 0 cap)) :
    Calls Tryz.prog 38 #[.pointer (some ⟨q, 0, none⟩)] w fun e w' => e = .returned (.int .i64 11) ∧ w = w' := by
  go_enter Tryz.func38, Tryz.ntmps38
  go_wp2
  go_ret
  exact ⟨rfl, rfl⟩
theorem stored12 {w : World} {q p : Nat} {s : PS} {vs vr : Value} (h : Blk w q (pgCells s p vs vr) 57) (x : MV) :
    Blk ((((((((((((w.setCell ⟨q, 6, none⟩ (.int .i64 s.m.txn)).setCell ⟨q, 7, none⟩ (.int .i64 s.m.root)).setCell ⟨q, 8, none⟩ (.int .i64 s.m.free)).setCell ⟨q, 9, none⟩ (.int .i64 s.m.pages)).setCell ⟨q, 10, none⟩ (.int .i64 s.m.limit)).setCell ⟨q, 11, none⟩ (.bool true)).setCell
      ⟨q, 1, none⟩ (.int .i64 x.txn)).setCell ⟨q, 2, none⟩ (.int .i64 x.root)).setCell ⟨q, 3, none⟩ (.int .i64 x.free)).setCell ⟨q, 4, none⟩ (.int .i64 x.pages)).setCell ⟨q, 5, none⟩ (.int .i64 x.limit)).setCell ⟨q, 12, none⟩ (.slice none 0 0)) q
      (pgCells { s with m := x, o := s.m, has := true, seal_ := none } p (.slice none 0 0) vr) 57 ∧
    Touch [q] w ((((((((((((w.setCell ⟨q, 6, none⟩ (.int .i64 s.m.txn)).setCell ⟨q, 7, none⟩ (.int .i64 s.m.root)).setCell ⟨q, 8, none⟩ (.int .i64 s.m.free)).setCell ⟨q, 9, none⟩ (.int .i64 s.m.pages)).setCell ⟨q, 10, none⟩ (.int .i64 s.m.limit)).setCell ⟨q, 11, none⟩ (.bool true)).setCell
      ⟨q, 1, none⟩ (.int .i64 x.txn)).setCell ⟨q, 2, none⟩ (.int .i64 x.root)).setCell ⟨q, 3, none⟩ (.int .i64 x.free)).setCell ⟨q, 4, none⟩ (.int .i64 x.pages)).setCell ⟨q, 5, none⟩ (.int .i64 x.limit)).setCell ⟨q, 12, none⟩ (.slice none 0 0)) := by
  have t : ∀ (w' : World) (i : Nat) (v : Value), Touch [q] w w' → Touch [q] w (w'.setCell ⟨q, i, none⟩ v) := fun w' i v h => h.setCell (p := ⟨q, i, none⟩) (.inl (by simp)) v
  have hh := (((((((((((h.set 6 (.int .i64 s.m.txn)).set 7 (.int .i64 s.m.root)).set 8 (.int .i64 s.m.free)).set 9 (.int .i64 s.m.pages)).set 10 (.int .i64 s.m.limit)).set 11 (.bool true)).set 1 (.int .i64 x.txn)).set 2 (.int .i64 x.root)).set 3 (.int .i64 x.free)).set 4 (.int .i64 x.pages)).set 5 (.int .i64 x.limit)).set 12 (.slice none 0 0)
  refine ⟨?_, ?_⟩
  · simpa only [pgCells, List.setIfInBounds_toArray, List.set_cons_zero, List.set_cons_succ] using hh
  · exact t _ _ _ (t _ _ _ (t _ _ _ (t _ _ _ (t _ _ _ (t _ _ _ (t _ _ _ (t _ _ _ (t _ _ _ (t _ _ _ (t _ _ _ (t _ _ _ (Touch.refl _ _))))))))))))
theorem end2 {w w1 w' : World} {p q : Nat} {F F' G G2 : List Nat} {D : RD} {s' : PS} {e : Ending} (hA : RefAt w1 p D F') (hT : Touch F w w1) (hG : Grows F F' w.heap.size) (hFG : ∀ k ∈ F, k ∉ G) (ltG : ∀ k ∈ G, k < w.heap.size)
    (TT : Touch G w1 w') (hP : RefPg w' q p s' G2) (hG2 : ∀ k ∈ G2, k ∈ G) : Did2 RefAt RefPg w p q (F ++ G) D s' e e w' := by
  have dis : ∀ k ∈ F', k ∉ G := fun k hk hm => by
    rcases hG k hk with h | h
    · exact hFG k h hm
    · have := ltG k hm; omega
  refine ⟨rfl, F', G2, hA.touch TT (fun k hk hm => dis k hm hk), hP, fun k hk hm => dis k hk (hG2 k hm), ?_, ?_⟩
  · exact (hT.more (fun k hk => List.mem_append_left _ hk)).trans (TT.more (fun k hk => List.mem_append_right _ hk)) (Grows.refl _ _)
  · intro k hk
    rcases List.mem_append.1 hk with hk | hk
    · exact (hG k hk).elim (fun h => .inl (List.mem_append_left _ h)) .inr
    · exact .inl (List.mem_append_right _ (hG2 k hk))
set_option maxRecDepth 100000 in
set_option maxHeartbeats 3200000 in
theorem rdone_in (w : World) (p q : Nat) (d : RD) (s : PS) (F G : List Nat) (K : Nat) (hK : K ≤ 900000) (ok : RD.Ok K d) (x : MV) (hse : s.seal_ = some x) (hA : RefAt w p d F) (hP : RefPg w q p s G) (hFG : ∀ k ∈ F, k ∉ G) :
    Calls Tryz.prog 38 #[.pointer (some ⟨q, 0, none⟩)] w (Did2 RefAt RefPg w p q (F ++ G) d.syncD (if d.syncE = 0 then { s with m := x, o := s.m, has := true, seal_ := none } else s) (.returned (.int .i64 d.syncE))) := by
  have WC := ref_sync w p d F K (by omega) ok hA
  obtain ⟨E, hE⟩ : ∃ E, d.syncE = E := ⟨_, rfl⟩
  obtain ⟨D, hD⟩ : ∃ D, d.syncD = D := ⟨_, rfl⟩
  simp only [hE, hD] at WC ⊢
  obtain ⟨S2, hS2⟩ : ∃ S2, (if E = 0 then ({ s with m := x, o := s.m, has := true, seal_ := none } : PS) else s) = S2 := ⟨_, rfl⟩
  rw [hS2]
  have HSS := Lib.hid hS2
  have HWC := Lib.hid WC
  have HP := Lib.hid hP
  have HFG := Lib.hid hFG
  have HLF := Lib.hid hA.lt
  have HLG := Lib.hid hP.lt
  obtain ⟨vs, vr, hb, hs, hr2, hG, hN⟩ := hP
  rw [hse] at hs
  obtain ⟨mt, mr, mf, mp, ml⟩ := x
  have hs : w.ownsRow 0 40 5 vs 1 [.int .i64 mt, .int .i64 mr, .int .i64 mf, .int .i64 mp, .int .i64 ml] := hs
  obtain ⟨g, cap, rfl, _, hgl⟩ := hs.form (by omega)
  have hgq : g ≠ q := by
    intro e
    subst hG e
    exact (sep3 hN).1 rfl
  have hq := hb.lt
  have HBL := Lib.hid hb
  have HS2 := Lib.hid hs
  have HR2 := Lib.hid hr2
  have HG := Lib.hid hG
  have HN := Lib.hid hN
  have x0 : w.cell? ⟨q, 0, none⟩ = some (.pointer (some ⟨p, 0, none⟩)) := hb.cell 0
  have x12 : w.cell? ⟨q, 12, none⟩ = some (.slice (some ⟨g, 0, none⟩) 1 cap) := hb.cell 12
  have HFX : Hid (∀ k ∈ F, k ≠ q ∧ k ≠ g) := Lib.hid (fun k hk => ⟨fun e => HFG.out k hk (by rw [HG.out, e]; simp), fun e => HFG.out k hk (by rw [HG.out, e]; simp [Value.ownBlock])⟩)
  have z0 : w.cell? ⟨g, 0, none⟩ = some (.int .i64 mt) := hs.cellAt 0 (by omega)
  have z1 : w.cell? ⟨g, 1, none⟩ = some (.int .i64 mr) := hs.cellAt 1 (by omega)
  have z2 : w.cell? ⟨g, 2, none⟩ = some (.int .i64 mf) := hs.cellAt 2 (by omega)
  have z3 : w.cell? ⟨g, 3, none⟩ = some (.int .i64 mp) := hs.cellAt 3 (by omega)
  have z4 : w.cell? ⟨g, 4, none⟩ = some (.int .i64 ml) := hs.cellAt 4 (by omega)
  have HZ := Lib.hid (And.intro z0 (And.intro z1 (And.intro z2 (And.intro z3 z4))))
  clear z0 z1 z2 z3 z4 hS2 hE hD WC hFG hA hG hN hs hr2 hb hse ok
  by_cases hE0 : E = 0
  · have e1 : (E == 0) = true := by rw [beq_iff_eq]; exact hE0
    have HS3 : Hid (S2 = { s with m := ⟨mt, mr, mf, mp, ml⟩, o := s.m, has := true, seal_ := none }) := Lib.hid (by rw [← HSS.out, if_pos hE0])
    clear hE0
    go_enter Tryz.func38, Tryz.ntmps38
    go_wp2_with fail
    refine HWC.out.mono ?_
    rintro _ w1 ⟨rfl, F', hA', hT', hG'⟩
    have hbc := HBL.out.touch hT' (fun hm => (HFX.out _ hm).1 rfl)
    have HT' := Lib.hid hT'
    have HA' := Lib.hid hA'
    have HG' := Lib.hid hG'
    have x1 : w1.cell? ⟨q, 1, none⟩ = some (.int .i64 s.m.txn) := hbc.cell 1
    have x2 : w1.cell? ⟨q, 2, none⟩ = some (.int .i64 s.m.root) := hbc.cell 2
    have x3 : w1.cell? ⟨q, 3, none⟩ = some (.int .i64 s.m.free) := hbc.cell 3
    have x4 : w1.cell? ⟨q, 4, none⟩ = some (.int .i64 s.m.pages) := hbc.cell 4
    have x5 : w1.cell? ⟨q, 5, none⟩ = some (.int .i64 s.m.limit) := hbc.cell 5
    have x12 : w1.cell? ⟨q, 12, none⟩ = some (.slice (some ⟨g, 0, none⟩) 1 cap) := hbc.cell 12
    have y6 : w1.cell? ⟨q, 6, none⟩ = some (.int .i64 s.o.txn) := hbc.cell 6
    have y7 : w1.cell? ⟨q, 7, none⟩ = some (.int .i64 s.o.root) := hbc.cell 7
    have y8 : w1.cell? ⟨q, 8, none⟩ = some (.int .i64 s.o.free) := hbc.cell 8
    have y9 : w1.cell? ⟨q, 9, none⟩ = some (.int .i64 s.o.pages) := hbc.cell 9
    have y10 : w1.cell? ⟨q, 10, none⟩ = some (.int .i64 s.o.limit) := hbc.cell 10
    have y11 : w1.cell? ⟨q, 11, none⟩ = some (.bool s.has) := hbc.cell 11
    have z0 : w1.cell? ⟨g, 0, none⟩ = some (.int .i64 mt) := (hT'.cell (p := ⟨g, 0, none⟩) hgl (fun hm => (HFX.out _ hm).2 rfl)).trans HZ.out.1
    have z1 : w1.cell? ⟨g, 1, none⟩ = some (.int .i64 mr) := (hT'.cell (p := ⟨g, 1, none⟩) hgl (fun hm => (HFX.out _ hm).2 rfl)).trans HZ.out.2.1
    have z2 : w1.cell? ⟨g, 2, none⟩ = some (.int .i64 mf) := (hT'.cell (p := ⟨g, 2, none⟩) hgl (fun hm => (HFX.out _ hm).2 rfl)).trans HZ.out.2.2.1
    have z3 : w1.cell? ⟨g, 3, none⟩ = some (.int .i64 mp) := (hT'.cell (p := ⟨g, 3, none⟩) hgl (fun hm => (HFX.out _ hm).2 rfl)).trans HZ.out.2.2.2.1
    have z4 : w1.cell? ⟨g, 4, none⟩ = some (.int .i64 ml) := (hT'.cell (p := ⟨g, 4, none⟩) hgl (fun hm => (HFX.out _ hm).2 rfl)).trans HZ.out.2.2.2.2
    have f1 := hbc.free 1
    have f2 := hbc.free 2
    have f3 := hbc.free 3
    have f4 := hbc.free 4
    have f5 := hbc.free 5
    have f6 := hbc.free 6
    have f7 := hbc.free 7
    have f8 := hbc.free 8
    have f9 := hbc.free 9
    have f10 := hbc.free 10
    have f11 := hbc.free 11
    have f12 := hbc.free 12
    have hlq := hbc.lt
    have HBC := Lib.hid hbc
    clear hbc hT' hA' hG'
    go_wp2
    go_ret
    rw [HS3.out]
    obtain ⟨K1, K2⟩ := stored12 HBC.out (⟨mt, mr, mf, mp, ml⟩ : MV)
    have hN := HN.out
    rw [HG.out] at hN
    obtain ⟨n1, n2, n3⟩ := sep3 hN
    have inG : ∀ k ∈ q :: ((none : Option Nat).toList ++ vr.ownBlock.toList), k ∈ G := fun k hk => by
      rw [HG.out]
      rcases (mem3 (a := none)).1 hk with rfl | hk | hk
      · exact mem3.2 (.inl rfl)
      · cases hk
      · exact mem3.2 (.inr (.inr hk))
    have qG : q ∈ G := inG q (by simp)
    refine end2 HA'.out HT'.out HG'.out HFG.out HLG.out (K2.more (by intro k hk; simp only [List.mem_singleton] at hk; rw [hk]; exact qG)) ⟨_, vr, K1, World.ownsRow_nil _ _ _ _, ?_, rfl, ?_⟩ inG
    · refine ownsRow_touch HR2.out ((HT'.out.more (S' := F ++ [q]) (fun k hk => List.mem_append_left _ hk)).trans (K2.more (by simp)) (Grows.refl _ _)) ?_
      intro k hk hm
      have hkG : k ∈ G := by rw [HG.out]; exact mem3.2 (.inr (.inr hk))
      rcases List.mem_append.1 hm with hm | hm
      · exact HFG.out k hm hkG
      · simp only [List.mem_singleton] at hm
        subst hm
        exact n2 hk
    · show List.Nodup (q :: ([] ++ vr.ownBlock.toList))
      cases hv : vr.ownBlock with
      | none => simp
      | some k =>
        rw [hv] at n2
        have : q ≠ k := fun e => n2 (by rw [e])
        simpa using this
  · have e1 : (E == 0) = false := by rw [beq_eq_false_iff_ne]; exact hE0
    have HS3 : Hid (S2 = s) := Lib.hid (by rw [← HSS.out, if_neg hE0])
    clear hE0
    go_enter Tryz.func38, Tryz.ntmps38
    go_wp2_with fail
    refine HWC.out.mono ?_
    rintro _ w1 ⟨rfl, F', hA', hT', hG'⟩
    go_wp2
    go_ret
    rw [HS3.out]
    exact rpg_end (Touch.refl G w) (fun k hk => .inl hk) HP.out HFG.out hA' hT' hG'
theorem rdone_ok (w : World) (p q : Nat) (d : RD) (s : PS) (F G : List Nat) (K : Nat) (hK : K ≤ 900000) (ok : RD.Ok K d) (hA : RefAt w p d F) (hP : RefPg w q p s G) (hFG : ∀ k ∈ F, k ∉ G) :
    Calls Tryz.prog 38 #[.pointer (some ⟨q, 0, none⟩)] w (Did2 RefAt RefPg w p q (F ++ G) (s.doneD d) (s.doneS d) (.returned (.int .i64 (s.doneE d)))) := by
  cases hse : s.seal_ with
  | some x =>
    obtain ⟨e1, e2, e3⟩ := RD.done_e (d := d) hse
    rw [e1, e2, e3]
    exact rdone_in w p q d s F G K hK ok x hse hA hP hFG
  | none =>
    have hP2 := hP
    obtain ⟨vs, vr, hb, hs, _⟩ := hP2
    obtain ⟨A, cap, rfl⟩ := ownsRow_slice hs
    have c12 := hb.cell 12
    rw [hse] at c12
    refine (rdone_none w q A cap c12).mono ?_
    rintro _ w' ⟨rfl, rfl⟩
    unfold PS.doneE PS.doneD PS.doneS
    rw [hse]
    exact Did2.same hA hP hFG (Below.refl _ _)
/-- the reference's pager -/
theorem refPg : PgCore RefAt RefPg 7 8 16 36 37 38 where
  lt := RefPg.lt
  touch := RefPg.touch
  format := fun w p d F K hK ok n h => rformat_ok w p d F K hK ok n h
  open_ := fun w p d F K hK ok _ h => ropen_ok w p d F K hK ok h
  read := fun w p q d s F G K hK ok hf sok no hA hP => rread_ok w p q d s F G K hK ok hf sok no hA hP
  write := fun w p q d s F G K hK ok sok hr x hx hA hP hFG => rwrite_ok w p q d s F G K hK ok sok hr x hx hA hP hFG
  seal_ := fun w p q d s F G K hK ok sok m hA hP hFG => rseal_ok w p q d s F G K hK ok sok m hA hP hFG
  done := fun w p q d s F G K hK ok _ hA hP hFG => rdone_ok w p q d s F G K hK ok hA hP hFG
end Go.Proofs.YtjgmlpfallakmaaGreat
end
