/-
  Contracts of the landed pager's helpers: sectors read and written in a row, a meta written, a place for a meta; over any device and page that meet the kits. Conditions: at most 990000 calls before.
  Contracts of the landed pager: a place for a meta, Format; over any device and page that meet the kits. Conditions: at most 900000 calls before.
  Contracts of the landed pager: its representation; Meta, Other, Log, Sync; over any device that meets its kit. Conditions: at most 900000 calls before.
  Contracts of the landed pager: Open; over any device and page that meet the kits. Conditions: at most 900000 calls before.
  Contracts of the landed pager: Read; over any device and page that meet the kits. Conditions: at most 900000 calls before.
  Contracts of the landed pager: Write; over any device and page that meet the kits. Conditions: at most 900000 calls before.
  Contracts of the landed pager: Seal; over any device and page that meet the kits. Conditions: at most 900000 calls before.
  Contracts of the landed pager: Done; all of the landed pager meets the kit. Conditions: at most 900000 calls before.
-/
import Derived.Test.YtjgmlpfallakmaaB7
import Derived.Test.YtjgmlpfallakmaaB4
section
namespace Go.Proofs.Ytjgmlpfallakmaa
open Go.RowKit
attribute [local go_sem ↓] Go.wp_at_zero Go.wp_at_succ
/-- what the landed pager leans on of a device -/
structure LandDev (At : World → Nat → RD → List Nat → Prop) : Prop where
  use : DevUse At 20 30 15 17 18 21
  size : ∀ (w : World) (p : Nat) (d : RD) (F : List Nat), At w p d F → Calls Try.prog 28 #[.pointer (some ⟨p, 0, none⟩)] w fun e w' => e = .returned (.int .i64 d.sector.length) ∧ w = w'
  sizeNil : ∀ (w : World), Calls Try.prog 28 #[.pointer none] w fun e w' => e = .returned (.int .i64 0) ∧ w = w'
abbrev LandPage : Prop := PageKit 54 46 45 33 48 44 22
/-- the bytes that readSectors answers -/
def RD.rdA (d : RD) (f : Int) (c : Nat) : ByteArray := if d.rdE f c = 0 then d.rdS f c else ⟨#[]⟩
set_option maxRecDepth 4000 in
set_option maxHeartbeats 1600000 in
theorem readSectors_ok {At : World → Nat → RD → List Nat → Prop} (LD : LandDev At) (w : World) (p : Nat) (d : RD) (F : List Nat) (K : Nat) (hK : K ≤ 990000) (ok : RD.Ok K d) (hfull : d.Full) (f c : Nat) (hf : f ≤ 3000) (hc : c ≤ 4) (hA : At w p d F) :
    Calls Try.prog 31 #[.pointer (some ⟨p, 0, none⟩), .int .i64 f, .int .i64 c] w fun e w' => e = .returned (.tuple #[.string (d.rdA f c), .int .i64 (d.rdE f c)]) ∧ Below w.heap.size w w' := by
  have RC : Hid (∀ (k : Nat) (wr : World), Below w.heap.size w wr → Calls Try.prog 21 #[.pointer (some ⟨p, 0, none⟩), .int .i64 ((f : Int) + (k : Int))] wr fun e w' => e = .returned (.tuple #[.string (d.readS (f + k)), .int .i64 (d.readE (f + k))]) ∧ Below wr.heap.size wr w') :=
    Lib.hid fun k wr hb => LD.use.read wr p d F K (by omega) ok _ (LD.use.touch hA (Touch.ofBelow hb) (by simp))
  have HF := Lib.hid hfull
  obtain ⟨RS, hRS⟩ : ∃ R, d.rdA f c = R := ⟨_, rfl⟩
  obtain ⟨RE, hRE⟩ : ∃ R, d.rdE f c = R := ⟨_, rfl⟩
  have HRS : Hid ((if d.rdE f c = 0 then d.rdS f c else ⟨#[]⟩) = RS) := Lib.hid hRS
  have HRE := Lib.hid hRE
  rw [hRS, hRE]
  clear hRS hRE hfull ok hA
  go_enter Try.func31, Try.ntmps31
  go_wp2
  go_loopw [8, 13] (fun ss kk wr => ∃ (k : Nat) (S : ByteArray), k ≤ c ∧ ss = .string S ∧ kk = .int .i64 k ∧ Hid (S = d.rdS f k) ∧ Hid (d.rdE f k = 0) ∧ Below w.heap.size w wr) (fun _ kk _ => c - (intOf kk).toNat)
  case atStart => exact ⟨0, ⟨#[]⟩, by omega, rfl, rfl, Lib.hid rfl, Lib.hid rfl, Below.refl _ _⟩
  case round =>
    obtain ⟨k, S, hk, rfl, rfl, HS, HE, hBr⟩ := hrel
    by_cases hkc : k < c
    · have t1 : decide (k < c) = true := decide_eq_true hkc
      have RK := Lib.hid (RC.out k wr hBr)
      obtain ⟨T, hT⟩ : ∃ T, d.readS (f + k) = T := ⟨_, rfl⟩
      obtain ⟨E, hE⟩ : ∃ E, d.readE (f + k) = E := ⟨_, rfl⟩
      rw [hT, hE] at RK
      have hSs : S.size ≤ 512 := by rw [HS.out]; have := HF.out.rdS f k; omega
      have hTs : T.size ≤ 128 := by rw [← hT]; exact HF.out.read _
      have HBr := Lib.hid hBr
      have m1 : IntKind.i64.wrap ((f : Int) + (k : Int)) = f + k := IntWalk.i64_in _ (by omega)
      by_cases hE0 : E = 0
      · have e1 : (E != 0) = false := by rw [hE0]; rfl
        have HS' : Hid (S ++ T = d.rdS f (k + 1)) := Lib.hid (by rw [RD.rdS, HS.out, hT])
        have HE' : Hid (d.rdE f (k + 1) = 0) := Lib.hid (by rw [RD.rdE, if_pos HE.out, hE, hE0])
        clear hT hE hE0 hBr
        go_wp2_with fail
        refine RK.out.mono ?_
        rintro _ w2 ⟨rfl, hb2⟩
        go_wp2
        go_roundw
        case rel => exact ⟨k + 1, S ++ T, by omega, by rfl, by go_num, HS', HE', HBr.out.trans (hb2.mono HBr.out.size)⟩
        case measure => simp [intOf]; omega
      · have e1 : (E != 0) = true := by simpa using hE0
        have hR : d.rdE f (k + 1) = E := by rw [RD.rdE, if_pos HE.out, hE]
        have hR4 : d.rdE f c = E := by
          have := RD.rd_stop d f (k + 1) (c - (k + 1)) (by rw [hR]; exact hE0)
          rw [show k + 1 + (c - (k + 1)) = c by omega, hR] at this
          exact this
        have HR : Hid (RS = ⟨#[]⟩ ∧ RE = E) := Lib.hid (by
          have h1 := HRS.out
          have h2 := HRE.out
          rw [hR4] at h1 h2
          rw [if_neg hE0] at h1
          exact ⟨h1.symm, h2.symm⟩)
        clear hT hE hE0 hBr hR hR4
        go_wp2_with fail
        refine RK.out.mono ?_
        rintro _ w2 ⟨rfl, hb2⟩
        go_wp2
        go_ret2
        rw [HR.out.1, HR.out.2]
        exact ⟨rfl, HBr.out.trans (hb2.mono HBr.out.size)⟩
    · obtain rfl : k = c := by omega
      have t1 : decide (k < k) = false := decide_eq_false (by omega)
      have HBr := Lib.hid hBr
      have HR : Hid (RS = S ∧ RE = 0) := Lib.hid (by
        have h1 := HRS.out
        have h2 := HRE.out
        rw [HE.out] at h1 h2
        rw [if_pos rfl, ← HS.out] at h1
        exact ⟨h1.symm, h2.symm⟩)
      clear hBr
      go_wp2
      go_ret2
      rw [HR.out.1, HR.out.2]
      exact ⟨rfl, HBr.out⟩
theorem extract_first (S : ByteArray) (a b : Nat) (h : 128 * a + 128 ≤ b) : (S.extract (128 * a) b).extract 0 128 = S.extract (128 * a) (128 * a + 128) := by
  rw [ByteArray.extract_extract]
  congr 1 <;> omega
theorem extract_rest (S : ByteArray) (a b : Nat) (hb : b ≤ S.size) : (S.extract (128 * a) b).extract 128 (S.extract (128 * a) b).size = S.extract (128 * (a + 1)) b := by
  rw [ByteArray.extract_extract, ByteArray.size_extract]
  congr 1 <;> omega
set_option maxRecDepth 4000 in
set_option maxHeartbeats 1600000 in
theorem writeSectors_ok {At : World → Nat → RD → List Nat → Prop} (LD : LandDev At) (w : World) (p : Nat) (d : RD) (F : List Nat) (K : Nat) (hK : K ≤ 990000) (ok : RD.Ok K d) (f n : Nat) (S : ByteArray) (hS : S.size = 128 * n) (hf : f ≤ 3000) (hn : n ≤ 4) (hA : At w p d F) :
    Calls Try.prog 47 #[.pointer (some ⟨p, 0, none⟩), .int .i64 f, .string S] w (Did At w p F (d.wr f S n).1 (.returned (.int .i64 (d.wr f S n).2))) := by
  have OK := Lib.hid ok
  have HA := Lib.hid hA
  have HS := Lib.hid hS
  have h0 : S.extract (128 * 0) (128 * n) = S := by rw [← hS]; exact ByteArray.extract_zero_size
  obtain ⟨RD', hRD⟩ : ∃ R, (d.wr f S n).1 = R := ⟨_, rfl⟩
  obtain ⟨RE, hRE⟩ : ∃ R, (d.wr f S n).2 = R := ⟨_, rfl⟩
  have HR : Hid (d.wr f S n = (RD', RE)) := Lib.hid (by rw [← hRD, ← hRE])
  rw [hRD, hRE]
  have H0 := Lib.hid h0
  clear hRD hRE ok hA hS h0
  go_enter Try.func47, Try.ntmps47
  go_wp2
  go_loopw [1, 2] (fun ff ss wr => ∃ (k : Nat) (T : ByteArray) (F' : List Nat), k ≤ n ∧ ff = .int .i64 ((f + k : Nat) : Int) ∧ ss = .string T ∧ T.size = 128 * (n - k) ∧ Hid (T = S.extract (128 * k) (128 * n)) ∧ At wr p (d.wr f S k).1 F' ∧ Hid ((d.wr f S k).2 = 0) ∧ Touch F w wr ∧ Grows F F' w.heap.size) (fun ff _ _ => n + f - (intOf ff).toNat)
  case atStart => exact ⟨0, S, F, by omega, rfl, rfl, by rw [HS.out]; omega, Lib.hid H0.out.symm, HA.out, Lib.hid rfl, Touch.refl _ _, Grows.refl _ _⟩
  case round =>
    obtain ⟨k, T, F', hk, rfl, rfl, hTs, HT, hAr, HE, hTr, hGr⟩ := hrel
    by_cases hkn : k < n
    · have t1 : decide ((0 : Int) < (T.size : Int)) = true := decide_eq_true (by omega)
      have b1 : (0 : Int) ≤ 128 ∧ (128 : Int) ≤ (T.size : Int) := by omega
      obtain ⟨P, hP⟩ : ∃ P, T.extract 0 128 = P := ⟨_, rfl⟩
      obtain ⟨Q, hQ⟩ : ∃ Q, T.extract 128 T.size = Q := ⟨_, rfl⟩
      have hP2 : S.extract (128 * k) (128 * k + 128) = P := by rw [← hP, HT.out, extract_first _ _ _ (by omega)]
      have hQ2 : Q = S.extract (128 * (k + 1)) (128 * n) := by rw [← hQ, HT.out, extract_rest _ _ _ (by rw [HS.out]; omega)]
      have hQs : Q.size = 128 * (n - (k + 1)) := by rw [hQ2, ByteArray.size_extract, HS.out]; omega
      have HQ2 := Lib.hid hQ2
      have hsl1 : ∀ w, (Instr.slice 9 (.string T) none (some (.int .i64 128)) none).run Try.prog w = .ok (.string P) w := fun w => by
        rw [run_slice_string_h w 9 T Try.underlying9 .i64 128 (by omega) (by omega), show (128 : Int).toNat = 128 from rfl, hP]
      have hsl2 : ∀ w, (Instr.slice 9 (.string T) (some (.int .i64 128)) none none).run Try.prog w = .ok (.string Q) w := fun w => by
        rw [run_slice_string_l w 9 T Try.underlying9 .i64 128 (by omega) (by omega), show (128 : Int).toNat = 128 from rfl, hQ]
      obtain ⟨dk, hdk⟩ : ∃ dk, (d.wr f S k).1 = dk := ⟨_, rfl⟩
      rw [hdk] at hAr
      have okk : RD.Ok (K + k) dk := hdk ▸ RD.wr_ok OK.out _ _ _
      have W := LD.use.write wr p dk F' (K + k) (by omega) okk ((f + k : Nat) : Int) P hAr
      have hst : d.wr f S (k + 1) = (dk.writeD ((f + k : Nat) : Int) P, dk.writeE ((f + k : Nat) : Int) P) := by rw [RD.wr, if_pos HE.out, hdk, hP2]; rfl
      obtain ⟨E, hE⟩ : ∃ E, dk.writeE ((f + k : Nat) : Int) P = E := ⟨_, rfl⟩
      rw [hE] at W hst
      have HW := Lib.hid W
      have HST := Lib.hid hst
      have HTr := Lib.hid hTr
      have HGr := Lib.hid hGr
      have m1 : IntKind.i64.wrap (((f + k : Nat) : Int) + 1) = ((f + (k + 1) : Nat) : Int) := by rw [IntWalk.i64_in _ (by omega)]; omega
      clear W hst hAr hTr hGr okk hdk hP hQ hP2 hQ2 hE
      by_cases hE0 : E = 0
      · have e1 : (E != 0) = false := by rw [hE0]; rfl
        go_wp2_with fail
        refine HW.out.mono ?_
        rintro _ w2 ⟨rfl, F2, hA2, hT2, hG2⟩
        go_wp2
        go_roundw
        case rel => exact ⟨k + 1, Q, F2, by omega, rfl, rfl, hQs, HQ2, by rw [HST.out]; exact hA2, by rw [HST.out]; exact Lib.hid hE0, HTr.out.trans hT2 HGr.out, HGr.out.trans hG2 HTr.out.size⟩
        case measure => simp [intOf]; omega
      · have e1 : (E != 0) = true := by simpa using hE0
        have hlast : RD' = dk.writeD ((f + k : Nat) : Int) P ∧ RE = E := by
          have := RD.wr_stop d f S (k + 1) (n - (k + 1)) (by rw [HST.out]; exact hE0)
          rw [show k + 1 + (n - (k + 1)) = n by omega, HST.out, HR.out] at this
          injection this with h1 h2
          exact ⟨h1, h2⟩
        have HL := Lib.hid hlast
        clear hlast hE0
        go_wp2_with fail
        refine HW.out.mono ?_
        rintro _ w2 ⟨rfl, F2, hA2, hT2, hG2⟩
        go_wp2
        go_ret
        rw [HL.out.1, HL.out.2]
        exact ⟨rfl, F2, hA2, HTr.out.trans hT2 HGr.out, HGr.out.trans hG2 HTr.out.size⟩
    · obtain rfl : k = n := by omega
      have t1 : decide ((0 : Int) < (T.size : Int)) = false := decide_eq_false (by omega)
      have hlast : RD' = (d.wr f S k).1 ∧ RE = 0 := by
        rw [HR.out]
        have := HE.out
        rw [HR.out] at this
        exact ⟨rfl, this⟩
      have HL := Lib.hid hlast
      have HAr := Lib.hid hAr
      have HTr := Lib.hid hTr
      have HGr := Lib.hid hGr
      clear hlast hAr hTr hGr
      go_wp2
      go_ret
      rw [HL.out.1, HL.out.2]
      exact ⟨rfl, F', HAr.out, HTr.out, HGr.out⟩
theorem wr_one (d : RD) (i : Int) (S : ByteArray) (hS : S.size = 128) : d.wr i S 1 = (d.writeD i S, d.writeE i S) := by
  have h : S.extract (128 * 0) (128 * 0 + 128) = S := by rw [show 128 * 0 + 128 = S.size by omega]; exact ByteArray.extract_zero_size
  rw [RD.wr, RD.wr, if_pos rfl, h]
  simp
set_option maxRecDepth 4000 in
set_option maxHeartbeats 1600000 in
theorem writeMeta_ok {At : World → Nat → RD → List Nat → Prop} (LD : LandDev At) (LP : LandPage) (w : World) (p : Nat) (d : RD) (F : List Nat) (K : Nat) (hK : K ≤ 990000) (ok : RD.Ok K d) (m : MV) (hm : m.right = true) (hA : At w p d F) :
    Calls Try.prog 29 #[.pointer (some ⟨p, 0, none⟩), m.val] w (Did At w p F (d.writeD (m.txn % 2) m.packS) (.returned (.int .i64 (d.writeE (m.txn % 2) m.packS)))) := by
  have PC := fun w => LP.packM w m
  rw [show m.packE = 0 by unfold MV.packE; rw [hm]; rfl] at PC
  have hS5 := packS_len m hm
  have hr := hm
  rw [MV.right_iff] at hr
  obtain ⟨S, hS⟩ : ∃ S, m.packS = S := ⟨_, rfl⟩
  rw [hS] at PC hS5
  rw [hS]
  obtain ⟨mt, mr, mf, mp, ml⟩ := m
  simp only at hr ⊢
  obtain ⟨t, rfl⟩ := Int.eq_ofNat_of_zero_le (show 0 ≤ mt by omega)
  have m2 : Int.tmod (t : Int) 2 = ((t % 2 : Nat) : Int) := by rw [Int.tmod_eq_emod_of_nonneg (by omega)]; omega
  have m3 : IntKind.i64.wrap ((t % 2 : Nat) : Int) = ((t % 2 : Nat) : Int) := IntWalk.i64_in _ (by omega)
  have WC := fun w (hw : At w p d F) => writeSectors_ok LD w p d F K hK ok (t % 2) 1 S (by omega) (by omega) (by omega) hw
  rw [wr_one _ _ _ hS5] at WC
  rw [show (t : Int) % 2 = ((t % 2 : Nat) : Int) by omega]
  have HWC := Lib.hid WC
  have HA := Lib.hid hA
  have HT := Lib.hid (fun w' (hB : Below w.heap.size w w') => LD.use.touch hA (Touch.ofBelow hB) (by simp))
  unfold MV.val at PC ⊢
  simp only at PC ⊢
  have PC := fun w => Lib.hid (PC w)
  have l0 : t % 2 < 2 := by omega
  clear hm hr hS hS5 WC hA ok
  go_enter Try.func29, Try.ntmps29
  go_wp2_with fail
  refine (PC _).out.mono ?_
  rintro _ w1 ⟨rfl, hb1⟩
  have hX : Blk w1 w.heap.size #[.int .i64 t, .int .i64 mr, .int .i64 mf, .int .i64 mp, .int .i64 ml] 32 := (hb1.block _ (by simp)).trans (heap_alloc_new w _)
  have y0 : w1.cell? ⟨w.heap.size, 0, none⟩ = some (.int .i64 t) := hX.cell 0
  have HB : Hid (Below w.heap.size w w1) := Lib.hid (((Below.refl _ w).alloc (Nat.le_refl _) _).trans (hb1.mono (by simp)))
  clear hb1 hX
  go_wp2_with fail
  refine (HWC.out _ (HT.out _ HB.out)).mono ?_
  intro e w2 h2
  obtain ⟨rfl, F2, hA2, hT2, hG2⟩ := Did.below HB.out h2
  go_wp2
  go_ret
  exact ⟨rfl, F2, hA2, hT2, hG2⟩
end Go.Proofs.Ytjgmlpfallakmaa
end
section
namespace Go.Proofs.Ytjgmlpfallakmaa
open Go.RowKit
attribute [local go_sem ↓] Go.wp_at_zero Go.wp_at_succ
/-- a place for a meta, as a value -/
def spotV (m : MV) (b : Bool) : Value := .agg #[.int .i64 m.txn, .int .i64 m.root, .int .i64 m.free, .int .i64 m.pages, .int .i64 m.limit, .bool b]
theorem zeroS : ∀ w, (zeroValue 68).run Try.prog w = .ok (.agg #[.int .i64 0, .int .i64 0, .int .i64 0, .int .i64 0, .int .i64 0, .bool false]) w := fun w => by kernel_rfl
theorem stored6 {w w' : World} {g : Nat} {cs : Array Value} {t : TypeId} (h : Blk w' g cs t) (hB : Below g w w') (a b c d e f : Value) :
    Blk ((((((w'.setCell ⟨g, 0, none⟩ a).setCell ⟨g, 1, none⟩ b).setCell ⟨g, 2, none⟩ c).setCell ⟨g, 3, none⟩ d).setCell ⟨g, 4, none⟩ e).setCell ⟨g, 5, none⟩ f) g ((((((cs.setIfInBounds 0 a).setIfInBounds 1 b).setIfInBounds 2 c).setIfInBounds 3 d).setIfInBounds 4 e).setIfInBounds 5 f) t ∧
    Below g w ((((((w'.setCell ⟨g, 0, none⟩ a).setCell ⟨g, 1, none⟩ b).setCell ⟨g, 2, none⟩ c).setCell ⟨g, 3, none⟩ d).setCell ⟨g, 4, none⟩ e).setCell ⟨g, 5, none⟩ f) :=
  ⟨(((((h.set 0 a).set 1 b).set 2 c).set 3 d).set 4 e).set 5 f, (((((hB.setCell (p := ⟨g, 0, none⟩) (Nat.le_refl _) a).setCell (p := ⟨g, 1, none⟩) (Nat.le_refl _) b).setCell (p := ⟨g, 2, none⟩) (Nat.le_refl _) c).setCell (p := ⟨g, 3, none⟩) (Nat.le_refl _) d).setCell (p := ⟨g, 4, none⟩) (Nat.le_refl _) e).setCell (p := ⟨g, 5, none⟩) (Nat.le_refl _) f⟩
set_option maxRecDepth 4000 in
set_option maxHeartbeats 1600000 in
theorem spotOf_ok (LP : LandPage) (w : World) (S : ByteArray) (hS : S.size ≤ 2000) :
    Calls Try.prog 32 #[.string S] w fun e w' => e = .returned (spotV (unpackM S) (decide (unpackME S = 0))) ∧ Below w.heap.size w w' := by
  have UC := fun w => LP.unpackM w S hS
  obtain ⟨f, hf⟩ : ∃ f, unpackME S = f := ⟨_, rfl⟩
  obtain ⟨⟨mt, mr, mf, mp, ml⟩, hM⟩ : ∃ m, unpackM S = m := ⟨_, rfl⟩
  simp only [hf, hM] at UC ⊢
  unfold MV.val at UC
  simp only at UC
  have UC := fun w => Lib.hid (UC w)
  have hz := zeroS
  have hB0 : Hid (Below w.heap.size w (w.alloc (.cells #[.int .i64 0, .int .i64 0, .int .i64 0, .int .i64 0, .int .i64 0, .bool false] 68))) := Lib.hid ((Below.refl _ w).alloc (Nat.le_refl _) _)
  have hZ0 : Hid (Blk (w.alloc (.cells #[.int .i64 0, .int .i64 0, .int .i64 0, .int .i64 0, .int .i64 0, .bool false] 68)) w.heap.size #[.int .i64 0, .int .i64 0, .int .i64 0, .int .i64 0, .int .i64 0, .bool false] 68) := Lib.hid (Blk.new w _ _)
  clear hf hM hS
  go_enter Try.func32, Try.ntmps32
  go_wp2_with fail
  refine (UC _).out.mono ?_
  rintro _ w1 ⟨rfl, hb1⟩
  have hB1 := hB0.out.trans (hb1.mono (by simp))
  have hZ1 := (hb1.block w.heap.size (by simp)).trans hZ0.out
  have HB : Hid (Below w.heap.size w w1) := Lib.hid hB1
  have HZ : Hid (Blk w1 w.heap.size #[.int .i64 0, .int .i64 0, .int .i64 0, .int .i64 0, .int .i64 0, .bool false] 68) := Lib.hid hZ1
  have u0 : w1.cell? ⟨w.heap.size, 0, none⟩ = some (.int .i64 0) := Blk.cell hZ1 0
  have m0 : w1.frozen? ⟨w.heap.size, 0, none⟩ = false := Blk.free hZ1 0
  have u1 : w1.cell? ⟨w.heap.size, 1, none⟩ = some (.int .i64 0) := Blk.cell hZ1 1
  have m1 : w1.frozen? ⟨w.heap.size, 1, none⟩ = false := Blk.free hZ1 1
  have u2 : w1.cell? ⟨w.heap.size, 2, none⟩ = some (.int .i64 0) := Blk.cell hZ1 2
  have m2 : w1.frozen? ⟨w.heap.size, 2, none⟩ = false := Blk.free hZ1 2
  have u3 : w1.cell? ⟨w.heap.size, 3, none⟩ = some (.int .i64 0) := Blk.cell hZ1 3
  have m3 : w1.frozen? ⟨w.heap.size, 3, none⟩ = false := Blk.free hZ1 3
  have u4 : w1.cell? ⟨w.heap.size, 4, none⟩ = some (.int .i64 0) := Blk.cell hZ1 4
  have m4 : w1.frozen? ⟨w.heap.size, 4, none⟩ = false := Blk.free hZ1 4
  have u5 : w1.cell? ⟨w.heap.size, 5, none⟩ = some (.bool false) := Blk.cell hZ1 5
  have m5 : w1.frozen? ⟨w.heap.size, 5, none⟩ = false := Blk.free hZ1 5
  have lu : w.heap.size < w1.heap.size := Blk.lt hZ1
  have lu1 : w.heap.size < w1.heap.size + 1 := by omega
  have t1 : (f == 0) = decide (f = 0) := rfl
  clear hB1 hZ1 hb1
  go_wp2
  obtain ⟨hS4, hB4⟩ := stored6 HZ.out HB.out (.int .i64 mt) (.int .i64 mr) (.int .i64 mf) (.int .i64 mp) (.int .i64 ml) (.bool (decide (f = 0)))
  refine bodyPost_ret (results_cell1 rfl _ _ w.heap.size 68 _ (0, 0) _ rfl (hS4.alloc (.cells #[.int .i64 mt, .int .i64 mr, .int .i64 mf, .int .i64 mp, .int .i64 ml] 32)) Try.underlying68 rfl (by kernel_rfl)) rfl ⟨by rfl, hB4.alloc hB4.size (.cells #[.int .i64 mt, .int .i64 mr, .int .i64 mf, .int .i64 mp, .int .i64 ml] 32)⟩
/-- k metas of an empty file are written -/
def RD.fmtS (d : RD) (n : Int) : Nat → RD × Int
  | 0 => (d, 0)
  | k + 1 => if (d.fmtS n k).2 = 0 then ((d.fmtS n k).1.writeD k (RD.fm k n).packS, (d.fmtS n k).1.writeE k (RD.fm k n).packS) else d.fmtS n k
theorem fmtS_one (d : RD) (n : Int) : d.fmtS n 1 = (d.fmt1 n, d.fmt1E n) := by
  unfold RD.fmtS RD.fmtS
  rw [if_pos rfl]
  rfl
theorem fmtS_two (d : RD) (n : Int) : d.fmtS n 2 = if d.fmt1E n = 0 then (d.fmt2 n, d.fmt2E n) else (d.fmt1 n, d.fmt1E n) := by
  rw [RD.fmtS, fmtS_one]
  rfl
theorem fmtS_ok {K : Nat} {d : RD} (h : RD.Ok K d) (n : Int) (k : Nat) : RD.Ok (K + k) (d.fmtS n k).1 := by
  induction k with
  | zero => exact h
  | succ k ih =>
    rw [RD.fmtS]
    split
    · exact RD.write_ok ih _ _
    · exact ih.more (by omega)
theorem fmtS_stop (d : RD) (n : Int) (k m : Nat) (h : (d.fmtS n k).2 ≠ 0) : d.fmtS n (k + m) = d.fmtS n k := by
  induction m with
  | zero => rfl
  | succ m ih => rw [Nat.add_succ, RD.fmtS, if_neg (by rw [ih]; exact h), ih]
theorem fmt_by (d : RD) (n : Int) (h : d.fmtMay n = true) : d.fmtD n = (if (d.fmtS n 2).2 = 0 then (d.fmtS n 2).1.syncD else (d.fmtS n 2).1) ∧ d.fmtE n = (if (d.fmtS n 2).2 = 0 then (d.fmtS n 2).1.syncE else (d.fmtS n 2).2) := by
  unfold RD.fmtD RD.fmtE
  rw [if_pos h, if_pos h, fmtS_two]
  by_cases h1 : d.fmt1E n = 0
  · rw [if_pos h1, if_pos h1, if_pos h1]
    exact ⟨rfl, rfl⟩
  · rw [if_neg h1, if_neg h1, if_neg h1]
    simp [h1]
set_option maxRecDepth 4000 in
set_option maxHeartbeats 1600000 in
theorem format_in {At : World → Nat → RD → List Nat → Prop} (LD : LandDev At) (LP : LandPage) (w : World) (p : Nat) (d : RD) (F : List Nat) (K : Nat) (hK : K ≤ 900000) (ok : RD.Ok K d) (n : Nat) (hm : d.fmtMay n = true) (hA : At w p d F) :
    Calls Try.prog 9 #[.pointer (some ⟨p, 0, none⟩), .int .i64 n] w (Did At w p F (d.fmtD n) (.returned (.int .i64 (d.fmtE n)))) := by
  obtain ⟨hD, hE⟩ := fmt_by d n hm
  unfold RD.fmtMay at hm
  simp only [Bool.and_eq_true, decide_eq_true_eq] at hm
  obtain ⟨⟨m1, m2⟩, m3⟩ := hm
  have hl := ok.len
  have d1 : decide ((n : Int) < 4) = false := decide_eq_false (by omega)
  have d2 : decide (512 < (n : Int)) = false := decide_eq_false (by omega)
  have d3 : decide ((d.sector.length : Int) < 4 * (n : Int)) = false := decide_eq_false (by omega)
  have w1 : IntKind.i64.wrap (4 * (n : Int)) = 4 * n := IntWalk.i64_in _ (by omega)
  have SC := Lib.hid (LD.size w p d F hA)
  have SY := Lib.hid (fun w1 F1 (h : (d.fmtS n 2).2 = 0) (hw : At w1 p (d.fmtS n 2).1 F1) => LD.use.sync w1 p (d.fmtS n 2).1 F1 (K + 2) (by omega) (fmtS_ok ok n 2) hw)
  have WM := Lib.hid (fun w1 F1 (k : Nat) (hk : k < 2) (hw : At w1 p (d.fmtS n k).1 F1) => writeMeta_ok LD LP w1 p (d.fmtS n k).1 F1 (K + k) (by omega) (fmtS_ok ok n k) (RD.fm k n) (RD.fm_right k n (by omega) (by omega)) hw)
  have HA := Lib.hid hA
  have HD := Lib.hid hD
  have HE := Lib.hid hE
  clear hA ok hD hE m3
  go_enter Try.func9, Try.ntmps9
  go_wp2_with fail
  refine SC.out.mono ?_
  rintro _ _ ⟨rfl, rfl⟩
  go_wp2
  go_loopw [20] (fun kk wr => ∃ (k : Nat) (F' : List Nat), k ≤ 2 ∧ kk = .int .i64 k ∧ At wr p (d.fmtS n k).1 F' ∧ Hid ((d.fmtS n k).2 = 0) ∧ Touch F w wr ∧ Grows F F' w.heap.size) (fun kk _ => 2 - (intOf kk).toNat)
  case atStart => exact ⟨0, F, by omega, rfl, HA.out, Lib.hid rfl, Touch.refl _ _, Grows.refl _ _⟩
  case round =>
    obtain ⟨k, F', hk, rfl, hAr, HZ, hTr, hGr⟩ := hrel
    by_cases hk2 : k < 2
    · have t1 : decide (k < 2) = true := decide_eq_true hk2
      have W := WM.out wr F' k hk2 hAr
      unfold RD.fm MV.val at W
      simp only at W
      rw [show (k : Int) % 2 = (k : Int) by omega] at W
      have hst : d.fmtS n (k + 1) = ((d.fmtS n k).1.writeD k (RD.fm k n).packS, (d.fmtS n k).1.writeE k (RD.fm k n).packS) := by rw [RD.fmtS, if_pos HZ.out]
      unfold RD.fm at hst
      obtain ⟨D, hD⟩ : ∃ D, (d.fmtS n k).1.writeD k (⟨k, 0, 0, 1, n⟩ : MV).packS = D := ⟨_, rfl⟩
      obtain ⟨E, hE⟩ : ∃ E, (d.fmtS n k).1.writeE k (⟨k, 0, 0, 1, n⟩ : MV).packS = E := ⟨_, rfl⟩
      rw [hD, hE] at W hst
      have HW := Lib.hid W
      have HST := Lib.hid hst
      have HTr := Lib.hid hTr
      have HGr := Lib.hid hGr
      clear W hst hD hE hAr hTr hGr
      by_cases hE0 : E = 0
      · have e1 : (E != 0) = false := by rw [hE0]; rfl
        go_wp2_with fail
        refine HW.out.mono ?_
        rintro _ w2 ⟨rfl, F2, hA2, hT2, hG2⟩
        go_wp2
        go_roundw
        case rel => exact ⟨k + 1, F2, by omega, by go_num, by rw [HST.out]; exact hA2, by rw [HST.out]; exact Lib.hid hE0, HTr.out.trans hT2 HGr.out, HGr.out.trans hG2 HTr.out.size⟩
        case measure => simp [intOf]; omega
      · have e1 : (E != 0) = true := by simpa using hE0
        have hlast : d.fmtS n 2 = (D, E) := by
          have := fmtS_stop d n (k + 1) (2 - (k + 1)) (by rw [HST.out]; exact hE0)
          rw [show k + 1 + (2 - (k + 1)) = 2 by omega, HST.out] at this
          exact this
        have HL : Hid (d.fmtD n = D ∧ d.fmtE n = E) := Lib.hid (by
          rw [HD.out, HE.out, hlast]
          simp only
          rw [if_neg hE0, if_neg hE0]
          exact ⟨rfl, rfl⟩)
        clear hlast hE0
        go_wp2_with fail
        refine HW.out.mono ?_
        rintro _ w2 ⟨rfl, F2, hA2, hT2, hG2⟩
        go_wp2
        go_ret
        rw [HL.out.1, HL.out.2]
        exact ⟨rfl, F2, hA2, HTr.out.trans hT2 HGr.out, HGr.out.trans hG2 HTr.out.size⟩
    · obtain rfl : k = 2 := by omega
      have W := Lib.hid (SY.out wr F' HZ.out hAr)
      have HL : Hid (d.fmtD n = (d.fmtS n 2).1.syncD ∧ d.fmtE n = (d.fmtS n 2).1.syncE) := Lib.hid (by
        rw [HD.out, HE.out, if_pos HZ.out, if_pos HZ.out]
        exact ⟨rfl, rfl⟩)
      have HTr := Lib.hid hTr
      have HGr := Lib.hid hGr
      clear hAr hTr hGr
      go_wp2_with fail
      refine W.out.mono ?_
      rintro _ w2 ⟨rfl, F2, hA2, hT2, hG2⟩
      go_wp2
      go_ret
      rw [HL.out.1, HL.out.2]
      exact ⟨rfl, F2, hA2, HTr.out.trans hT2 HGr.out, HGr.out.trans hG2 HTr.out.size⟩
set_option maxRecDepth 4000 in
set_option maxHeartbeats 1600000 in
theorem format_not {At : World → Nat → RD → List Nat → Prop} (LD : LandDev At) (w : World) (p : Nat) (d : RD) (F : List Nat) (K : Nat) (ok : RD.Ok K d) (n : Int) (hm : ¬ d.fmtMay n = true) (hA : At w p d F) :
    Calls Try.prog 9 #[.pointer (some ⟨p, 0, none⟩), .int .i64 n] w (Did At w p F (d.fmtD n) (.returned (.int .i64 (d.fmtE n)))) := by
  have HE : Hid (d.fmtE n = 1) := Lib.hid (by unfold RD.fmtE; rw [if_neg hm])
  have HD : Hid (d.fmtD n = d) := Lib.hid (by unfold RD.fmtD; rw [if_neg hm])
  have hl := ok.len
  unfold RD.fmtMay at hm
  simp only [Bool.and_eq_true, decide_eq_true_eq] at hm
  have HA := Lib.hid hA
  have SC := Lib.hid (LD.size w p d F hA)
  clear hA ok
  by_cases n1 : n < 4
  · have d1 : decide (n < 4) = true := decide_eq_true n1
    clear hm n1
    go_enter Try.func9, Try.ntmps9
    go_wp2
    go_ret
    rw [HE.out, HD.out]
    exact ⟨rfl, F, HA.out, Touch.refl _ _, Grows.refl _ _⟩
  · have d1 : decide (n < 4) = false := decide_eq_false n1
    by_cases n2 : 512 < n
    · have d2 : decide (512 < n) = true := decide_eq_true n2
      clear hm n1 n2
      go_enter Try.func9, Try.ntmps9
      go_wp2
      go_ret
      rw [HE.out, HD.out]
      exact ⟨rfl, F, HA.out, Touch.refl _ _, Grows.refl _ _⟩
    · have d2 : decide (512 < n) = false := decide_eq_false n2
      obtain ⟨n, rfl⟩ := Int.eq_ofNat_of_zero_le (show 0 ≤ n by omega)
      have d3 : decide ((d.sector.length : Int) < 4 * (n : Int)) = true := decide_eq_true (by omega)
      have w1 : IntKind.i64.wrap (4 * (n : Int)) = 4 * n := IntWalk.i64_in _ (by omega)
      clear hm
      go_enter Try.func9, Try.ntmps9
      go_wp2_with fail
      refine SC.out.mono ?_
      rintro _ _ ⟨rfl, rfl⟩
      go_wp2
      go_ret
      rw [HE.out, HD.out]
      exact ⟨rfl, F, HA.out, Touch.refl _ _, Grows.refl _ _⟩
theorem format_ok {At : World → Nat → RD → List Nat → Prop} (LD : LandDev At) (LP : LandPage) (w : World) (p : Nat) (d : RD) (F : List Nat) (K : Nat) (hK : K ≤ 900000) (ok : RD.Ok K d) (n : Int) (hA : At w p d F) :
    Calls Try.prog 9 #[.pointer (some ⟨p, 0, none⟩), .int .i64 n] w (Did At w p F (d.fmtD n) (.returned (.int .i64 (d.fmtE n)))) := by
  by_cases hm : d.fmtMay n = true
  · obtain ⟨m, rfl⟩ : ∃ m : Nat, n = m := ⟨n.toNat, by
      unfold RD.fmtMay at hm
      simp only [Bool.and_eq_true, decide_eq_true_eq] at hm
      omega⟩
    exact format_in LD LP w p d F K hK ok m hm hA
  · exact format_not LD w p d F K ok n hm hA
set_option maxRecDepth 4000 in
set_option maxHeartbeats 1600000 in
theorem format_nil {At : World → Nat → RD → List Nat → Prop} (LD : LandDev At) (w : World) (n : Int) : Calls Try.prog 9 #[.pointer none, .int .i64 n] w fun e w' => e = .returned (.int .i64 1) ∧ Below w.heap.size w w' := by
  have SC := Lib.hid (LD.sizeNil w)
  by_cases n1 : n < 4
  · have d1 : decide (n < 4) = true := decide_eq_true n1
    clear n1
    go_enter Try.func9, Try.ntmps9
    go_wp2
    go_ret
    exact ⟨rfl, Below.refl _ _⟩
  · have d1 : decide (n < 4) = false := decide_eq_false n1
    by_cases n2 : 512 < n
    · have d2 : decide (512 < n) = true := decide_eq_true n2
      clear n1 n2
      go_enter Try.func9, Try.ntmps9
      go_wp2
      go_ret
      exact ⟨rfl, Below.refl _ _⟩
    · have d2 : decide (512 < n) = false := decide_eq_false n2
      obtain ⟨n, rfl⟩ := Int.eq_ofNat_of_zero_le (show 0 ≤ n by omega)
      have d3 : decide ((0 : Int) < 4 * (n : Int)) = true := decide_eq_true (by omega)
      have w1 : IntKind.i64.wrap (4 * (n : Int)) = 4 * n := IntWalk.i64_in _ (by omega)
      go_enter Try.func9, Try.ntmps9
      go_wp2_with fail
      refine SC.out.mono ?_
      rintro _ _ ⟨rfl, rfl⟩
      go_wp2
      go_ret
      exact ⟨rfl, Below.refl _ _⟩
end Go.Proofs.Ytjgmlpfallakmaa
end
section
namespace Go.Proofs.Ytjgmlpfallakmaa
open Go.RowKit
attribute [local go_sem ↓] Go.wp_at_zero Go.wp_at_succ
/-- the sealed meta, or none's -/
def PS.sm (s : PS) : MV := s.seal_.getD MV.none
/-- the cells of the landed pager -/
def lgCells (s : PS) (p : Nat) (vr : Value) : Array Value :=
  #[.pointer (some ⟨p, 0, none⟩), .int .i64 s.m.txn, .int .i64 s.m.root, .int .i64 s.m.free, .int .i64 s.m.pages, .int .i64 s.m.limit,
    .int .i64 s.o.txn, .int .i64 s.o.root, .int .i64 s.o.free, .int .i64 s.o.pages, .int .i64 s.o.limit, .bool s.has,
    .int .i64 s.sm.txn, .int .i64 s.sm.root, .int .i64 s.sm.free, .int .i64 s.sm.pages, .int .i64 s.sm.limit, .bool s.seal_.isSome, vr]
/-- the landed pager s lies in block q; its device in block p; G: its blocks -/
def LPg (w : World) (q p : Nat) (s : PS) (G : List Nat) : Prop :=
  ∃ vr, Blk w q (lgCells s p vr) 71 ∧ w.ownsRow 0 3 1 vr s.row.length (s.row.map (Value.int .i64)) ∧ G = q :: vr.ownBlock.toList ∧ G.Nodup
theorem LPg.lt {w : World} {q p : Nat} {s : PS} {G : List Nat} (h : LPg w q p s G) : ∀ k ∈ G, k < w.heap.size := by
  obtain ⟨vr, hb, hr, rfl, hN⟩ := h
  intro k hk
  rcases mem2 hk with rfl | hk
  · exact hb.lt
  · exact ownsRow_lt hr k hk
theorem LPg.touch {w w' : World} {q p : Nat} {s : PS} {G S : List Nat} (h : LPg w q p s G) (hT : Touch S w w') (hS : ∀ k ∈ S, k ∉ G) : LPg w' q p s G := by
  obtain ⟨vr, hb, hr, rfl, hN⟩ := h
  exact ⟨vr, hb.touch hT (fun hk => hS _ hk (by simp)), ownsRow_touch hr hT (fun k hk hm => hS k hm (by rw [hk]; simp)), rfl, hN⟩
/-- a call that touched the device alone -/
theorem land_dev {At : World → Nat → RD → List Nat → Prop} {w wc w' : World} {p q : Nat} {F G F2 : List Nat} {d2 : RD} {s1 : PS} {e0 e : Ending} (hB : Below w.heap.size w wc) (hP : LPg w q p s1 G) (hFG : ∀ k ∈ F, k ∉ G)
    (he : e = e0) (hA : At w' p d2 F2) (hT : Touch F wc w') (hG : Grows F F2 wc.heap.size) : Did2 At LPg w p q (F ++ G) d2 s1 e0 e w' := by
  have hs := hB.size
  have hP1 := hP.touch (Touch.ofBelow hB) (by simp)
  refine ⟨he, F2, G, hA, hP1.touch hT hFG, ?_, ?_, ?_⟩
  · intro k hk hm
    rcases hG k hk with h | h
    · exact hFG k h hm
    · have := hP.lt k hm; omega
  · exact ((Touch.ofBelow hB).more (by simp)).trans (hT.more (fun k hk => List.mem_append_left _ hk)) (Grows.refl _ _)
  · intro k hk
    rcases List.mem_append.1 hk with hk | hk
    · rcases hG k hk with h | h
      · exact .inl (List.mem_append_left _ h)
      · exact .inr (Nat.le_trans hs h)
    · exact .inl (List.mem_append_right _ hk)
set_option maxRecDepth 4000 in
set_option maxHeartbeats 1600000 in
theorem meta_ok (w : World) (q p : Nat) (s : PS) (G : List Nat) (hP : LPg w q p s G) : Calls Try.prog 11 #[.pointer (some ⟨q, 0, none⟩)] w fun e w' => e = .returned s.m.val ∧ Below w.heap.size w w' := by
  obtain ⟨vr, hb, _⟩ := hP
  have hz := zeroM
  have hq := hb.lt
  have x1 : w.cell? ⟨q, 1, none⟩ = some (.int .i64 s.m.txn) := hb.cell 1
  have x2 : w.cell? ⟨q, 2, none⟩ = some (.int .i64 s.m.root) := hb.cell 2
  have x3 : w.cell? ⟨q, 3, none⟩ = some (.int .i64 s.m.free) := hb.cell 3
  have x4 : w.cell? ⟨q, 4, none⟩ = some (.int .i64 s.m.pages) := hb.cell 4
  have x5 : w.cell? ⟨q, 5, none⟩ = some (.int .i64 s.m.limit) := hb.cell 5
  clear hb
  obtain ⟨⟨mt, mr, mf, mp, ml⟩, hM⟩ : ∃ m, s.m = m := ⟨_, rfl⟩
  rw [hM] at x1 x2 x3 x4 x5 ⊢
  simp only at x1 x2 x3 x4 x5
  unfold MV.val
  go_enter Try.func11, Try.ntmps11
  go_wp2
  refine bodyPost_ret (results_cell1 rfl _ _ w.heap.size 32 _ (0, 0) _ rfl (Blk.new w #[.int .i64 mt, .int .i64 mr, .int .i64 mf, .int .i64 mp, .int .i64 ml] 32) Try.underlying32 rfl (by kernel_rfl)) rfl ⟨?_, (Below.refl _ w).alloc (Nat.le_refl _) _⟩
  rfl
set_option maxRecDepth 4000 in
set_option maxHeartbeats 1600000 in
theorem meta_nil (w : World) : Calls Try.prog 11 #[.pointer none] w fun e w' => e = .returned MV.none.val ∧ Below w.heap.size w w' := by
  have hz := zeroM
  have hB0 : Hid (Below w.heap.size w (w.alloc (.cells #[.int .i64 0, .int .i64 0, .int .i64 0, .int .i64 0, .int .i64 0] 32))) := Lib.hid ((Below.refl _ w).alloc (Nat.le_refl _) _)
  have hZ0 : Hid (Blk (w.alloc (.cells #[.int .i64 0, .int .i64 0, .int .i64 0, .int .i64 0, .int .i64 0] 32)) w.heap.size #[.int .i64 0, .int .i64 0, .int .i64 0, .int .i64 0, .int .i64 0] 32) := Lib.hid (Blk.new w _ _)
  go_enter Try.func11, Try.ntmps11
  go_wp2
  refine bodyPost_ret (results_cell1 rfl _ _ w.heap.size 32 _ (0, 0) _ rfl hZ0.out Try.underlying32 rfl (by kernel_rfl)) rfl ⟨?_, hB0.out⟩
  rfl
set_option maxRecDepth 4000 in
set_option maxHeartbeats 1600000 in
theorem other_ok (w : World) (q p : Nat) (s : PS) (G : List Nat) (hP : LPg w q p s G) : Calls Try.prog 24 #[.pointer (some ⟨q, 0, none⟩)] w fun e w' => e = .returned (.tuple #[s.o.val, .bool s.has]) ∧ Below w.heap.size w w' := by
  obtain ⟨vr, hb, _⟩ := hP
  have hz := zeroM
  have hq := hb.lt
  have x1 : w.cell? ⟨q, 6, none⟩ = some (.int .i64 s.o.txn) := hb.cell 6
  have x2 : w.cell? ⟨q, 7, none⟩ = some (.int .i64 s.o.root) := hb.cell 7
  have x3 : w.cell? ⟨q, 8, none⟩ = some (.int .i64 s.o.free) := hb.cell 8
  have x4 : w.cell? ⟨q, 9, none⟩ = some (.int .i64 s.o.pages) := hb.cell 9
  have x5 : w.cell? ⟨q, 10, none⟩ = some (.int .i64 s.o.limit) := hb.cell 10
  have x6 : w.cell? ⟨q, 11, none⟩ = some (.bool s.has) := hb.cell 11
  clear hb
  obtain ⟨⟨mt, mr, mf, mp, ml⟩, hM⟩ : ∃ m, s.o = m := ⟨_, rfl⟩
  rw [hM] at x1 x2 x3 x4 x5 ⊢
  simp only at x1 x2 x3 x4 x5
  unfold MV.val
  go_enter Try.func24, Try.ntmps24
  go_wp2
  go_region
  all_goals
    go_wp2
    refine bodyPost_ret (results_cell2 rfl _ _ w.heap.size 32 _ (0, 0) _ rfl (Blk.new w #[.int .i64 mt, .int .i64 mr, .int .i64 mf, .int .i64 mp, .int .i64 ml] 32).drew Try.underlying32 rfl (by kernel_rfl)) rfl ⟨?_, ((Below.refl _ w).alloc (Nat.le_refl _) _).drew⟩
    rfl
set_option maxRecDepth 4000 in
set_option maxHeartbeats 1600000 in
theorem other_nil (w : World) : Calls Try.prog 24 #[.pointer none] w fun e w' => e = .returned (.tuple #[MV.none.val, .bool false]) ∧ Below w.heap.size w w' := by
  have hz := zeroM
  have hB0 : Hid (Below w.heap.size w (w.alloc (.cells #[.int .i64 0, .int .i64 0, .int .i64 0, .int .i64 0, .int .i64 0] 32))) := Lib.hid ((Below.refl _ w).alloc (Nat.le_refl _) _)
  have hZ0 : Hid (Blk (w.alloc (.cells #[.int .i64 0, .int .i64 0, .int .i64 0, .int .i64 0, .int .i64 0] 32)) w.heap.size #[.int .i64 0, .int .i64 0, .int .i64 0, .int .i64 0, .int .i64 0] 32) := Lib.hid (Blk.new w _ _)
  go_enter Try.func24, Try.ntmps24
  go_wp2
  refine bodyPost_ret (results_cell2 rfl _ _ w.heap.size 32 _ (0, 0) _ rfl hZ0.out Try.underlying32 rfl (by kernel_rfl)) rfl ⟨?_, hB0.out⟩
  rfl
theorem ints_of_row {w : World} {vr : Value} {l : List Int} (h : w.ownsRow 0 3 1 vr l.length (l.map (Value.int .i64))) : IntsAt w vr l := by
  obtain ⟨A, cap, rfl⟩ := ownsRow_slice h
  refine ⟨A, cap, rfl, fun j hj => ?_⟩
  obtain ⟨b, cap', he, _⟩ := h.form (by omega)
  injection he with h1 h2 h3
  subst h1
  refine ⟨b, 0, rfl, ?_⟩
  have := h.cellAt j (by omega)
  rw [Nat.zero_add]
  simp only [List.getElem?_map, List.getElem?_eq_getElem hj, Option.map_some] at this
  simpa [hj] using this
set_option maxRecDepth 4000 in
set_option maxHeartbeats 1600000 in
theorem log_ok (w : World) (q p : Nat) (s : PS) (G : List Nat) (hP : LPg w q p s G) : Calls Try.prog 27 #[.pointer (some ⟨q, 0, none⟩)] w fun e w' =>
    ∃ v G', e = .returned v ∧ IntsAt w' v s.row ∧ LPg w' q p { s with row := [] } G' ∧ Touch G w w' ∧ Grows G G' w.heap.size := by
  obtain ⟨vr, hb, hr, hG, hN⟩ := hP
  have hq := hb.lt
  have x18 : w.cell? ⟨q, 18, none⟩ = some vr := hb.cell 18
  have f18 := hb.free 18
  have HB := Lib.hid hb
  have HR := Lib.hid hr
  have HG := Lib.hid hG
  have HN := Lib.hid hN
  clear hb hr hG hN
  go_enter Try.func27, Try.ntmps27
  go_wp2
  go_ret
  have hT : Touch [q] w (w.setCell ⟨q, 18, none⟩ (.slice none 0 0)) := (Touch.refl [q] w).setCell (p := ⟨q, 18, none⟩) (.inl (by simp)) _
  have hne : ∀ k, vr.ownBlock = some k → k ∉ [q] := by
    intro k hk hm
    have hN := HN.out
    rw [HG.out, hk] at hN
    simp only [List.mem_singleton] at hm
    subst hm
    simp at hN
  refine ⟨vr, [q], rfl, ints_of_row (ownsRow_touch HR.out hT hne), ⟨.slice none 0 0, ?_, World.ownsRow_nil _ _ _ _, rfl, by simp⟩, hT.more (by intro k hk; rw [HG.out]; simp only [List.mem_singleton] at hk; simp [hk]), ?_⟩
  · have := HB.out.set 18 (.slice none 0 0)
    exact this
  · intro k hk
    simp only [List.mem_singleton] at hk
    exact .inl (by rw [HG.out, hk]; simp)
set_option maxRecDepth 4000 in
set_option maxHeartbeats 1600000 in
theorem log_nil (w : World) : Calls Try.prog 27 #[.pointer none] w fun e w' => (∃ A cap, e = .returned (.slice A 0 cap)) ∧ Below w.heap.size w w' := by
  go_enter Try.func27, Try.ntmps27
  go_wp2
  go_ret
  exact ⟨⟨none, 0, rfl⟩, Below.refl _ _⟩
set_option maxRecDepth 4000 in
set_option maxHeartbeats 1600000 in
theorem sync_ok {At : World → Nat → RD → List Nat → Prop} (LD : LandDev At) (w : World) (p q : Nat) (d : RD) (s : PS) (F G : List Nat) (K : Nat) (hK : K ≤ 900000) (ok : RD.Ok K d) (hA : At w p d F) (hP : LPg w q p s G) (hFG : ∀ k ∈ F, k ∉ G) :
    Calls Try.prog 26 #[.pointer (some ⟨q, 0, none⟩)] w (Did2 At LPg w p q (F ++ G) d.syncD s (.returned (.int .i64 d.syncE))) := by
  have SY := Lib.hid (LD.use.sync w p d F K (by omega) ok hA)
  have HP := Lib.hid hP
  have HFG := Lib.hid hFG
  obtain ⟨vr, hb, _⟩ := hP
  have hq := hb.lt
  have x0 : w.cell? ⟨q, 0, none⟩ = some (.pointer (some ⟨p, 0, none⟩)) := hb.cell 0
  clear hb hA hFG ok
  go_enter Try.func26, Try.ntmps26
  go_wp2_with fail
  refine SY.out.mono ?_
  rintro _ w2 ⟨rfl, F2, hA2, hT2, hG2⟩
  go_wp2
  go_ret
  exact land_dev (Below.refl _ _) HP.out HFG.out rfl hA2 hT2 hG2
set_option maxRecDepth 4000 in
set_option maxHeartbeats 1600000 in
theorem sync_nil (w : World) : Calls Try.prog 26 #[.pointer none] w fun e w' => e = .returned (.int .i64 2) ∧ Below w.heap.size w w' := by
  go_enter Try.func26, Try.ntmps26
  go_wp2
  go_ret
  exact ⟨rfl, Below.refl _ _⟩
end Go.Proofs.Ytjgmlpfallakmaa
end
section
namespace Go.Proofs.Ytjgmlpfallakmaa
open Go.RowKit
attribute [local go_sem ↓] Go.wp_at_zero Go.wp_at_succ
theorem readS_size {d : RD} (h : d.Full) (i : Int) (he : d.readE i = 0) : (d.readS i).size = 128 := by
  unfold RD.readE at he
  unfold RD.readS
  split at he
  · rename_i hh
    split at he
    · cases he
    · rename_i ho
      have hh2 := hh
      unfold RD.has at hh
      simp only [Bool.and_eq_true, decide_eq_true_eq] at hh
      have hi : i.toNat < d.sector.length := by omega
      rw [if_pos (by simpa [hh2] using ho)]
      rw [RD.last_size]
      · rw [List.getD_eq_getElem?_getD, List.getElem?_eq_getElem hi]
        exact h.1 _ (List.getElem_mem hi)
      · exact h.2
  · cases he
theorem rd_two (d : RD) : d.rdE 0 2 = (if d.readE 0 = 0 then d.readE 1 else d.readE 0) ∧ d.rdS 0 2 = d.readS 0 ++ d.readS 1 := by
  constructor
  · unfold RD.rdE RD.rdE RD.rdE
    simp
  · unfold RD.rdS RD.rdS RD.rdS
    rw [show (⟨#[]⟩ : ByteArray) ++ d.readS (0 + (0 : Nat)) = d.readS 0 from ByteArray.empty_append]
    rfl
/-- the sectors 0 and 1, read in a world that only grew -/
def Reads01 (p : Nat) (w : World) (S : ByteArray) (e : Int) : Prop :=
  ∀ w1, Below w.heap.size w w1 → Calls Try.prog 31 #[.pointer (some ⟨p, 0, none⟩), .int .i64 0, .int .i64 2] w1 fun e' w' => e' = .returned (.tuple #[.string S, .int .i64 e]) ∧ Below w1.heap.size w1 w'
set_option maxRecDepth 4000 in
set_option maxHeartbeats 1600000 in
theorem open_e (w : World) (p : Nat) (S : ByteArray) (e : Int) (R : Hid (Reads01 p w S e)) (h0 : (e != 0) = true) :
    Calls Try.prog 10 #[.pointer (some ⟨p, 0, none⟩)] w fun e' w' => e' = .returned (.tuple #[.pointer none, .int .i64 e]) ∧ Below w.heap.size w w' := by
  go_enter Try.func10, Try.ntmps10
  go_wp2_with fail
  refine (R.out _ (Below.refl _ _)).mono ?_
  rintro _ w1 ⟨rfl, hb1⟩
  go_wp2
  go_ret2
  exact ⟨rfl, hb1⟩
set_option maxRecDepth 4000 in
set_option maxHeartbeats 1600000 in
theorem open_bad (w : World) (p : Nat) (S a b : ByteArray) (R : Hid (Reads01 p w S 0)) (mt mr mf mp ml at_ e : Int)
    (hs1 : ∀ w, (Instr.slice 9 (.string S) none (some (.int .i64 128)) none).run Try.prog w = .ok (.string a) w) (hs2 : ∀ w, (Instr.slice 9 (.string S) (some (.int .i64 128)) none none).run Try.prog w = .ok (.string b) w)
    (NC : ∀ w, Hid (Calls Try.prog 22 #[.string a, .string b] w fun e' w' => e' = .returned (.tuple #[.agg #[.int .i64 mt, .int .i64 mr, .int .i64 mf, .int .i64 mp, .int .i64 ml], .int .i64 at_, .int .i64 e]) ∧ Below w.heap.size w w')) (h0 : (e != 0) = true) :
    Calls Try.prog 10 #[.pointer (some ⟨p, 0, none⟩)] w fun e' w' => e' = .returned (.tuple #[.pointer none, .int .i64 e]) ∧ Below w.heap.size w w' := by
  have z0 : ((0 : Int) != 0) = false := rfl
  go_enter Try.func10, Try.ntmps10
  go_wp2_with fail
  refine (R.out _ (Below.refl _ _)).mono ?_
  rintro _ w1 ⟨rfl, hb1⟩
  go_wp2
  go_quiet (fail)
  go_wp2_with fail
  refine (NC _).out.mono ?_
  rintro _ w3 ⟨rfl, hb3⟩
  have hB3 := (below_drewN2 hb1 nq).trans (hb3.mono hb1.size)
  clear hb1 hb3
  go_wp2
  go_ret2
  exact ⟨rfl, hB3.alloc hB3.size _⟩
set_option maxRecDepth 4000 in
set_option maxHeartbeats 1600000 in
theorem open_far (w : World) (p : Nat) (S a b : ByteArray) (R : Hid (Reads01 p w S 0)) (mt mr mf mp : Int) (ml : Nat) (at_ : Int) (len : Nat)
    (hs1 : ∀ w, (Instr.slice 9 (.string S) none (some (.int .i64 128)) none).run Try.prog w = .ok (.string a) w) (hs2 : ∀ w, (Instr.slice 9 (.string S) (some (.int .i64 128)) none none).run Try.prog w = .ok (.string b) w)
    (NC : ∀ w, Hid (Calls Try.prog 22 #[.string a, .string b] w fun e' w' => e' = .returned (.tuple #[.agg #[.int .i64 mt, .int .i64 mr, .int .i64 mf, .int .i64 mp, .int .i64 ml], .int .i64 at_, .int .i64 0]) ∧ Below w.heap.size w w'))
    (ZC : Hid (∀ w1, Below w.heap.size w w1 → Calls Try.prog 28 #[.pointer (some ⟨p, 0, none⟩)] w1 fun e w' => e = .returned (.int .i64 len) ∧ w' = w1))
    (d1 : decide ((len : Int) < 4 * (ml : Int)) = true) (m2 : ml ≤ 512) :
    Calls Try.prog 10 #[.pointer (some ⟨p, 0, none⟩)] w fun e' w' => e' = .returned (.tuple #[.pointer none, .int .i64 4]) ∧ Below w.heap.size w w' := by
  have z0 : ((0 : Int) != 0) = false := rfl
  have x1 : IntKind.i64.wrap (4 * (ml : Int)) = 4 * ml := IntWalk.i64_in _ (by omega)
  go_enter Try.func10, Try.ntmps10
  go_wp2_with fail
  refine (R.out _ (Below.refl _ _)).mono ?_
  rintro _ w1 ⟨rfl, hb1⟩
  go_wp2
  go_quiet (fail)
  go_wp2_with fail
  refine (NC _).out.mono ?_
  rintro _ w3 ⟨rfl, hb3⟩
  have hB3 := (below_drewN2 hb1 nq).trans (hb3.mono hb1.size)
  have HB4 : Hid (Below w.heap.size w (w3.alloc (.cells #[.int .i64 mt, .int .i64 mr, .int .i64 mf, .int .i64 mp, .int .i64 ml] 32))) := Lib.hid (hB3.alloc hB3.size _)
  have ZC4 := Lib.hid (fun n => ZC.out _ (below_drewN2 HB4.out n))
  clear hb1 hb3 hB3
  go_wp2
  go_quiet ((go_at_call 28; exact Calls.quiet_of_same (ZC4.out _)))
  go_wp2
  go_ret2
  exact ⟨rfl, below_drewN2 HB4.out _⟩
/-- the cells of a pager that was opened -/
def opCells (p : Nat) (mt mr mf mp ml ot or_ of_ op_ ol : Int) (h : Bool) : Array Value :=
  #[.pointer (some ⟨p, 0, none⟩), .int .i64 mt, .int .i64 mr, .int .i64 mf, .int .i64 mp, .int .i64 ml, .int .i64 ot, .int .i64 or_, .int .i64 of_, .int .i64 op_, .int .i64 ol, .bool h,
    .int .i64 0, .int .i64 0, .int .i64 0, .int .i64 0, .int .i64 0, .bool false, .slice none 0 0]
theorem zeroLg : ∀ w, (zeroValue 71).run Try.prog w = .ok (.agg #[.pointer none, .int .i64 0, .int .i64 0, .int .i64 0, .int .i64 0, .int .i64 0, .int .i64 0, .int .i64 0, .int .i64 0, .int .i64 0, .int .i64 0, .bool false, .int .i64 0, .int .i64 0, .int .i64 0, .int .i64 0, .int .i64 0, .bool false, .slice none 0 0]) w := fun w => by kernel_rfl
set_option maxRecDepth 4000 in
set_option maxHeartbeats 1600000 in
theorem open_yes (w : World) (p : Nat) (S a b T : ByteArray) (R : Hid (Reads01 p w S 0)) (mt mr mf mp : Int) (ml : Nat) (at_ : Int) (len : Nat) (ot or_ of_ op_ ol : Int) (h : Bool)
    (hs1 : ∀ w, (Instr.slice 9 (.string S) none (some (.int .i64 128)) none).run Try.prog w = .ok (.string a) w) (hs2 : ∀ w, (Instr.slice 9 (.string S) (some (.int .i64 128)) none none).run Try.prog w = .ok (.string b) w)
    (NC : ∀ w, Hid (Calls Try.prog 22 #[.string a, .string b] w fun e w' => e = .returned (.tuple #[.agg #[.int .i64 mt, .int .i64 mr, .int .i64 mf, .int .i64 mp, .int .i64 ml], .int .i64 at_, .int .i64 0]) ∧ Below w.heap.size w w'))
    (SC : ∀ w, Hid (Calls Try.prog 32 #[.string T] w fun e w' => e = .returned (.agg #[.int .i64 ot, .int .i64 or_, .int .i64 of_, .int .i64 op_, .int .i64 ol, .bool h]) ∧ Below w.heap.size w w'))
    (ZC : Hid (∀ w1, Below w.heap.size w w1 → Calls Try.prog 28 #[.pointer (some ⟨p, 0, none⟩)] w1 fun e w' => e = .returned (.int .i64 len) ∧ w' = w1))
    (d1 : decide ((len : Int) < 4 * (ml : Int)) = false) (m2 : ml ≤ 512) (b1 : Bool) (hb1 : (at_ == 1) = b1) (hT : T = if b1 then a else b) :
    Calls Try.prog 10 #[.pointer (some ⟨p, 0, none⟩)] w fun e' w' => ∃ q, e' = .returned (.tuple #[.pointer (some ⟨q, 0, none⟩), .int .i64 0]) ∧ Blk w' q (opCells p mt mr mf mp ml ot or_ of_ op_ ol h) 71 ∧ w.heap.size ≤ q ∧ Below w.heap.size w w' := by
  have z0 : ((0 : Int) != 0) = false := rfl
  have hz := zeroLg
  have x1 : IntKind.i64.wrap (4 * (ml : Int)) = 4 * ml := IntWalk.i64_in _ (by omega)
  cases b1
  all_goals
    simp only [Bool.false_eq_true, if_false, if_true] at hT
    subst hT
    go_enter Try.func10, Try.ntmps10
    go_wp2_with fail
    refine (R.out _ (Below.refl _ _)).mono ?_
    rintro _ w1 ⟨rfl, hb1⟩
    go_wp2
    go_quiet (fail)
    go_wp2_with fail
    refine (NC _).out.mono ?_
    rintro _ w3 ⟨rfl, hb3⟩
    have hB3 := (below_drewN2 hb1 nq).trans (hb3.mono hb1.size)
    have HB4 : Hid (Below w.heap.size w (w3.alloc (.cells #[.int .i64 mt, .int .i64 mr, .int .i64 mf, .int .i64 mp, .int .i64 ml] 32))) := Lib.hid (hB3.alloc hB3.size _)
    have HQ4 : Hid (Blk (w3.alloc (.cells #[.int .i64 mt, .int .i64 mr, .int .i64 mf, .int .i64 mp, .int .i64 ml] 32)) w3.heap.size #[.int .i64 mt, .int .i64 mr, .int .i64 mf, .int .i64 mp, .int .i64 ml] 32) := Lib.hid (Blk.new w3 _ _)
    have HS : Hid (w.heap.size ≤ w3.heap.size) := Lib.hid hB3.size
    have ZC4 := Lib.hid (fun n => ZC.out _ (below_drewN2 HB4.out n))
    clear hb1 hb3 hB3
    go_wp2
    go_quiet ((go_at_call 28; exact Calls.quiet_of_same (ZC4.out _)))
    go_upto_region 13 with fail
    obtain ⟨wq, hwq⟩ : ∃ wq, (w3.alloc (.cells #[.int .i64 mt, .int .i64 mr, .int .i64 mf, .int .i64 mp, .int .i64 ml] 32)).drewN nq = wq := ⟨_, rfl⟩
    have HBq : Hid (Below w.heap.size w wq) := Lib.hid (hwq ▸ below_drewN2 HB4.out nq)
    have HXq : Hid (Blk wq w3.heap.size #[.int .i64 mt, .int .i64 mr, .int .i64 mf, .int .i64 mp, .int .i64 ml] 32) := Lib.hid (hwq ▸ HQ4.out)
    rw [hwq]
    clear hwq
    have HN : Hid (w3.heap.size < wq.heap.size) := Lib.hid HXq.out.lt
    have y0 : wq.cell? ⟨w3.heap.size, 0, none⟩ = some (.int .i64 mt) := HXq.out.cell 0
    have y1 : wq.cell? ⟨w3.heap.size, 1, none⟩ = some (.int .i64 mr) := HXq.out.cell 1
    have y2 : wq.cell? ⟨w3.heap.size, 2, none⟩ = some (.int .i64 mf) := HXq.out.cell 2
    have y3 : wq.cell? ⟨w3.heap.size, 3, none⟩ = some (.int .i64 mp) := HXq.out.cell 3
    have y4 : wq.cell? ⟨w3.heap.size, 4, none⟩ = some (.int .i64 ml) := HXq.out.cell 4
    have SCq := Lib.hid ((SC wq.drew).out)
    go_region_held3 (fun w' => w'.cell? ⟨w3.heap.size, 0, none⟩ = some (.int .i64 mt) ∧ w'.cell? ⟨w3.heap.size, 1, none⟩ = some (.int .i64 mr) ∧ w'.cell? ⟨w3.heap.size, 2, none⟩ = some (.int .i64 mf) ∧ w'.cell? ⟨w3.heap.size, 3, none⟩ = some (.int .i64 mp) ∧ w'.cell? ⟨w3.heap.size, 4, none⟩ = some (.int .i64 ml))
      (first | (go_keep; done) | exact KK.out)
      (first | (go_at_call 32; refine SCq.out.mono ?_; rintro e w5 ⟨rfl, hb5⟩; have KB := (hb5.block _ HN.out).trans HXq.out; have KK := Lib.hid (And.intro (Blk.cell KB 0) (And.intro (Blk.cell KB 1) (And.intro (Blk.cell KB 2) (And.intro (Blk.cell KB 3) (Blk.cell KB 4)))))))
    have hB5 : Below w.heap.size w w5 := HBq.out.drew.trans (hb5.mono HBq.out.size)
    have HB5 := Lib.hid hB5
    clear hB5 hb5 KB KK
    go_wp2
    go_ret2
    exact ⟨w5.heap.size, rfl, Blk.new w5 _ _, HB5.out.size, HB5.out.alloc HB5.out.size _⟩
theorem openedL {w' : World} {q p : Nat} {s : PS} (hb : Blk w' q (lgCells s p (.slice none 0 0)) 71) (h2 : s.row = []) : LPg w' q p s [q] := by
  refine ⟨_, hb, ?_, rfl, by simp⟩
  rw [h2]
  exact World.ownsRow_nil _ _ _ _
theorem open_ok {At : World → Nat → RD → List Nat → Prop} (LD : LandDev At) (LP : LandPage) (w : World) (p : Nat) (d : RD) (F : List Nat) (K : Nat) (hK : K ≤ 900000) (ok : RD.Ok K d) (hf : d.Full) (hA : At w p d F) :
    Calls Try.prog 10 #[.pointer (some ⟨p, 0, none⟩)] w (Opened LPg w p d) := by
  obtain ⟨r2e, r2s⟩ := rd_two d
  have R : Hid (Reads01 p w (d.rdA 0 2) (d.rdE 0 2)) := Lib.hid (fun w1 hb => readSectors_ok LD w1 p d F K (by omega) ok hf 0 2 (by omega) (by omega) (LD.use.touch hA (Touch.ofBelow hb) (by simp)))
  have ZC : Hid (∀ w1, Below w.heap.size w w1 → Calls Try.prog 28 #[.pointer (some ⟨p, 0, none⟩)] w1 fun e w' => e = .returned (.int .i64 d.sector.length) ∧ w' = w1) :=
    Lib.hid (fun w1 hb => (LD.size w1 p d F (LD.use.touch hA (Touch.ofBelow hb) (by simp))).mono fun _ _ h => ⟨h.1, h.2.symm⟩)
  have hl := ok.len
  have h0E : d.readE 0 ≠ 0 → d.openE = d.readE 0 := fun h => by unfold RD.openE; rw [if_neg h]
  by_cases h0 : d.readE 0 = 0
  case neg =>
    have he : d.rdE 0 2 = d.readE 0 := by rw [r2e, if_neg h0]
    rw [he] at R
    refine (open_e w p _ _ R (by simpa using h0)).mono ?_
    rintro _ w' ⟨rfl, hb⟩
    refine ⟨hb, .inl ⟨?_, ?_⟩⟩
    · unfold RD.opens; simp [h0]
    · unfold RD.openE; rw [if_neg h0]
  by_cases h1 : d.readE 1 = 0
  case neg =>
    have he : d.rdE 0 2 = d.readE 1 := by rw [r2e, if_pos h0]
    rw [he] at R
    refine (open_e w p _ _ R (by simpa using h1)).mono ?_
    rintro _ w' ⟨rfl, hb⟩
    refine ⟨hb, .inl ⟨?_, ?_⟩⟩
    · unfold RD.opens; simp [h1]
    · unfold RD.openE; rw [if_pos h0, if_neg h1]
  have he : d.rdE 0 2 = 0 := by rw [r2e, if_pos h0, h1]
  have hA2 : d.rdA 0 2 = d.readS 0 ++ d.readS 1 := by unfold RD.rdA; rw [if_pos he, r2s]
  rw [he, hA2] at R
  have za := readS_size hf 0 h0
  have zb := readS_size hf 1 h1
  have hs1 : ∀ w, (Instr.slice 9 (.string (d.readS 0 ++ d.readS 1)) none (some (.int .i64 128)) none).run Try.prog w = .ok (.string (d.readS 0)) w := fun w => by
    rw [run_slice_string_h w 9 _ Try.underlying9 .i64 128 (by omega) (by rw [ByteArray.size_append]; omega), show (128 : Int).toNat = 128 from rfl, ByteArray.extract_append_eq_left za.symm]
  have hs2 : ∀ w, (Instr.slice 9 (.string (d.readS 0 ++ d.readS 1)) (some (.int .i64 128)) none none).run Try.prog w = .ok (.string (d.readS 1)) w := fun w => by
    rw [run_slice_string_l w 9 _ Try.underlying9 .i64 128 (by omega) (by rw [ByteArray.size_append]; omega), show (128 : Int).toNat = 128 from rfl, ByteArray.extract_append_eq_right za.symm (by rw [ByteArray.size_append])]
  have NC := fun w => Lib.hid (LP.newest w (d.readS 0) (d.readS 1) (by omega) (by omega))
  have SP := fun w => Lib.hid (spotOf_ok LP w d.rest (by unfold RD.rest; split <;> omega))
  generalize d.readS 0 ++ d.readS 1 = S at *
  by_cases h2 : newestE (d.readS 0) (d.readS 1) = 0
  case neg =>
    have e4 : newestE (d.readS 0) (d.readS 1) = 4 := by
      unfold newestE at h2 ⊢
      split at h2
      · exact absurd rfl h2
      · rename_i hh
        rw [if_neg hh]
    rw [e4] at NC
    refine (open_bad w p S _ _ R _ _ _ _ _ _ _ hs1 hs2 NC (by rfl)).mono ?_
    rintro _ w' ⟨rfl, hb⟩
    have ho : d.opens = false := by unfold RD.opens; simp [h2]
    refine ⟨hb, .inl ⟨ho, ?_⟩⟩
    unfold RD.openE
    rw [if_pos h0, if_pos h1, ho]
    rfl
  have hr := newestM_right _ _ h2
  rw [MV.right_iff] at hr
  have hs : d.openS.m = newestM (d.readS 0) (d.readS 1) := rfl
  have hso : d.openS.o = unpackM d.rest := rfl
  have hsh : d.openS.has = decide (unpackME d.rest = 0) := rfl
  have hss : d.openS.seal_ = none := rfl
  have hsr : d.openS.row = [] := rfl
  have ho : d.opens = decide (4 * (newestM (d.readS 0) (d.readS 1)).limit ≤ d.sector.length) := by unfold RD.opens; simp [h0, h1, h2]
  have hE : d.openE = if d.opens then 0 else 4 := by unfold RD.openE; rw [if_pos h0, if_pos h1]
  have hrest : d.rest = if (newestI (d.readS 0) (d.readS 1) == 1) = true then d.readS 0 else d.readS 1 := by
    unfold RD.rest
    by_cases h : newestI (d.readS 0) (d.readS 1) = 1
    · rw [if_pos h, if_pos (by rw [beq_iff_eq]; exact h)]
    · rw [if_neg h, if_neg (by rw [beq_iff_eq]; exact h)]
  rw [h2] at NC
  generalize d.readS 0 = a at *
  generalize d.readS 1 = b at *
  generalize newestI a b = at_ at *
  obtain ⟨P, hP⟩ : ∃ S, d.openS = S := ⟨_, rfl⟩
  rw [hP] at hs hso hsh hss hsr
  obtain ⟨⟨mt, mr, mf, mp, ml⟩, hM⟩ : ∃ m, newestM a b = m := ⟨_, rfl⟩
  rw [hM] at NC hr hs ho
  simp only at hr ho
  obtain ⟨ml, rfl⟩ := Int.eq_ofNat_of_zero_le (show 0 ≤ ml by omega)
  by_cases h4 : 4 * (ml : Int) ≤ d.sector.length
  case neg =>
    have ho' : d.opens = false := by rw [ho]; simpa using h4
    refine (open_far w p S a b R mt mr mf mp ml at_ d.sector.length hs1 hs2 NC ZC (decide_eq_true (by omega)) (by omega)).mono ?_
    rintro _ w' ⟨rfl, hb⟩
    refine ⟨hb, .inl ⟨ho', ?_⟩⟩
    rw [hE, ho']
    rfl
  have ho' : d.opens = true := by rw [ho]; simpa using h4
  obtain ⟨f, hf⟩ : ∃ f, decide (unpackME d.rest = 0) = f := ⟨_, rfl⟩
  obtain ⟨⟨ot, or_, of_, op_, ol⟩, hO⟩ : ∃ o, unpackM d.rest = o := ⟨_, rfl⟩
  unfold spotV at SP
  simp only [hf, hO] at SP
  rw [hf] at hsh
  rw [hO] at hso
  refine (open_yes w p S a b d.rest R mt mr mf mp ml at_ d.sector.length ot or_ of_ op_ ol f hs1 hs2 NC SP ZC (decide_eq_false (by omega)) (by omega) (at_ == 1) rfl hrest).mono ?_
  rintro e w' ⟨q, he, hb, hq, hB⟩
  refine ⟨hB, .inr ⟨ho', q, [q], he, ?_, by simpa using hq⟩⟩
  rw [hP]
  refine openedL ?_ hsr
  have hc : lgCells P p (.slice none 0 0) = opCells p mt mr mf mp ml ot or_ of_ op_ ol f := by
    unfold lgCells opCells PS.sm
    rw [hs, hso, hsh, hss]
    rfl
  rw [hc]
  exact hb
end Go.Proofs.Ytjgmlpfallakmaa
end
section
namespace Go.Proofs.Ytjgmlpfallakmaa
open Go.RowKit
attribute [local go_sem ↓] Go.wp_at_zero Go.wp_at_succ
set_option maxRecDepth 4000 in
set_option maxHeartbeats 1600000 in
theorem read_bad (w : World) (q : Nat) (no lim : Int) (c5 : w.cell? ⟨q, 5, none⟩ = some (.int .i64 lim)) (hn : no < 1 ∨ lim ≤ no) :
    Calls Try.prog 23 #[.pointer (some ⟨q, 0, none⟩), .int .i64 no] w fun e w' => e = .returned (.tuple #[PV.none.val, .int .i64 1]) ∧ Below w.heap.size w w' := by
  have hz := zeroP
  have hq : q < w.heap.size := World.block_lt_of_cell? _ _ c5
  have hZ : Hid (Blk (w.alloc (.cells #[.int .i64 0, .int .i64 0, .int .i64 0, .string ⟨#[]⟩] 51)) w.heap.size #[.int .i64 0, .int .i64 0, .int .i64 0, .string ⟨#[]⟩] 51) := Lib.hid (Blk.new w _ _)
  have hB : Hid (Below w.heap.size w (w.alloc (.cells #[.int .i64 0, .int .i64 0, .int .i64 0, .string ⟨#[]⟩] 51))) := Lib.hid ((Below.refl _ w).alloc (Nat.le_refl _) _)
  by_cases n1 : no < 1
  · have d1 : decide (no < 1) = true := decide_eq_true n1
    clear hn n1
    go_enter Try.func23, Try.ntmps23
    go_wp2
    refine bodyPost_ret (results_cell2 rfl _ _ w.heap.size 51 _ (0, 0) _ rfl hZ.out Try.underlying51 rfl (by kernel_rfl)) rfl ⟨rfl, hB.out⟩
  · have d1 : decide (no < 1) = false := decide_eq_false n1
    have d2 : decide (lim ≤ no) = true := decide_eq_true (by omega)
    clear hn n1
    go_enter Try.func23, Try.ntmps23
    go_wp2
    refine bodyPost_ret (results_cell2 rfl _ _ w.heap.size 51 _ (0, 0) _ rfl hZ.out Try.underlying51 rfl (by kernel_rfl)) rfl ⟨rfl, hB.out⟩
set_option maxRecDepth 4000 in
set_option maxHeartbeats 1600000 in
theorem read_nil (w : World) (no : Int) : Calls Try.prog 23 #[.pointer none, .int .i64 no] w fun e w' => e = .returned (.tuple #[PV.none.val, .int .i64 2]) ∧ Below w.heap.size w w' := by
  have hz := zeroP
  have hZ : Hid (Blk (w.alloc (.cells #[.int .i64 0, .int .i64 0, .int .i64 0, .string ⟨#[]⟩] 51)) w.heap.size #[.int .i64 0, .int .i64 0, .int .i64 0, .string ⟨#[]⟩] 51) := Lib.hid (Blk.new w _ _)
  have hB : Hid (Below w.heap.size w (w.alloc (.cells #[.int .i64 0, .int .i64 0, .int .i64 0, .string ⟨#[]⟩] 51))) := Lib.hid ((Below.refl _ w).alloc (Nat.le_refl _) _)
  go_enter Try.func23, Try.ntmps23
  go_wp2
  refine bodyPost_ret (results_cell2 rfl _ _ w.heap.size 51 _ (0, 0) _ rfl hZ.out Try.underlying51 rfl (by kernel_rfl)) rfl ⟨rfl, hB.out⟩
/-- four sectors of a page, read in a world that only grew -/
def ReadsP (p n : Nat) (w : World) (S : ByteArray) (e : Int) : Prop :=
  ∀ w1, Below w.heap.size w w1 → Calls Try.prog 31 #[.pointer (some ⟨p, 0, none⟩), .int .i64 (4 * (n : Int)), .int .i64 4] w1 fun e' w' => e' = .returned (.tuple #[.string S, .int .i64 e]) ∧ Below w1.heap.size w1 w'
set_option maxRecDepth 4000 in
set_option maxHeartbeats 1600000 in
theorem read_err (w : World) (p q : Nat) (n lim : Nat) (c0 : w.cell? ⟨q, 0, none⟩ = some (.pointer (some ⟨p, 0, none⟩))) (c5 : w.cell? ⟨q, 5, none⟩ = some (.int .i64 lim)) (hn : 1 ≤ n ∧ n < lim) (hl : lim ≤ 512) (S : ByteArray) (E : Int) (R : Hid (ReadsP p n w S E)) (e1 : (E != 0) = true) :
    Calls Try.prog 23 #[.pointer (some ⟨q, 0, none⟩), .int .i64 n] w fun e w' => e = .returned (.tuple #[PV.none.val, .int .i64 E]) ∧ Below w.heap.size w w' := by
  have hz := zeroP
  have hq : q < w.heap.size := World.block_lt_of_cell? _ _ c5
  have d1 : decide ((n : Int) < 1) = false := decide_eq_false (by omega)
  have d2 : decide (lim ≤ n) = false := decide_eq_false (by omega)
  have x4 : IntKind.i64.wrap (4 * (n : Int)) = 4 * n := IntWalk.i64_in _ (by omega)
  have HZ1 : Hid (Blk (w.alloc (.cells #[.int .i64 0, .int .i64 0, .int .i64 0, .string ⟨#[]⟩] 51)) w.heap.size #[.int .i64 0, .int .i64 0, .int .i64 0, .string ⟨#[]⟩] 51) := Lib.hid (Blk.new w _ _)
  have HB1 : Hid (Below w.heap.size w (w.alloc (.cells #[.int .i64 0, .int .i64 0, .int .i64 0, .string ⟨#[]⟩] 51))) := Lib.hid ((Below.refl _ w).alloc (Nat.le_refl _) _)
  have HR := Lib.hid (R.out _ HB1.out)
  clear hn hl R
  go_enter Try.func23, Try.ntmps23
  go_wp2_with fail
  refine HR.out.mono ?_
  rintro _ w2 ⟨rfl, hb2⟩
  have hZ2 : Blk w2 w.heap.size #[.int .i64 0, .int .i64 0, .int .i64 0, .string ⟨#[]⟩] 51 := (hb2.block _ (HZ1.out.lt)).trans HZ1.out
  have hB2 := HB1.out.trans (hb2.mono HB1.out.size)
  have u0 : w2.cell? ⟨w.heap.size, 0, none⟩ = some (.int .i64 0) := hZ2.cell 0
  have m0 := hZ2.free 0
  have u1 : w2.cell? ⟨w.heap.size, 1, none⟩ = some (.int .i64 0) := hZ2.cell 1
  have m1 := hZ2.free 1
  have u2 : w2.cell? ⟨w.heap.size, 2, none⟩ = some (.int .i64 0) := hZ2.cell 2
  have m2 := hZ2.free 2
  have u3 : w2.cell? ⟨w.heap.size, 3, none⟩ = some (.string ⟨#[]⟩) := hZ2.cell 3
  have m3 := hZ2.free 3
  have lu := hZ2.lt
  have HZ2 := Lib.hid hZ2
  have HB2 := Lib.hid hB2
  clear hZ2 hB2 hb2
  go_wp2
  obtain ⟨hS4, hB4⟩ := stored4 HZ2.out HB2.out (.int .i64 0) (.int .i64 0) (.int .i64 0) (.string ⟨#[]⟩)
  refine bodyPost_ret (results_cell2 rfl _ _ w.heap.size 51 _ (0, 0) _ rfl hS4 Try.underlying51 rfl (by kernel_rfl)) rfl ⟨rfl, hB4⟩
set_option maxRecDepth 4000 in
set_option maxHeartbeats 1600000 in
theorem read_not (w : World) (p q : Nat) (n lim : Nat) (c0 : w.cell? ⟨q, 0, none⟩ = some (.pointer (some ⟨p, 0, none⟩))) (c5 : w.cell? ⟨q, 5, none⟩ = some (.int .i64 lim)) (hn : 1 ≤ n ∧ n < lim) (hl : lim ≤ 512) (S : ByteArray) (R : Hid (ReadsP p n w S 0)) (kn on tn : Int) (body : ByteArray) (UE : Int) (UC : ∀ w, Hid (Calls Try.prog 45 #[.string S] w fun e w' => e = .returned (.tuple #[.agg #[.int .i64 kn, .int .i64 on, .int .i64 tn, .string body], .int .i64 UE]) ∧ Below w.heap.size w w')) (e1 : (UE != 0) = true) :
    Calls Try.prog 23 #[.pointer (some ⟨q, 0, none⟩), .int .i64 n] w fun e w' => e = .returned (.tuple #[PV.none.val, .int .i64 4]) ∧ Below w.heap.size w w' := by
  have z0 : ((0 : Int) != 0) = false := rfl
  have hz := zeroP
  have hq : q < w.heap.size := World.block_lt_of_cell? _ _ c5
  have d1 : decide ((n : Int) < 1) = false := decide_eq_false (by omega)
  have d2 : decide (lim ≤ n) = false := decide_eq_false (by omega)
  have x4 : IntKind.i64.wrap (4 * (n : Int)) = 4 * n := IntWalk.i64_in _ (by omega)
  have HZ1 : Hid (Blk (w.alloc (.cells #[.int .i64 0, .int .i64 0, .int .i64 0, .string ⟨#[]⟩] 51)) w.heap.size #[.int .i64 0, .int .i64 0, .int .i64 0, .string ⟨#[]⟩] 51) := Lib.hid (Blk.new w _ _)
  have HB1 : Hid (Below w.heap.size w (w.alloc (.cells #[.int .i64 0, .int .i64 0, .int .i64 0, .string ⟨#[]⟩] 51))) := Lib.hid ((Below.refl _ w).alloc (Nat.le_refl _) _)
  have HR := Lib.hid (R.out _ HB1.out)
  clear hn hl R
  go_enter Try.func23, Try.ntmps23
  go_wp2_with fail
  refine HR.out.mono ?_
  rintro _ w2 ⟨rfl, hb2⟩
  have hZ2 : Blk w2 w.heap.size #[.int .i64 0, .int .i64 0, .int .i64 0, .string ⟨#[]⟩] 51 := (hb2.block _ (HZ1.out.lt)).trans HZ1.out
  have hB2 := HB1.out.trans (hb2.mono HB1.out.size)
  have u0 : w2.cell? ⟨w.heap.size, 0, none⟩ = some (.int .i64 0) := hZ2.cell 0
  have m0 := hZ2.free 0
  have u1 : w2.cell? ⟨w.heap.size, 1, none⟩ = some (.int .i64 0) := hZ2.cell 1
  have m1 := hZ2.free 1
  have u2 : w2.cell? ⟨w.heap.size, 2, none⟩ = some (.int .i64 0) := hZ2.cell 2
  have m2 := hZ2.free 2
  have u3 : w2.cell? ⟨w.heap.size, 3, none⟩ = some (.string ⟨#[]⟩) := hZ2.cell 3
  have m3 := hZ2.free 3
  have lu := hZ2.lt
  have HZ2 := Lib.hid hZ2
  have HB2 := Lib.hid hB2
  clear hZ2 hB2 hb2
  clear u0 u1 u2 u3 m0 m1 m2 m3 lu
  go_wp2_with fail
  refine (UC _).out.mono ?_
  rintro _ w3 ⟨rfl, hb3⟩
  have hZ3 : Blk w3 w.heap.size #[.int .i64 0, .int .i64 0, .int .i64 0, .string ⟨#[]⟩] 51 := (hb3.block _ (HZ2.out.lt)).trans HZ2.out
  have hB3 := HB2.out.trans (hb3.mono HB2.out.size)
  have u0 : w3.cell? ⟨w.heap.size, 0, none⟩ = some (.int .i64 0) := hZ3.cell 0
  have m0 := hZ3.free 0
  have u1 : w3.cell? ⟨w.heap.size, 1, none⟩ = some (.int .i64 0) := hZ3.cell 1
  have m1 := hZ3.free 1
  have u2 : w3.cell? ⟨w.heap.size, 2, none⟩ = some (.int .i64 0) := hZ3.cell 2
  have m2 := hZ3.free 2
  have u3 : w3.cell? ⟨w.heap.size, 3, none⟩ = some (.string ⟨#[]⟩) := hZ3.cell 3
  have m3 := hZ3.free 3
  have lu := hZ3.lt
  have HZ3 := Lib.hid hZ3
  have HB3 := Lib.hid hB3
  clear hZ3 hB3 hb3
  go_wp2
  obtain ⟨hS4, hB4⟩ := stored4 HZ3.out HB3.out (.int .i64 0) (.int .i64 0) (.int .i64 0) (.string ⟨#[]⟩)
  refine bodyPost_ret (results_cell2 rfl _ _ w.heap.size 51 _ (0, 0) _ rfl (hS4.alloc (.cells #[.int .i64 kn, .int .i64 on, .int .i64 tn, .string body] 51)) Try.underlying51 rfl (by kernel_rfl)) rfl ⟨rfl, hB4.alloc hB4.size (.cells #[.int .i64 kn, .int .i64 on, .int .i64 tn, .string body] 51)⟩
set_option maxRecDepth 4000 in
set_option maxHeartbeats 1600000 in
theorem read_other (w : World) (p q : Nat) (n lim : Nat) (c0 : w.cell? ⟨q, 0, none⟩ = some (.pointer (some ⟨p, 0, none⟩))) (c5 : w.cell? ⟨q, 5, none⟩ = some (.int .i64 lim)) (hn : 1 ≤ n ∧ n < lim) (hl : lim ≤ 512) (S : ByteArray) (R : Hid (ReadsP p n w S 0)) (kn on tn : Int) (body : ByteArray) (UE : Int) (UC : ∀ w, Hid (Calls Try.prog 45 #[.string S] w fun e w' => e = .returned (.tuple #[.agg #[.int .i64 kn, .int .i64 on, .int .i64 tn, .string body], .int .i64 UE]) ∧ Below w.heap.size w w')) (e1 : (UE != 0) = false) (e2 : (on != (n : Int)) = true) :
    Calls Try.prog 23 #[.pointer (some ⟨q, 0, none⟩), .int .i64 n] w fun e w' => e = .returned (.tuple #[PV.none.val, .int .i64 4]) ∧ Below w.heap.size w w' := by
  have z0 : ((0 : Int) != 0) = false := rfl
  have hz := zeroP
  have hq : q < w.heap.size := World.block_lt_of_cell? _ _ c5
  have d1 : decide ((n : Int) < 1) = false := decide_eq_false (by omega)
  have d2 : decide (lim ≤ n) = false := decide_eq_false (by omega)
  have x4 : IntKind.i64.wrap (4 * (n : Int)) = 4 * n := IntWalk.i64_in _ (by omega)
  have HZ1 : Hid (Blk (w.alloc (.cells #[.int .i64 0, .int .i64 0, .int .i64 0, .string ⟨#[]⟩] 51)) w.heap.size #[.int .i64 0, .int .i64 0, .int .i64 0, .string ⟨#[]⟩] 51) := Lib.hid (Blk.new w _ _)
  have HB1 : Hid (Below w.heap.size w (w.alloc (.cells #[.int .i64 0, .int .i64 0, .int .i64 0, .string ⟨#[]⟩] 51))) := Lib.hid ((Below.refl _ w).alloc (Nat.le_refl _) _)
  have HR := Lib.hid (R.out _ HB1.out)
  clear hn hl R
  go_enter Try.func23, Try.ntmps23
  go_wp2_with fail
  refine HR.out.mono ?_
  rintro _ w2 ⟨rfl, hb2⟩
  have hZ2 : Blk w2 w.heap.size #[.int .i64 0, .int .i64 0, .int .i64 0, .string ⟨#[]⟩] 51 := (hb2.block _ (HZ1.out.lt)).trans HZ1.out
  have hB2 := HB1.out.trans (hb2.mono HB1.out.size)
  have u0 : w2.cell? ⟨w.heap.size, 0, none⟩ = some (.int .i64 0) := hZ2.cell 0
  have m0 := hZ2.free 0
  have u1 : w2.cell? ⟨w.heap.size, 1, none⟩ = some (.int .i64 0) := hZ2.cell 1
  have m1 := hZ2.free 1
  have u2 : w2.cell? ⟨w.heap.size, 2, none⟩ = some (.int .i64 0) := hZ2.cell 2
  have m2 := hZ2.free 2
  have u3 : w2.cell? ⟨w.heap.size, 3, none⟩ = some (.string ⟨#[]⟩) := hZ2.cell 3
  have m3 := hZ2.free 3
  have lu := hZ2.lt
  have HZ2 := Lib.hid hZ2
  have HB2 := Lib.hid hB2
  clear hZ2 hB2 hb2
  clear u0 u1 u2 u3 m0 m1 m2 m3 lu
  go_wp2_with fail
  refine (UC _).out.mono ?_
  rintro _ w3 ⟨rfl, hb3⟩
  have hZ3 : Blk w3 w.heap.size #[.int .i64 0, .int .i64 0, .int .i64 0, .string ⟨#[]⟩] 51 := (hb3.block _ (HZ2.out.lt)).trans HZ2.out
  have hB3 := HB2.out.trans (hb3.mono HB2.out.size)
  have u0 : w3.cell? ⟨w.heap.size, 0, none⟩ = some (.int .i64 0) := hZ3.cell 0
  have m0 := hZ3.free 0
  have u1 : w3.cell? ⟨w.heap.size, 1, none⟩ = some (.int .i64 0) := hZ3.cell 1
  have m1 := hZ3.free 1
  have u2 : w3.cell? ⟨w.heap.size, 2, none⟩ = some (.int .i64 0) := hZ3.cell 2
  have m2 := hZ3.free 2
  have u3 : w3.cell? ⟨w.heap.size, 3, none⟩ = some (.string ⟨#[]⟩) := hZ3.cell 3
  have m3 := hZ3.free 3
  have lu := hZ3.lt
  have HZ3 := Lib.hid hZ3
  have HB3 := Lib.hid hB3
  clear hZ3 hB3 hb3
  go_wp2
  obtain ⟨hS4, hB4⟩ := stored4 HZ3.out HB3.out (.int .i64 0) (.int .i64 0) (.int .i64 0) (.string ⟨#[]⟩)
  refine bodyPost_ret (results_cell2 rfl _ _ w.heap.size 51 _ (0, 0) _ rfl (hS4.alloc (.cells #[.int .i64 kn, .int .i64 on, .int .i64 tn, .string body] 51)) Try.underlying51 rfl (by kernel_rfl)) rfl ⟨rfl, hB4.alloc hB4.size (.cells #[.int .i64 kn, .int .i64 on, .int .i64 tn, .string body] 51)⟩
set_option maxRecDepth 4000 in
set_option maxHeartbeats 1600000 in
theorem read_fine (w : World) (p q : Nat) (n lim : Nat) (c0 : w.cell? ⟨q, 0, none⟩ = some (.pointer (some ⟨p, 0, none⟩))) (c5 : w.cell? ⟨q, 5, none⟩ = some (.int .i64 lim)) (hn : 1 ≤ n ∧ n < lim) (hl : lim ≤ 512) (S : ByteArray) (R : Hid (ReadsP p n w S 0)) (kn on tn : Int) (body : ByteArray) (UE : Int) (UC : ∀ w, Hid (Calls Try.prog 45 #[.string S] w fun e w' => e = .returned (.tuple #[.agg #[.int .i64 kn, .int .i64 on, .int .i64 tn, .string body], .int .i64 UE]) ∧ Below w.heap.size w w')) (e1 : (UE != 0) = false) (e2 : (on != (n : Int)) = false) :
    Calls Try.prog 23 #[.pointer (some ⟨q, 0, none⟩), .int .i64 n] w fun e w' => e = .returned (.tuple #[(⟨kn, on, tn, body⟩ : PV).val, .int .i64 0]) ∧ Below w.heap.size w w' := by
  have z0 : ((0 : Int) != 0) = false := rfl
  have hz := zeroP
  have hq : q < w.heap.size := World.block_lt_of_cell? _ _ c5
  have d1 : decide ((n : Int) < 1) = false := decide_eq_false (by omega)
  have d2 : decide (lim ≤ n) = false := decide_eq_false (by omega)
  have x4 : IntKind.i64.wrap (4 * (n : Int)) = 4 * n := IntWalk.i64_in _ (by omega)
  have HZ1 : Hid (Blk (w.alloc (.cells #[.int .i64 0, .int .i64 0, .int .i64 0, .string ⟨#[]⟩] 51)) w.heap.size #[.int .i64 0, .int .i64 0, .int .i64 0, .string ⟨#[]⟩] 51) := Lib.hid (Blk.new w _ _)
  have HB1 : Hid (Below w.heap.size w (w.alloc (.cells #[.int .i64 0, .int .i64 0, .int .i64 0, .string ⟨#[]⟩] 51))) := Lib.hid ((Below.refl _ w).alloc (Nat.le_refl _) _)
  have HR := Lib.hid (R.out _ HB1.out)
  clear hn hl R
  go_enter Try.func23, Try.ntmps23
  go_wp2_with fail
  refine HR.out.mono ?_
  rintro _ w2 ⟨rfl, hb2⟩
  have hZ2 : Blk w2 w.heap.size #[.int .i64 0, .int .i64 0, .int .i64 0, .string ⟨#[]⟩] 51 := (hb2.block _ (HZ1.out.lt)).trans HZ1.out
  have hB2 := HB1.out.trans (hb2.mono HB1.out.size)
  have u0 : w2.cell? ⟨w.heap.size, 0, none⟩ = some (.int .i64 0) := hZ2.cell 0
  have m0 := hZ2.free 0
  have u1 : w2.cell? ⟨w.heap.size, 1, none⟩ = some (.int .i64 0) := hZ2.cell 1
  have m1 := hZ2.free 1
  have u2 : w2.cell? ⟨w.heap.size, 2, none⟩ = some (.int .i64 0) := hZ2.cell 2
  have m2 := hZ2.free 2
  have u3 : w2.cell? ⟨w.heap.size, 3, none⟩ = some (.string ⟨#[]⟩) := hZ2.cell 3
  have m3 := hZ2.free 3
  have lu := hZ2.lt
  have HZ2 := Lib.hid hZ2
  have HB2 := Lib.hid hB2
  clear hZ2 hB2 hb2
  clear u0 u1 u2 u3 m0 m1 m2 m3 lu
  go_wp2_with fail
  refine (UC _).out.mono ?_
  rintro _ w3 ⟨rfl, hb3⟩
  have hZ3 : Blk w3 w.heap.size #[.int .i64 0, .int .i64 0, .int .i64 0, .string ⟨#[]⟩] 51 := (hb3.block _ (HZ2.out.lt)).trans HZ2.out
  have hB3 := HB2.out.trans (hb3.mono HB2.out.size)
  have u0 : w3.cell? ⟨w.heap.size, 0, none⟩ = some (.int .i64 0) := hZ3.cell 0
  have m0 := hZ3.free 0
  have u1 : w3.cell? ⟨w.heap.size, 1, none⟩ = some (.int .i64 0) := hZ3.cell 1
  have m1 := hZ3.free 1
  have u2 : w3.cell? ⟨w.heap.size, 2, none⟩ = some (.int .i64 0) := hZ3.cell 2
  have m2 := hZ3.free 2
  have u3 : w3.cell? ⟨w.heap.size, 3, none⟩ = some (.string ⟨#[]⟩) := hZ3.cell 3
  have m3 := hZ3.free 3
  have lu := hZ3.lt
  have HZ3 := Lib.hid hZ3
  have HB3 := Lib.hid hB3
  clear hZ3 hB3 hb3
  go_wp2
  obtain ⟨hS4, hB4⟩ := stored4 HZ3.out HB3.out (.int .i64 kn) (.int .i64 on) (.int .i64 tn) (.string body)
  refine bodyPost_ret (results_cell2 rfl _ _ w.heap.size 51 _ (0, 0) _ rfl (hS4.alloc (.cells #[.int .i64 kn, .int .i64 on, .int .i64 tn, .string body] 51)) Try.underlying51 rfl (by kernel_rfl)) rfl ⟨rfl, hB4.alloc hB4.size (.cells #[.int .i64 kn, .int .i64 on, .int .i64 tn, .string body] 51)⟩
theorem read_ok {At : World → Nat → RD → List Nat → Prop} (LD : LandDev At) (LP : LandPage) (w : World) (p q : Nat) (d : RD) (s : PS) (F G : List Nat) (K : Nat) (hK : K ≤ 900000) (ok : RD.Ok K d) (hfull : d.Full) (sok : s.Ok) (no : Int) (hA : At w p d F) (hP : LPg w q p s G) :
    Calls Try.prog 23 #[.pointer (some ⟨q, 0, none⟩), .int .i64 no] w fun e w' => e = .returned (.tuple #[(s.readP d no).val, .int .i64 (s.readE d no)]) ∧ Below w.heap.size w w' := by
  obtain ⟨vr, hb, _⟩ := hP
  have c0 : w.cell? ⟨q, 0, none⟩ = some (.pointer (some ⟨p, 0, none⟩)) := hb.cell 0
  have c5 : w.cell? ⟨q, 5, none⟩ = some (.int .i64 s.m.limit) := hb.cell 5
  have hm := sok.m
  rw [MV.right_iff] at hm
  by_cases hno : 1 ≤ no ∧ no < s.m.limit
  · obtain ⟨n, rfl⟩ := Int.eq_ofNat_of_zero_le (show 0 ≤ no by omega)
    obtain ⟨lim, hlim⟩ := Int.eq_ofNat_of_zero_le (show 0 ≤ s.m.limit by omega)
    rw [hlim] at c5 hno hm
    have hmr : s.mayRead n = true := by unfold PS.mayRead; rw [hlim]; simp; omega
    have R : Hid (ReadsP p n w (d.rdA (4 * n) 4) (d.rdE (4 * n) 4)) := Lib.hid (fun w1 hb => readSectors_ok LD w1 p d F K (by omega) ok hfull (4 * n) 4 (by omega) (by omega) (LD.use.touch hA (Touch.ofBelow hb) (by simp)))
    by_cases h : d.rdE (4 * n) 4 = 0
    case neg =>
      refine (read_err w p q n lim c0 c5 (by omega) (by omega) _ _ R (by simpa using h)).mono ?_
      rintro _ w' ⟨rfl, hB⟩
      refine ⟨?_, hB⟩
      unfold PS.readP PS.readE PS.fine
      rw [hmr]
      simp [h]
    have hS : d.rdA (4 * n) 4 = d.rdS (4 * n) 4 := by unfold RD.rdA; rw [if_pos h]
    rw [h, hS] at R
    have hs5 := hfull.rdS (4 * n) 4
    have UC := fun w => LP.unpack w (d.rdS (4 * n) 4) (by omega)
    have hf : PS.fine d n = (decide (unpackE (d.rdS (4 * n) 4) = 0) && decide ((unpackP (d.rdS (4 * n) 4)).no = n)) := by
      unfold PS.fine
      rw [decide_eq_true h]
      rfl
    have hrP : s.readP d n = if PS.fine d n then unpackP (d.rdS (4 * n) 4) else PV.none := by unfold PS.readP; rw [hmr]; rfl
    have hrE : s.readE d n = if PS.fine d n then 0 else 4 := by unfold PS.readE; rw [hmr, if_pos h]; rfl
    obtain ⟨⟨kn, on, tn, body⟩, hU⟩ : ∃ x, unpackP (d.rdS (4 * n) 4) = x := ⟨_, rfl⟩
    obtain ⟨UE, hUE⟩ : ∃ x, unpackE (d.rdS (4 * n) 4) = x := ⟨_, rfl⟩
    simp only [hU, hUE] at UC hf hrP
    unfold PV.val at UC
    simp only at UC
    have UC := fun w => Lib.hid (UC w)
    by_cases g1 : UE = 0
    case neg =>
      have hf0 : PS.fine d n = false := by rw [hf, decide_eq_false g1]; rfl
      rw [hrP, hrE, hf0]
      exact read_not w p q n lim c0 c5 (by omega) (by omega) _ R kn on tn body UE UC (by simpa using g1)
    by_cases g2 : on = n
    case neg =>
      have hf0 : PS.fine d n = false := by rw [hf, decide_eq_false g2, Bool.and_false]
      rw [hrP, hrE, hf0]
      exact read_other w p q n lim c0 c5 (by omega) (by omega) _ R kn on tn body UE UC (by rw [g1]; rfl) (by rw [bne_iff_ne]; exact g2)
    have hf1 : PS.fine d n = true := by rw [hf, decide_eq_true g1, decide_eq_true g2]; rfl
    rw [hrP, hrE, hf1]
    exact read_fine w p q n lim c0 c5 (by omega) (by omega) _ R kn on tn body UE UC (by rw [g1]; rfl) (by rw [g2]; simp)
  · have hmr : s.mayRead no = false := by
      unfold PS.mayRead
      simp only [Bool.and_eq_false_iff, decide_eq_false_iff_not]
      omega
    refine (read_bad w q no s.m.limit c5 (by omega)).mono ?_
    rintro _ w' ⟨rfl, hB⟩
    refine ⟨?_, hB⟩
    unfold PS.readP PS.readE
    rw [hmr]
    rfl
end Go.Proofs.Ytjgmlpfallakmaa
end
section
namespace Go.Proofs.Ytjgmlpfallakmaa
open Go.RowKit
attribute [local go_sem ↓] Go.wp_at_zero Go.wp_at_succ
set_option maxRecDepth 4000 in
set_option maxHeartbeats 3200000 in
theorem write_nil (w : World) (x : PV) : Calls Try.prog 25 #[.pointer none, x.val] w fun e w' => e = .returned (.int .i64 2) ∧ Below w.heap.size w w' := by
  obtain ⟨kn, no, tn, body⟩ := x
  unfold PV.val
  simp only
  go_enter Try.func25, Try.ntmps25
  go_wp2
  go_ret
  exact ⟨rfl, (Below.refl _ _).alloc (Nat.le_refl _) _⟩
set_option maxRecDepth 4000 in
set_option maxHeartbeats 3200000 in
theorem write_bad (LP : LandPage) (w : World) (q : Nat) (x : PV) (hx : x.right = false) (hs : x.body.size ≤ 2000) :
    Calls Try.prog 25 #[.pointer (some ⟨q, 0, none⟩), x.val] w fun e w' => e = .returned (.int .i64 4) ∧ Below w.heap.size w w' := by
  have PC := fun w => LP.pack w x hs
  rw [show x.packE = 4 by unfold PV.packE; rw [hx]; rfl] at PC
  obtain ⟨S, hS⟩ : ∃ S, x.packS = S := ⟨_, rfl⟩
  rw [hS] at PC
  obtain ⟨kn, no, tn, body⟩ := x
  unfold PV.val at PC ⊢
  simp only at PC ⊢
  have PC := fun w => Lib.hid (PC w)
  clear hx hs hS
  go_enter Try.func25, Try.ntmps25
  go_wp2_with fail
  refine (PC _).out.mono ?_
  rintro _ w1 ⟨rfl, hb1⟩
  have HB : Hid (Below w.heap.size w w1) := Lib.hid (((Below.refl _ w).alloc (Nat.le_refl _) _).trans (hb1.mono (by simp)))
  clear hb1
  go_wp2
  go_ret
  exact ⟨rfl, HB.out⟩
set_option maxRecDepth 4000 in
set_option maxHeartbeats 3200000 in
theorem write_far (LP : LandPage) (w : World) (q : Nat) (x : PV) (hx : x.right = true) (lim : Nat) (c5 : w.cell? ⟨q, 5, none⟩ = some (.int .i64 lim)) (hl : ¬ x.no < lim) :
    Calls Try.prog 25 #[.pointer (some ⟨q, 0, none⟩), x.val] w fun e w' => e = .returned (.int .i64 1) ∧ Below w.heap.size w w' := by
  have hr := hx
  rw [PV.right_iff] at hr
  have PC := fun w => LP.pack w x (by omega)
  rw [show x.packE = 0 by unfold PV.packE; rw [hx]; rfl] at PC
  obtain ⟨S, hS⟩ : ∃ S, x.packS = S := ⟨_, rfl⟩
  rw [hS] at PC
  obtain ⟨kn, no, tn, body⟩ := x
  simp only at hr hl
  obtain ⟨n, rfl⟩ := Int.eq_ofNat_of_zero_le (show 0 ≤ no by omega)
  have d2 : decide (lim ≤ n) = true := decide_eq_true (by omega)
  unfold PV.val at PC ⊢
  simp only at PC ⊢
  have PC := fun w => Lib.hid (PC w)
  have hq : q < w.heap.size := World.block_lt_of_cell? _ _ c5
  clear hx hr hS hl
  go_enter Try.func25, Try.ntmps25
  go_wp2_with fail
  refine (PC _).out.mono ?_
  rintro _ w1 ⟨rfl, hb1⟩
  have hX : Blk w1 w.heap.size #[.int .i64 kn, .int .i64 n, .int .i64 tn, .string body] 51 := (hb1.block _ (by simp)).trans (heap_alloc_new w _)
  have y1 : w1.cell? ⟨w.heap.size, 1, none⟩ = some (.int .i64 n) := hX.cell 1
  have HB : Hid (Below w.heap.size w w1) := Lib.hid (((Below.refl _ w).alloc (Nat.le_refl _) _).trans (hb1.mono (by simp)))
  have x5 := (HB.out.cell (p := ⟨q, 5, none⟩) hq).trans c5
  clear hb1 hX
  go_wp2
  go_quiet (fail)
  go_wp2
  go_ret
  exact ⟨rfl, below_drewN2 HB.out _⟩
theorem nodup_two {q : Nat} {b : Option Nat} (h : (q :: b.toList).Nodup) : b ≠ some q := by
  rintro rfl
  simp at h
set_option maxRecDepth 4000 in
set_option maxHeartbeats 3200000 in
theorem write_in {At : World → Nat → RD → List Nat → Prop} (LD : LandDev At) (LP : LandPage) (w : World) (p q : Nat) (d : RD) (s : PS) (F G : List Nat) (K : Nat) (hK : K ≤ 900000) (ok : RD.Ok K d) (hrow : s.row.length ≤ K) (x : PV) (hx : x.right = true) (hA : At w p d F) (hP : LPg w q p s G) (hFG : ∀ k ∈ F, k ∉ G) (lim : Nat) (hlim : s.m.limit = lim) (hl : x.no < lim) :
    Calls Try.prog 25 #[.pointer (some ⟨q, 0, none⟩), x.val] w (Did2 At LPg w p q (F ++ G) (d.wr (4 * x.no) x.packS 4).1 { s with row := s.row ++ [x.no] } (.returned (.int .i64 (d.wr (4 * x.no) x.packS 4).2))) := by
  have hr := hx
  rw [PV.right_iff] at hr
  have hS5 := PV.packS_512 x hx
  have PC := fun w => LP.pack w x (by omega)
  rw [show x.packE = 0 by unfold PV.packE; rw [hx]; rfl] at PC
  obtain ⟨S, hS⟩ : ∃ S, x.packS = S := ⟨_, rfl⟩
  rw [hS] at PC hS5
  rw [hS]
  clear hS
  obtain ⟨kn, no, tn, body⟩ := x
  simp only at hr hl ⊢
  obtain ⟨n, rfl⟩ := Int.eq_ofNat_of_zero_le (show 0 ≤ no by omega)
  have d2 : decide (lim ≤ n) = false := decide_eq_false (by omega)
  have hn5 : n ≤ 511 := by omega
  have x4 : IntKind.i64.wrap (4 * (n : Int)) = 4 * n := IntWalk.i64_in _ (by omega)
  unfold PV.val at PC ⊢
  simp only at PC ⊢
  have PC := fun w => Lib.hid (PC w)
  have WS := Lib.hid (fun w1 (hw : At w1 p d F) => writeSectors_ok LD w1 p d F K (by omega) ok (4 * n) 4 S (by omega) (by omega) (by omega) hw)
  have HA := Lib.hid hA
  have HFG := Lib.hid hFG
  have HLF := Lib.hid (LD.use.lt hA)
  have HLG := Lib.hid hP.lt
  obtain ⟨vr, hb, hr2, hG, hN⟩ := hP
  have hn18 : (lgCells s p vr)[18]? = some vr := rfl
  have hn5' : (lgCells s p vr)[5]? = some (.int .i64 lim) := by rw [← hlim]; rfl
  have hn0 : (lgCells s p vr)[0]? = some (.pointer (some ⟨p, 0, none⟩)) := rfl
  have hcs : ∀ v, (lgCells s p vr).setIfInBounds 18 v = lgCells { s with row := s.row ++ [(n : Int)] } p v := fun v => rfl
  generalize hC : lgCells s p vr = CS at hb hn18 hn5' hn0 hcs
  clear hC
  have hq := hb.lt
  obtain ⟨i0, hi, hz0, hz1, hz2⟩ := info_parts info3
  have HNE : Hid (vr.ownBlock ≠ some q) := Lib.hid (nodup_two (hG ▸ hN))
  have HNE' : Hid (some q ≠ vr.ownBlock) := Lib.hid (fun e => HNE.out e.symm)
  have HG := Lib.hid hG
  have HCS := Lib.hid hcs
  have HT : Hid (∀ {w' : World} {S : List Nat}, Touch S w w' → (∀ k ∈ S, k ∉ F) → At w' p d F) := Lib.hid (fun hT hS => LD.use.touch HA.out hT hS)
  clear hx hr hl hA hFG ok hG hN hcs
  go_enter Try.func25, Try.ntmps25
  go_wp2_with fail
  refine (PC _).out.mono ?_
  rintro _ w1 ⟨rfl, hb1⟩
  have hX : Blk w1 w.heap.size #[.int .i64 kn, .int .i64 n, .int .i64 tn, .string body] 51 := (hb1.block _ (by simp)).trans (heap_alloc_new w _)
  have y1 : w1.cell? ⟨w.heap.size, 1, none⟩ = some (.int .i64 n) := hX.cell 1
  have HB : Hid (Below w.heap.size w w1) := Lib.hid (((Below.refl _ w).alloc (Nat.le_refl _) _).trans (hb1.mono (by simp)))
  have hbp := hb.touch (Touch.ofBelow HB.out) (by simp)
  have hr1 := ownsRow_touch (S := []) hr2 (Touch.ofBelow HB.out) (by simp)
  have x5 : w1.cell? ⟨q, 5, none⟩ = some (.int .i64 lim) := (hbp.cell 5).trans hn5'
  have HX := Lib.hid hX
  clear hb1 hX
  go_wp2
  go_quiet (fail)
  go_upto_region 8 with fail
  obtain ⟨wq, hwq⟩ : ∃ wq, w1.drewN nq = wq := ⟨_, rfl⟩
  have hBq : Below w.heap.size w wq := hwq ▸ below_drewN2 HB.out nq
  have hXq : Blk wq w.heap.size #[.int .i64 kn, .int .i64 n, .int .i64 tn, .string body] 51 := hwq ▸ HX.out
  have hbq := hb.touch (Touch.ofBelow hBq) (by simp)
  have hrq := ownsRow_touch (S := []) hr2 (Touch.ofBelow hBq) (by simp)
  rw [hwq]
  clear hwq y1 hbp hr1 x5 hr2 hb
  have y1 : wq.cell? ⟨w.heap.size, 1, none⟩ = some (.int .i64 n) := hXq.cell 1
  have x18 : wq.cell? ⟨q, 18, none⟩ = some vr := (hbq.cell 18).trans hn18
  have HXq := Lib.hid hXq
  have HBq := Lib.hid hBq
  have hqx : q ≠ w.heap.size := by omega
  have hlq := hbq.lt
  have hxq := hXq.lt
  go_cut [35] (fun s35 wx => ∃ g, LPg wx q p { s with row := s.row ++ [(n : Int)] } (q :: [g]) ∧ (∀ k ∈ q :: [g], k ∈ G ∨ w.heap.size ≤ k) ∧ Touch G w wx ∧ Blk wx w.heap.size #[.int .i64 kn, .int .i64 n, .int .i64 tn, .string body] 51)
  case first =>
    go_region_law
      ((refine step_append_lies _ (by rfl) _ _ _ (by rfl) 0 3 i0 _ 1 8 Try.underlying35 hi hz0 hz1 hz2 rfl (by omega) vr s.row.length _ (by rfl) (hrq.alloc _)
            ⟨wq.heap.size, 0, none⟩ 1 1 [.int .i64 n] (by rfl) (by rfl) (World.news_of_block (heap_alloc_new wq _)) (by simp [Value.oneCell'])
            (by omega) (by simp [maxLen]; omega) (by omega) (by simp) (wq.heap.size + 1) (by simp) ?_; intro g cap w2 hown2 hgrow hat hlt2; have kb2 := ((hbq.alloc (.cells #[.int .i64 n] 3)).drew).grown hgrow HNE'.out; have g0 : w2.cell? ⟨q, 18, none⟩ = some vr := (kb2.cell 18).trans hn18; have g1 := kb2.free 18; have g2 := kb2.lt))
    all_goals
      go_wp2
      go_meet
      have hs5 := HBq.out.size
      have hvr : ∀ k, vr.ownBlock = some k → k < w.heap.size := fun k hk => HLG.out k (by rw [HG.out, hk]; simp)
      have TT : Touch (q :: vr.ownBlock.toList) w (w2.setCell ⟨q, 18, none⟩ (.slice (some ⟨g, 0, none⟩) (s.row.length + 1) cap)) :=
        (((((Touch.ofBelow HBq.out).more (S' := q :: vr.ownBlock.toList) (by simp)).alloc _).drew.grown hgrow (by intro k hk; left; simp [hk])).setCell (p := ⟨q, 18, none⟩) (.inl (by simp)) _)
      have hgq : g ≠ q := by
        rcases hat with hat | hat
        · intro e; subst e; exact HNE.out hat
        · omega
      refine ⟨g, ⟨.slice (some ⟨g, 0, none⟩) (s.row.length + 1) cap, ?_, ?_, rfl, ?_⟩, ?_, ?_, ?_⟩
      · rw [← HCS.out]
        exact kb2.set 18 (.slice (some ⟨g, 0, none⟩) (s.row.length + 1) cap)
      · show World.ownsRow _ 0 3 1 _ (s.row ++ [(n : Int)]).length ((s.row ++ [(n : Int)]).map (Value.int .i64))
        rw [List.length_append, List.map_append]
        refine ownsRow_touch (S := [q]) hown2 ((Touch.refl [q] w2).setCell (p := ⟨q, 18, none⟩) (.inl (by simp)) _) ?_
        intro k hk hm
        have hk : g = k := by simpa [Value.ownBlock] using hk
        simp only [List.mem_singleton] at hm
        exact hgq (hk.trans hm)
      · simp only [List.nodup_cons, List.mem_singleton, List.not_mem_nil, not_false_eq_true, List.nodup_nil, and_true]
        exact fun e => hgq e.symm
      · intro k hk
        rw [HG.out]
        simp only [List.mem_cons, List.not_mem_nil, or_false] at hk
        rcases hk with rfl | rfl
        · exact .inl (by simp)
        · rcases hat with hat | hat
          · exact .inl (by rw [hat]; simp)
          · exact .inr (by omega)
      · rw [HG.out]
        exact TT
      · exact ((((HXq.out.alloc (.cells #[.int .i64 n] 3)).drew).grown hgrow (fun e => by have := hvr _ e.symm; omega)).setOther (a := ⟨q, 18, none⟩) (by show w.heap.size ≠ q; omega) _)
  case rest =>
    obtain ⟨g, hP1, hGk, hT1, hX1⟩ := hcut
    have hA1 := HT.out hT1 (fun k hk hm => HFG.out k hm hk)
    have hFG1 : Hid (∀ k ∈ F, k ∉ q :: [g]) := Lib.hid (fun k hk hm => (hGk k hm).elim (fun h => HFG.out k hk h) (fun h => by have := HLF.out k hk; omega))
    have HFB : Hid (∀ k ∈ F, k ≠ w.heap.size ∧ k ≠ q) := Lib.hid (fun k hk => ⟨fun e => by have := HLF.out k hk; omega, fun e => by subst e; exact hFG1.out k hk (by simp)⟩)
    have hq0 : Hid (wc.cell? ⟨q, 0, none⟩ = some (.pointer (some ⟨p, 0, none⟩))) := Lib.hid (by
      obtain ⟨ur, kb, _⟩ := hP1
      exact kb.cell 0)
    have x0 := hq0.out
    have y1 : wc.cell? ⟨w.heap.size, 1, none⟩ = some (.int .i64 n) := hX1.cell 1
    have HP1 := Lib.hid hP1
    have HGK := Lib.hid hGk
    have HT1 := Lib.hid hT1
    have HX1 := Lib.hid hX1
    have hwq : q < wc.heap.size := Nat.lt_of_lt_of_le hq hT1.size
    have hwx : w.heap.size < wc.heap.size := HX1.out.lt
    have HWS := Lib.hid (WS.out wc.drew (LD.use.touch hA1 (Touch.refl [] wc).drew (by simp)))
    clear hP1 hGk hT1 hX1 hA1 hXq hBq hbq hrq x18 hqx hlq hxq WS
    go_upto_region 9 with fail
    go_region_held3 (fun w' => w'.cell? ⟨q, 0, none⟩ = some (.pointer (some ⟨p, 0, none⟩)) ∧ w'.cell? ⟨w.heap.size, 1, none⟩ = some (.int .i64 n))
      (first | (go_keep; done) | exact KK.out)
      (first | (go_at_call 47; refine HWS.out.mono ?_; rintro e w2 ⟨rfl, F2, hA2, hT2, hG2⟩; have KK := Lib.hid (And.intro ((hT2.cell (p := ⟨q, 0, none⟩) hwq (fun hm => (HFB.out q hm).2 rfl)).trans x0) ((hT2.cell (p := ⟨w.heap.size, 1, none⟩) hwx (fun hm => (HFB.out _ hm).1 rfl)).trans y1))))
    go_wp2
    go_ret
    have hT3 : Touch F wc w2 := (Touch.refl F wc).drew.trans hT2 (Grows.refl _ _)
    have hs1 := HT1.out.size
    refine ⟨rfl, F2, q :: [g], hA2, HP1.out.touch hT3 hFG1.out, ?_, ?_, ?_⟩
    · intro k hk hm
      rcases hG2 k hk with h | h
      · exact hFG1.out k h hm
      · have := HP1.out.lt k hm
        have h : wc.heap.size ≤ k := h
        omega
    · exact (HT1.out.more (fun k hk => List.mem_append_right _ hk)).trans (hT3.more (fun k hk => List.mem_append_left _ hk)) (Grows.refl _ _)
    · intro k hk
      rcases List.mem_append.1 hk with hk | hk
      · rcases hG2 k hk with h | h
        · exact .inl (List.mem_append_left _ h)
        · exact .inr (Nat.le_trans hs1 h)
      · exact (HGK.out k hk).elim (fun h => .inl (List.mem_append_right _ h)) .inr
theorem write_ok {At : World → Nat → RD → List Nat → Prop} (LD : LandDev At) (LP : LandPage) (w : World) (p q : Nat) (d : RD) (s : PS) (F G : List Nat) (K : Nat) (hK : K ≤ 900000) (ok : RD.Ok K d) (sok : s.Ok) (hrow : s.row.length ≤ K) (x : PV) (hs : x.body.size ≤ 2000) (hA : At w p d F) (hP : LPg w q p s G) (hFG : ∀ k ∈ F, k ∉ G) :
    Calls Try.prog 25 #[.pointer (some ⟨q, 0, none⟩), x.val] w (Did2 At LPg w p q (F ++ G) (s.writeD d x) (s.writeS x) (.returned (.int .i64 (s.writeE d x)))) := by
  have hm := sok.m
  rw [MV.right_iff] at hm
  obtain ⟨lim, hlim⟩ := Int.eq_ofNat_of_zero_le (show 0 ≤ s.m.limit by omega)
  have c5 : w.cell? ⟨q, 5, none⟩ = some (.int .i64 lim) := by
    obtain ⟨vr, hb, _⟩ := hP
    rw [← hlim]
    exact hb.cell 5
  have stay : ∀ (e : Ending) (w' : World), Below w.heap.size w w' → Did2 At LPg w p q (F ++ G) d s e e w' := fun e w' hB => Did2.same (LD.use.touch hA (Touch.ofBelow hB) (by simp)) (hP.touch (Touch.ofBelow hB) (by simp)) hFG hB
  cases hx : x.right
  · have h1 : s.mayWrite x = false := by unfold PS.mayWrite; rw [hx]; rfl
    refine (write_bad LP w q x hx hs).mono ?_
    rintro _ w' ⟨rfl, hB⟩
    unfold PS.writeD PS.writeS PS.writeE
    rw [h1, hx]
    exact stay _ _ hB
  · by_cases hl : x.no < lim
    · have h1 : s.mayWrite x = true := by unfold PS.mayWrite; rw [hx, hlim, decide_eq_true hl]; rfl
      have := write_in LD LP w p q d s F G K hK ok hrow x hx hA hP hFG lim hlim hl
      unfold PS.writeD PS.writeS PS.writeE
      rw [h1, hx, hlim, if_pos hl]
      exact this
    · have h1 : s.mayWrite x = false := by unfold PS.mayWrite; rw [hx, hlim, decide_eq_false hl]; rfl
      refine (write_far LP w q x hx lim c5 hl).mono ?_
      rintro _ w' ⟨rfl, hB⟩
      unfold PS.writeD PS.writeS PS.writeE
      rw [h1, hx, hlim, if_neg hl]
      exact stay _ _ hB
end Go.Proofs.Ytjgmlpfallakmaa
end
section
namespace Go.Proofs.Ytjgmlpfallakmaa
open Go.RowKit
attribute [local go_sem ↓] Go.wp_at_zero Go.wp_at_succ
set_option maxRecDepth 100000 in
set_option maxHeartbeats 3200000 in
theorem seal_nil (w : World) (m : MV) : Calls Try.prog 13 #[.pointer none, m.val] w fun e w' => e = .returned (.int .i64 2) ∧ Below w.heap.size w w' := by
  obtain ⟨mt, mr, mf, mp, ml⟩ := m
  unfold MV.val
  simp only
  go_enter Try.func13, Try.ntmps13
  go_wp2
  go_ret
  exact ⟨rfl, (Below.refl _ _).alloc (Nat.le_refl _) _⟩
set_option maxRecDepth 100000 in
set_option maxHeartbeats 3200000 in
theorem seal_bad (w : World) (q : Nat) (mt mr mf mp ml lim : Int) (c5 : w.cell? ⟨q, 5, none⟩ = some (.int .i64 lim)) (RC : ∀ w, Hid (Calls Try.prog 33 #[.agg #[.int .i64 mt, .int .i64 mr, .int .i64 mf, .int .i64 mp, .int .i64 ml]] w fun e w' => e = .returned (.bool false) ∧ Below w.heap.size w w')) :
    Calls Try.prog 13 #[.pointer (some ⟨q, 0, none⟩), .agg #[.int .i64 mt, .int .i64 mr, .int .i64 mf, .int .i64 mp, .int .i64 ml]] w fun e w' => e = .returned (.int .i64 4) ∧ Below w.heap.size w w' := by
  have hX0 : Blk (w.alloc (.cells #[.int .i64 mt, .int .i64 mr, .int .i64 mf, .int .i64 mp, .int .i64 ml] 32)) w.heap.size #[.int .i64 mt, .int .i64 mr, .int .i64 mf, .int .i64 mp, .int .i64 ml] 32 := Blk.new w _ _
  have hB0 : Below w.heap.size w (w.alloc (.cells #[.int .i64 mt, .int .i64 mr, .int .i64 mf, .int .i64 mp, .int .i64 ml] 32)) := (Below.refl _ w).alloc (Nat.le_refl _) _
  have hq : q < w.heap.size := World.block_lt_of_cell? _ _ c5
  have KX : Hid (∀ wS, Below (w.alloc (.cells #[.int .i64 mt, .int .i64 mr, .int .i64 mf, .int .i64 mp, .int .i64 ml] 32)).heap.size (w.alloc (.cells #[.int .i64 mt, .int .i64 mr, .int .i64 mf, .int .i64 mp, .int .i64 ml] 32)) wS → wS.cell? ⟨w.heap.size, 0, none⟩ = some (.int .i64 mt) ∧ wS.cell? ⟨w.heap.size, 1, none⟩ = some (.int .i64 mr) ∧ wS.cell? ⟨w.heap.size, 2, none⟩ = some (.int .i64 mf) ∧ wS.cell? ⟨w.heap.size, 3, none⟩ = some (.int .i64 mp) ∧ wS.cell? ⟨w.heap.size, 4, none⟩ = some (.int .i64 ml) ∧ wS.cell? ⟨q, 5, none⟩ = some (.int .i64 lim)) :=
    Lib.hid (fun wS hS => by
      have hb : Blk wS w.heap.size #[.int .i64 mt, .int .i64 mr, .int .i64 mf, .int .i64 mp, .int .i64 ml] 32 := (hS.block _ hX0.lt).trans hX0
      exact ⟨hb.cell 0, hb.cell 1, hb.cell 2, hb.cell 3, hb.cell 4, ((hS.cell (p := ⟨q, 5, none⟩) (by simp; omega)).trans (hB0.cell (p := ⟨q, 5, none⟩) hq)).trans c5⟩)
  have E33 : ∀ args w, (callFunc 33 args).run Try.prog w = .ok (.enter 33 args) w := func_enters Try.func33 (by rfl) (by rfl)
  have HB0 := Lib.hid hB0
  have HX0 := Lib.hid hX0
  clear hX0 hB0
  have RQ : Hid (∀ wS, Below (w.alloc (.cells #[.int .i64 mt, .int .i64 mr, .int .i64 mf, .int .i64 mp, .int .i64 ml] 32)).heap.size (w.alloc (.cells #[.int .i64 mt, .int .i64 mr, .int .i64 mf, .int .i64 mp, .int .i64 ml] 32)) wS → Calls Try.prog 33 #[.agg #[.int .i64 mt, .int .i64 mr, .int .i64 mf, .int .i64 mp, .int .i64 ml]] wS fun e w' => e = .returned (.bool false) ∧ Below (w.alloc (.cells #[.int .i64 mt, .int .i64 mr, .int .i64 mf, .int .i64 mp, .int .i64 ml] 32)).heap.size (w.alloc (.cells #[.int .i64 mt, .int .i64 mr, .int .i64 mf, .int .i64 mp, .int .i64 ml] 32)) w') := Lib.hid (fun wS hS => (RC wS).out.mono fun _ _ ⟨e, hb⟩ => ⟨e, hS.trans (hb.mono hS.size)⟩)
  clear RC
  go_enter Try.func13, Try.ntmps13
  go_upto_region 3 with fail
  refine region_qh (C := fun w' => Below (w.alloc (.cells #[.int .i64 mt, .int .i64 mr, .int .i64 mf, .int .i64 mp, .int .i64 ml] 32)).heap.size (w.alloc (.cells #[.int .i64 mt, .int .i64 mr, .int .i64 mf, .int .i64 mp, .int .i64 ml] 32)) w') (by kernel_rfl) (by kernel_rfl) (Below.refl _ (w.alloc (.cells #[.int .i64 mt, .int .i64 mr, .int .i64 mf, .int .i64 mp, .int .i64 ml] 32))).drew ?_
  refine qh_op (.agg #[.int .i64 mt, .int .i64 mr, .int .i64 mf, .int .i64 mp, .int .i64 ml]) rfl (fun wS hSw => by obtain ⟨k0, k1, k2, k3, k4, k5⟩ := KX.out wS hSw; go_simp; try with_reducible rfl) ?_
  simp only [Act.put, List.setIfInBounds_toArray, List.set_cons_zero, List.set_cons_succ]
  refine qh_call1 (.bool false) rfl 33 _ _ rfl (.agg #[.int .i64 mt, .int .i64 mr, .int .i64 mf, .int .i64 mp, .int .i64 ml]) (by rfl) E33 (fun wS hSw => RQ.out wS hSw) ?_
  simp only [Act.put, List.setIfInBounds_toArray, List.set_cons_zero, List.set_cons_succ]
  refine qh_op (.bool true) rfl (fun wS hSw => by go_simp; try with_reducible rfl) ?_
  simp only [Act.put, List.setIfInBounds_toArray, List.set_cons_zero, List.set_cons_succ]
  refine qh_op (.bool true) rfl (fun wS hSw => by go_simp; try with_reducible rfl) ?_
  simp only [Act.put, List.setIfInBounds_toArray, List.set_cons_zero, List.set_cons_succ]
  refine qh_skip (by rfl) ?_
  simp only [Act.put, List.setIfInBounds_toArray, List.set_cons_zero, List.set_cons_succ]
  refine qh_skip (by rfl) ?_
  simp only [Act.put, List.setIfInBounds_toArray, List.set_cons_zero, List.set_cons_succ]
  refine qh_skip (by rfl) ?_
  simp only [Act.put, List.setIfInBounds_toArray, List.set_cons_zero, List.set_cons_succ]
  refine qh_skip (by rfl) ?_
  simp only [Act.put, List.setIfInBounds_toArray, List.set_cons_zero, List.set_cons_succ]
  refine qh_skip (by rfl) ?_
  simp only [Act.put, List.setIfInBounds_toArray, List.set_cons_zero, List.set_cons_succ]
  refine qh_skip (by rfl) ?_
  simp only [Act.put, List.setIfInBounds_toArray, List.set_cons_zero, List.set_cons_succ]
  refine qh_skip (by rfl) ?_
  simp only [Act.put, List.setIfInBounds_toArray, List.set_cons_zero, List.set_cons_succ]
  refine qh_skip (by rfl) ?_
  simp only [Act.put, List.setIfInBounds_toArray, List.set_cons_zero, List.set_cons_succ]
  refine qh_op (.bool true) rfl (fun wS hSw => by go_simp; try with_reducible rfl) ?_
  simp only [Act.put, List.setIfInBounds_toArray, List.set_cons_zero, List.set_cons_succ]
  refine qh_nil ⟨?_⟩
  intro wE hE
  go_wp2
  go_ret
  exact ⟨rfl, HB0.out.trans (hE.mono HB0.out.size)⟩
set_option maxRecDepth 100000 in
set_option maxHeartbeats 3200000 in
theorem seal_lim (w : World) (q : Nat) (mt mr mf mp ml lim : Int) (c5 : w.cell? ⟨q, 5, none⟩ = some (.int .i64 lim)) (RC : ∀ w, Hid (Calls Try.prog 33 #[.agg #[.int .i64 mt, .int .i64 mr, .int .i64 mf, .int .i64 mp, .int .i64 ml]] w fun e w' => e = .returned (.bool true) ∧ Below w.heap.size w w')) (d1 : (ml != lim) = true) :
    Calls Try.prog 13 #[.pointer (some ⟨q, 0, none⟩), .agg #[.int .i64 mt, .int .i64 mr, .int .i64 mf, .int .i64 mp, .int .i64 ml]] w fun e w' => e = .returned (.int .i64 4) ∧ Below w.heap.size w w' := by
  have hX0 : Blk (w.alloc (.cells #[.int .i64 mt, .int .i64 mr, .int .i64 mf, .int .i64 mp, .int .i64 ml] 32)) w.heap.size #[.int .i64 mt, .int .i64 mr, .int .i64 mf, .int .i64 mp, .int .i64 ml] 32 := Blk.new w _ _
  have hB0 : Below w.heap.size w (w.alloc (.cells #[.int .i64 mt, .int .i64 mr, .int .i64 mf, .int .i64 mp, .int .i64 ml] 32)) := (Below.refl _ w).alloc (Nat.le_refl _) _
  have hq : q < w.heap.size := World.block_lt_of_cell? _ _ c5
  have KX : Hid (∀ wS, Below (w.alloc (.cells #[.int .i64 mt, .int .i64 mr, .int .i64 mf, .int .i64 mp, .int .i64 ml] 32)).heap.size (w.alloc (.cells #[.int .i64 mt, .int .i64 mr, .int .i64 mf, .int .i64 mp, .int .i64 ml] 32)) wS → wS.cell? ⟨w.heap.size, 0, none⟩ = some (.int .i64 mt) ∧ wS.cell? ⟨w.heap.size, 1, none⟩ = some (.int .i64 mr) ∧ wS.cell? ⟨w.heap.size, 2, none⟩ = some (.int .i64 mf) ∧ wS.cell? ⟨w.heap.size, 3, none⟩ = some (.int .i64 mp) ∧ wS.cell? ⟨w.heap.size, 4, none⟩ = some (.int .i64 ml) ∧ wS.cell? ⟨q, 5, none⟩ = some (.int .i64 lim)) :=
    Lib.hid (fun wS hS => by
      have hb : Blk wS w.heap.size #[.int .i64 mt, .int .i64 mr, .int .i64 mf, .int .i64 mp, .int .i64 ml] 32 := (hS.block _ hX0.lt).trans hX0
      exact ⟨hb.cell 0, hb.cell 1, hb.cell 2, hb.cell 3, hb.cell 4, ((hS.cell (p := ⟨q, 5, none⟩) (by simp; omega)).trans (hB0.cell (p := ⟨q, 5, none⟩) hq)).trans c5⟩)
  have E33 : ∀ args w, (callFunc 33 args).run Try.prog w = .ok (.enter 33 args) w := func_enters Try.func33 (by rfl) (by rfl)
  have HB0 := Lib.hid hB0
  have HX0 := Lib.hid hX0
  clear hX0 hB0
  have RQ : Hid (∀ wS, Below (w.alloc (.cells #[.int .i64 mt, .int .i64 mr, .int .i64 mf, .int .i64 mp, .int .i64 ml] 32)).heap.size (w.alloc (.cells #[.int .i64 mt, .int .i64 mr, .int .i64 mf, .int .i64 mp, .int .i64 ml] 32)) wS → Calls Try.prog 33 #[.agg #[.int .i64 mt, .int .i64 mr, .int .i64 mf, .int .i64 mp, .int .i64 ml]] wS fun e w' => e = .returned (.bool true) ∧ Below (w.alloc (.cells #[.int .i64 mt, .int .i64 mr, .int .i64 mf, .int .i64 mp, .int .i64 ml] 32)).heap.size (w.alloc (.cells #[.int .i64 mt, .int .i64 mr, .int .i64 mf, .int .i64 mp, .int .i64 ml] 32)) w') := Lib.hid (fun wS hS => (RC wS).out.mono fun _ _ ⟨e, hb⟩ => ⟨e, hS.trans (hb.mono hS.size)⟩)
  clear RC
  go_enter Try.func13, Try.ntmps13
  go_upto_region 3 with fail
  refine region_qh (C := fun w' => Below (w.alloc (.cells #[.int .i64 mt, .int .i64 mr, .int .i64 mf, .int .i64 mp, .int .i64 ml] 32)).heap.size (w.alloc (.cells #[.int .i64 mt, .int .i64 mr, .int .i64 mf, .int .i64 mp, .int .i64 ml] 32)) w') (by kernel_rfl) (by kernel_rfl) (Below.refl _ (w.alloc (.cells #[.int .i64 mt, .int .i64 mr, .int .i64 mf, .int .i64 mp, .int .i64 ml] 32))).drew ?_
  refine qh_op (.agg #[.int .i64 mt, .int .i64 mr, .int .i64 mf, .int .i64 mp, .int .i64 ml]) rfl (fun wS hSw => by obtain ⟨k0, k1, k2, k3, k4, k5⟩ := KX.out wS hSw; go_simp; try with_reducible rfl) ?_
  simp only [Act.put, List.setIfInBounds_toArray, List.set_cons_zero, List.set_cons_succ]
  refine qh_call1 (.bool true) rfl 33 _ _ rfl (.agg #[.int .i64 mt, .int .i64 mr, .int .i64 mf, .int .i64 mp, .int .i64 ml]) (by rfl) E33 (fun wS hSw => RQ.out wS hSw) ?_
  simp only [Act.put, List.setIfInBounds_toArray, List.set_cons_zero, List.set_cons_succ]
  refine qh_op (.bool false) rfl (fun wS hSw => by go_simp; try with_reducible rfl) ?_
  simp only [Act.put, List.setIfInBounds_toArray, List.set_cons_zero, List.set_cons_succ]
  refine qh_op (.bool false) rfl (fun wS hSw => by go_simp; try with_reducible rfl) ?_
  simp only [Act.put, List.setIfInBounds_toArray, List.set_cons_zero, List.set_cons_succ]
  refine qh_opw (.pointer (some ⟨w.heap.size, 4, none⟩)) (by rfl) (fun wS hSw => by go_simp; try with_reducible rfl) ?_
  simp only [Act.put, List.setIfInBounds_toArray, List.set_cons_zero, List.set_cons_succ]
  refine qh_opw (.int .i64 ml) (by rfl) (fun wS hSw => by obtain ⟨k0, k1, k2, k3, k4, k5⟩ := KX.out wS hSw; go_simp; try with_reducible rfl) ?_
  simp only [Act.put, List.setIfInBounds_toArray, List.set_cons_zero, List.set_cons_succ]
  refine qh_opw (.pointer (some ⟨q, 0, none⟩)) (by rfl) (fun wS hSw => by go_simp; try with_reducible rfl) ?_
  simp only [Act.put, List.setIfInBounds_toArray, List.set_cons_zero, List.set_cons_succ]
  refine qh_opw (.pointer (some ⟨q, 0, none⟩)) (by rfl) (fun wS hSw => by go_simp; try with_reducible rfl) ?_
  simp only [Act.put, List.setIfInBounds_toArray, List.set_cons_zero, List.set_cons_succ]
  refine qh_opw (.pointer (some ⟨q, 1, none⟩)) (by rfl) (fun wS hSw => by go_simp; try with_reducible rfl) ?_
  simp only [Act.put, List.setIfInBounds_toArray, List.set_cons_zero, List.set_cons_succ]
  refine qh_opw (.pointer (some ⟨q, 5, none⟩)) (by rfl) (fun wS hSw => by go_simp; try with_reducible rfl) ?_
  simp only [Act.put, List.setIfInBounds_toArray, List.set_cons_zero, List.set_cons_succ]
  refine qh_opw (.int .i64 lim) (by rfl) (fun wS hSw => by obtain ⟨k0, k1, k2, k3, k4, k5⟩ := KX.out wS hSw; go_simp; try with_reducible rfl) ?_
  simp only [Act.put, List.setIfInBounds_toArray, List.set_cons_zero, List.set_cons_succ]
  refine qh_opw (.bool true) (by rfl) (fun wS hSw => by go_simp; try with_reducible rfl) ?_
  simp only [Act.put, List.setIfInBounds_toArray, List.set_cons_zero, List.set_cons_succ]
  refine qh_op (.bool true) rfl (fun wS hSw => by go_simp; try with_reducible rfl) ?_
  simp only [Act.put, List.setIfInBounds_toArray, List.set_cons_zero, List.set_cons_succ]
  refine qh_nil ⟨?_⟩
  intro wE hE
  go_wp2
  go_ret
  exact ⟨rfl, HB0.out.trans (hE.mono HB0.out.size)⟩
set_option maxRecDepth 100000 in
set_option maxHeartbeats 3200000 in
theorem seal_txn (w : World) (q p : Nat) (mt mr mf mp ml : Int) (t : Nat) (ht : t ≤ 1099511627776) (b : Bool) (c0 : w.cell? ⟨q, 0, none⟩ = some (.pointer (some ⟨p, 0, none⟩))) (c5 : w.cell? ⟨q, 5, none⟩ = some (.int .i64 ml)) (c1 : w.cell? ⟨q, 1, none⟩ = some (.int .i64 t)) (c17 : w.cell? ⟨q, 17, none⟩ = some (.bool b)) (RC : ∀ w, Hid (Calls Try.prog 33 #[.agg #[.int .i64 mt, .int .i64 mr, .int .i64 mf, .int .i64 mp, .int .i64 ml]] w fun e w' => e = .returned (.bool true) ∧ Below w.heap.size w w')) (d2 : (mt != (t : Int) + 1) = true) :
    Calls Try.prog 13 #[.pointer (some ⟨q, 0, none⟩), .agg #[.int .i64 mt, .int .i64 mr, .int .i64 mf, .int .i64 mp, .int .i64 ml]] w fun e w' => e = .returned (.int .i64 11) ∧ Below w.heap.size w w' := by
  have hX0 : Blk (w.alloc (.cells #[.int .i64 mt, .int .i64 mr, .int .i64 mf, .int .i64 mp, .int .i64 ml] 32)) w.heap.size #[.int .i64 mt, .int .i64 mr, .int .i64 mf, .int .i64 mp, .int .i64 ml] 32 := Blk.new w _ _
  have hB0 : Below w.heap.size w (w.alloc (.cells #[.int .i64 mt, .int .i64 mr, .int .i64 mf, .int .i64 mp, .int .i64 ml] 32)) := (Below.refl _ w).alloc (Nat.le_refl _) _
  have hq : q < w.heap.size := World.block_lt_of_cell? _ _ c5
  have old : ∀ wS, Below (w.alloc (.cells #[.int .i64 mt, .int .i64 mr, .int .i64 mf, .int .i64 mp, .int .i64 ml] 32)).heap.size (w.alloc (.cells #[.int .i64 mt, .int .i64 mr, .int .i64 mf, .int .i64 mp, .int .i64 ml] 32)) wS → ∀ i, wS.cell? ⟨q, i, none⟩ = w.cell? ⟨q, i, none⟩ := fun wS hS i => (hS.cell (p := ⟨q, i, none⟩) (by simp; omega)).trans (hB0.cell (p := ⟨q, i, none⟩) hq)
  have KX : Hid (∀ wS, Below (w.alloc (.cells #[.int .i64 mt, .int .i64 mr, .int .i64 mf, .int .i64 mp, .int .i64 ml] 32)).heap.size (w.alloc (.cells #[.int .i64 mt, .int .i64 mr, .int .i64 mf, .int .i64 mp, .int .i64 ml] 32)) wS → wS.cell? ⟨w.heap.size, 0, none⟩ = some (.int .i64 mt) ∧ wS.cell? ⟨w.heap.size, 1, none⟩ = some (.int .i64 mr) ∧ wS.cell? ⟨w.heap.size, 2, none⟩ = some (.int .i64 mf) ∧ wS.cell? ⟨w.heap.size, 3, none⟩ = some (.int .i64 mp) ∧ wS.cell? ⟨w.heap.size, 4, none⟩ = some (.int .i64 ml) ∧ wS.cell? ⟨q, 5, none⟩ = some (.int .i64 ml) ∧ wS.cell? ⟨q, 0, none⟩ = some (.pointer (some ⟨p, 0, none⟩)) ∧ wS.cell? ⟨q, 1, none⟩ = some (.int .i64 t) ∧ wS.cell? ⟨q, 17, none⟩ = some (.bool b)) :=
    Lib.hid (fun wS hS => by
      have hb : Blk wS w.heap.size #[.int .i64 mt, .int .i64 mr, .int .i64 mf, .int .i64 mp, .int .i64 ml] 32 := (hS.block _ hX0.lt).trans hX0
      exact ⟨hb.cell 0, hb.cell 1, hb.cell 2, hb.cell 3, hb.cell 4, (old wS hS 5).trans c5, (old wS hS 0).trans c0, (old wS hS 1).trans c1, (old wS hS 17).trans c17⟩)
  have E33 : ∀ args w, (callFunc 33 args).run Try.prog w = .ok (.enter 33 args) w := func_enters Try.func33 (by rfl) (by rfl)
  have HB0 := Lib.hid hB0
  have HX0 := Lib.hid hX0
  have m1 : IntKind.i64.wrap ((t : Int) + 1) = t + 1 := IntWalk.i64_in _ (by omega)
  have d1 : (ml != ml) = false := by simp
  have RQ : Hid (∀ wS, Below (w.alloc (.cells #[.int .i64 mt, .int .i64 mr, .int .i64 mf, .int .i64 mp, .int .i64 ml] 32)).heap.size (w.alloc (.cells #[.int .i64 mt, .int .i64 mr, .int .i64 mf, .int .i64 mp, .int .i64 ml] 32)) wS → Calls Try.prog 33 #[.agg #[.int .i64 mt, .int .i64 mr, .int .i64 mf, .int .i64 mp, .int .i64 ml]] wS fun e w' => e = .returned (.bool true) ∧ Below (w.alloc (.cells #[.int .i64 mt, .int .i64 mr, .int .i64 mf, .int .i64 mp, .int .i64 ml] 32)).heap.size (w.alloc (.cells #[.int .i64 mt, .int .i64 mr, .int .i64 mf, .int .i64 mp, .int .i64 ml] 32)) w') := Lib.hid (fun wS hS => (RC wS).out.mono fun _ _ ⟨e, hb⟩ => ⟨e, hS.trans (hb.mono hS.size)⟩)
  clear hX0 hB0 RC old c0 c1 c5 c17
  go_enter Try.func13, Try.ntmps13
  go_upto_region 3 with fail
  refine region_qh (C := fun w' => Below (w.alloc (.cells #[.int .i64 mt, .int .i64 mr, .int .i64 mf, .int .i64 mp, .int .i64 ml] 32)).heap.size (w.alloc (.cells #[.int .i64 mt, .int .i64 mr, .int .i64 mf, .int .i64 mp, .int .i64 ml] 32)) w') (by kernel_rfl) (by kernel_rfl) (Below.refl _ (w.alloc (.cells #[.int .i64 mt, .int .i64 mr, .int .i64 mf, .int .i64 mp, .int .i64 ml] 32))).drew ?_
  refine qh_op (.agg #[.int .i64 mt, .int .i64 mr, .int .i64 mf, .int .i64 mp, .int .i64 ml]) rfl (fun wS hSw => by obtain ⟨k0, k1, k2, k3, k4, k5, k6, k7, k8⟩ := KX.out wS hSw; go_simp; try with_reducible rfl) ?_
  simp only [Act.put, List.setIfInBounds_toArray, List.set_cons_zero, List.set_cons_succ]
  refine qh_call1 (.bool true) rfl 33 _ _ rfl (.agg #[.int .i64 mt, .int .i64 mr, .int .i64 mf, .int .i64 mp, .int .i64 ml]) (by rfl) E33 (fun wS hSw => RQ.out wS hSw) ?_
  simp only [Act.put, List.setIfInBounds_toArray, List.set_cons_zero, List.set_cons_succ]
  refine qh_op (.bool false) rfl (fun wS hSw => by go_simp; try with_reducible rfl) ?_
  simp only [Act.put, List.setIfInBounds_toArray, List.set_cons_zero, List.set_cons_succ]
  refine qh_op (.bool false) rfl (fun wS hSw => by go_simp; try with_reducible rfl) ?_
  simp only [Act.put, List.setIfInBounds_toArray, List.set_cons_zero, List.set_cons_succ]
  refine qh_opw (.pointer (some ⟨w.heap.size, 4, none⟩)) (by rfl) (fun wS hSw => by go_simp; try with_reducible rfl) ?_
  simp only [Act.put, List.setIfInBounds_toArray, List.set_cons_zero, List.set_cons_succ]
  refine qh_opw (.int .i64 ml) (by rfl) (fun wS hSw => by obtain ⟨k0, k1, k2, k3, k4, k5, k6, k7, k8⟩ := KX.out wS hSw; go_simp; try with_reducible rfl) ?_
  simp only [Act.put, List.setIfInBounds_toArray, List.set_cons_zero, List.set_cons_succ]
  refine qh_opw (.pointer (some ⟨q, 0, none⟩)) (by rfl) (fun wS hSw => by go_simp; try with_reducible rfl) ?_
  simp only [Act.put, List.setIfInBounds_toArray, List.set_cons_zero, List.set_cons_succ]
  refine qh_opw (.pointer (some ⟨q, 0, none⟩)) (by rfl) (fun wS hSw => by go_simp; try with_reducible rfl) ?_
  simp only [Act.put, List.setIfInBounds_toArray, List.set_cons_zero, List.set_cons_succ]
  refine qh_opw (.pointer (some ⟨q, 1, none⟩)) (by rfl) (fun wS hSw => by go_simp; try with_reducible rfl) ?_
  simp only [Act.put, List.setIfInBounds_toArray, List.set_cons_zero, List.set_cons_succ]
  refine qh_opw (.pointer (some ⟨q, 5, none⟩)) (by rfl) (fun wS hSw => by go_simp; try with_reducible rfl) ?_
  simp only [Act.put, List.setIfInBounds_toArray, List.set_cons_zero, List.set_cons_succ]
  refine qh_opw (.int .i64 ml) (by rfl) (fun wS hSw => by obtain ⟨k0, k1, k2, k3, k4, k5, k6, k7, k8⟩ := KX.out wS hSw; go_simp; try with_reducible rfl) ?_
  simp only [Act.put, List.setIfInBounds_toArray, List.set_cons_zero, List.set_cons_succ]
  refine qh_opw (.bool false) (by rfl) (fun wS hSw => by go_simp; try with_reducible rfl) ?_
  simp only [Act.put, List.setIfInBounds_toArray, List.set_cons_zero, List.set_cons_succ]
  refine qh_op (.bool false) rfl (fun wS hSw => by go_simp; try with_reducible rfl) ?_
  simp only [Act.put, List.setIfInBounds_toArray, List.set_cons_zero, List.set_cons_succ]
  refine qh_nil ⟨?_⟩
  intro wE hE
  obtain ⟨k0, k1, k2, k3, k4, k5, k6, k7, k8⟩ := KX.out wE hE
  go_wp2
  go_quiet (fail)
  go_wp2
  go_ret
  exact ⟨rfl, below_drewN2 (HB0.out.trans (hE.mono HB0.out.size)) _⟩
set_option maxRecDepth 100000 in
set_option maxHeartbeats 3200000 in
theorem seal_two (w : World) (q p : Nat) (mt mr mf mp ml : Int) (t : Nat) (ht : t ≤ 1099511627776) (b : Bool) (c0 : w.cell? ⟨q, 0, none⟩ = some (.pointer (some ⟨p, 0, none⟩))) (c5 : w.cell? ⟨q, 5, none⟩ = some (.int .i64 ml)) (c1 : w.cell? ⟨q, 1, none⟩ = some (.int .i64 t)) (c17 : w.cell? ⟨q, 17, none⟩ = some (.bool b)) (RC : ∀ w, Hid (Calls Try.prog 33 #[.agg #[.int .i64 mt, .int .i64 mr, .int .i64 mf, .int .i64 mp, .int .i64 ml]] w fun e w' => e = .returned (.bool true) ∧ Below w.heap.size w w')) (d2 : (mt != (t : Int) + 1) = false) (hb : b = true) :
    Calls Try.prog 13 #[.pointer (some ⟨q, 0, none⟩), .agg #[.int .i64 mt, .int .i64 mr, .int .i64 mf, .int .i64 mp, .int .i64 ml]] w fun e w' => e = .returned (.int .i64 11) ∧ Below w.heap.size w w' := by
  subst hb
  have hX0 : Blk (w.alloc (.cells #[.int .i64 mt, .int .i64 mr, .int .i64 mf, .int .i64 mp, .int .i64 ml] 32)) w.heap.size #[.int .i64 mt, .int .i64 mr, .int .i64 mf, .int .i64 mp, .int .i64 ml] 32 := Blk.new w _ _
  have hB0 : Below w.heap.size w (w.alloc (.cells #[.int .i64 mt, .int .i64 mr, .int .i64 mf, .int .i64 mp, .int .i64 ml] 32)) := (Below.refl _ w).alloc (Nat.le_refl _) _
  have hq : q < w.heap.size := World.block_lt_of_cell? _ _ c5
  have old : ∀ wS, Below (w.alloc (.cells #[.int .i64 mt, .int .i64 mr, .int .i64 mf, .int .i64 mp, .int .i64 ml] 32)).heap.size (w.alloc (.cells #[.int .i64 mt, .int .i64 mr, .int .i64 mf, .int .i64 mp, .int .i64 ml] 32)) wS → ∀ i, wS.cell? ⟨q, i, none⟩ = w.cell? ⟨q, i, none⟩ := fun wS hS i => (hS.cell (p := ⟨q, i, none⟩) (by simp; omega)).trans (hB0.cell (p := ⟨q, i, none⟩) hq)
  have KX : Hid (∀ wS, Below (w.alloc (.cells #[.int .i64 mt, .int .i64 mr, .int .i64 mf, .int .i64 mp, .int .i64 ml] 32)).heap.size (w.alloc (.cells #[.int .i64 mt, .int .i64 mr, .int .i64 mf, .int .i64 mp, .int .i64 ml] 32)) wS → wS.cell? ⟨w.heap.size, 0, none⟩ = some (.int .i64 mt) ∧ wS.cell? ⟨w.heap.size, 1, none⟩ = some (.int .i64 mr) ∧ wS.cell? ⟨w.heap.size, 2, none⟩ = some (.int .i64 mf) ∧ wS.cell? ⟨w.heap.size, 3, none⟩ = some (.int .i64 mp) ∧ wS.cell? ⟨w.heap.size, 4, none⟩ = some (.int .i64 ml) ∧ wS.cell? ⟨q, 5, none⟩ = some (.int .i64 ml) ∧ wS.cell? ⟨q, 0, none⟩ = some (.pointer (some ⟨p, 0, none⟩)) ∧ wS.cell? ⟨q, 1, none⟩ = some (.int .i64 t) ∧ wS.cell? ⟨q, 17, none⟩ = some (.bool true)) :=
    Lib.hid (fun wS hS => by
      have hb : Blk wS w.heap.size #[.int .i64 mt, .int .i64 mr, .int .i64 mf, .int .i64 mp, .int .i64 ml] 32 := (hS.block _ hX0.lt).trans hX0
      exact ⟨hb.cell 0, hb.cell 1, hb.cell 2, hb.cell 3, hb.cell 4, (old wS hS 5).trans c5, (old wS hS 0).trans c0, (old wS hS 1).trans c1, (old wS hS 17).trans c17⟩)
  have E33 : ∀ args w, (callFunc 33 args).run Try.prog w = .ok (.enter 33 args) w := func_enters Try.func33 (by rfl) (by rfl)
  have HB0 := Lib.hid hB0
  have HX0 := Lib.hid hX0
  have m1 : IntKind.i64.wrap ((t : Int) + 1) = t + 1 := IntWalk.i64_in _ (by omega)
  have d1 : (ml != ml) = false := by simp
  have RQ : Hid (∀ wS, Below (w.alloc (.cells #[.int .i64 mt, .int .i64 mr, .int .i64 mf, .int .i64 mp, .int .i64 ml] 32)).heap.size (w.alloc (.cells #[.int .i64 mt, .int .i64 mr, .int .i64 mf, .int .i64 mp, .int .i64 ml] 32)) wS → Calls Try.prog 33 #[.agg #[.int .i64 mt, .int .i64 mr, .int .i64 mf, .int .i64 mp, .int .i64 ml]] wS fun e w' => e = .returned (.bool true) ∧ Below (w.alloc (.cells #[.int .i64 mt, .int .i64 mr, .int .i64 mf, .int .i64 mp, .int .i64 ml] 32)).heap.size (w.alloc (.cells #[.int .i64 mt, .int .i64 mr, .int .i64 mf, .int .i64 mp, .int .i64 ml] 32)) w') := Lib.hid (fun wS hS => (RC wS).out.mono fun _ _ ⟨e, hb⟩ => ⟨e, hS.trans (hb.mono hS.size)⟩)
  clear hX0 hB0 RC old c0 c1 c5 c17
  go_enter Try.func13, Try.ntmps13
  go_upto_region 3 with fail
  refine region_qh (C := fun w' => Below (w.alloc (.cells #[.int .i64 mt, .int .i64 mr, .int .i64 mf, .int .i64 mp, .int .i64 ml] 32)).heap.size (w.alloc (.cells #[.int .i64 mt, .int .i64 mr, .int .i64 mf, .int .i64 mp, .int .i64 ml] 32)) w') (by kernel_rfl) (by kernel_rfl) (Below.refl _ (w.alloc (.cells #[.int .i64 mt, .int .i64 mr, .int .i64 mf, .int .i64 mp, .int .i64 ml] 32))).drew ?_
  refine qh_op (.agg #[.int .i64 mt, .int .i64 mr, .int .i64 mf, .int .i64 mp, .int .i64 ml]) rfl (fun wS hSw => by obtain ⟨k0, k1, k2, k3, k4, k5, k6, k7, k8⟩ := KX.out wS hSw; go_simp; try with_reducible rfl) ?_
  simp only [Act.put, List.setIfInBounds_toArray, List.set_cons_zero, List.set_cons_succ]
  refine qh_call1 (.bool true) rfl 33 _ _ rfl (.agg #[.int .i64 mt, .int .i64 mr, .int .i64 mf, .int .i64 mp, .int .i64 ml]) (by rfl) E33 (fun wS hSw => RQ.out wS hSw) ?_
  simp only [Act.put, List.setIfInBounds_toArray, List.set_cons_zero, List.set_cons_succ]
  refine qh_op (.bool false) rfl (fun wS hSw => by go_simp; try with_reducible rfl) ?_
  simp only [Act.put, List.setIfInBounds_toArray, List.set_cons_zero, List.set_cons_succ]
  refine qh_op (.bool false) rfl (fun wS hSw => by go_simp; try with_reducible rfl) ?_
  simp only [Act.put, List.setIfInBounds_toArray, List.set_cons_zero, List.set_cons_succ]
  refine qh_opw (.pointer (some ⟨w.heap.size, 4, none⟩)) (by rfl) (fun wS hSw => by go_simp; try with_reducible rfl) ?_
  simp only [Act.put, List.setIfInBounds_toArray, List.set_cons_zero, List.set_cons_succ]
  refine qh_opw (.int .i64 ml) (by rfl) (fun wS hSw => by obtain ⟨k0, k1, k2, k3, k4, k5, k6, k7, k8⟩ := KX.out wS hSw; go_simp; try with_reducible rfl) ?_
  simp only [Act.put, List.setIfInBounds_toArray, List.set_cons_zero, List.set_cons_succ]
  refine qh_opw (.pointer (some ⟨q, 0, none⟩)) (by rfl) (fun wS hSw => by go_simp; try with_reducible rfl) ?_
  simp only [Act.put, List.setIfInBounds_toArray, List.set_cons_zero, List.set_cons_succ]
  refine qh_opw (.pointer (some ⟨q, 0, none⟩)) (by rfl) (fun wS hSw => by go_simp; try with_reducible rfl) ?_
  simp only [Act.put, List.setIfInBounds_toArray, List.set_cons_zero, List.set_cons_succ]
  refine qh_opw (.pointer (some ⟨q, 1, none⟩)) (by rfl) (fun wS hSw => by go_simp; try with_reducible rfl) ?_
  simp only [Act.put, List.setIfInBounds_toArray, List.set_cons_zero, List.set_cons_succ]
  refine qh_opw (.pointer (some ⟨q, 5, none⟩)) (by rfl) (fun wS hSw => by go_simp; try with_reducible rfl) ?_
  simp only [Act.put, List.setIfInBounds_toArray, List.set_cons_zero, List.set_cons_succ]
  refine qh_opw (.int .i64 ml) (by rfl) (fun wS hSw => by obtain ⟨k0, k1, k2, k3, k4, k5, k6, k7, k8⟩ := KX.out wS hSw; go_simp; try with_reducible rfl) ?_
  simp only [Act.put, List.setIfInBounds_toArray, List.set_cons_zero, List.set_cons_succ]
  refine qh_opw (.bool false) (by rfl) (fun wS hSw => by go_simp; try with_reducible rfl) ?_
  simp only [Act.put, List.setIfInBounds_toArray, List.set_cons_zero, List.set_cons_succ]
  refine qh_op (.bool false) rfl (fun wS hSw => by go_simp; try with_reducible rfl) ?_
  simp only [Act.put, List.setIfInBounds_toArray, List.set_cons_zero, List.set_cons_succ]
  refine qh_nil ⟨?_⟩
  intro wE hE
  obtain ⟨k0, k1, k2, k3, k4, k5, k6, k7, k8⟩ := KX.out wE hE
  go_wp2
  go_quiet (fail)
  go_wp2
  go_ret
  exact ⟨rfl, below_drewN2 (HB0.out.trans (hE.mono HB0.out.size)) _⟩
theorem stored6l {w : World} {q p : Nat} {s : PS} {vr : Value} (h : Blk w q (lgCells s p vr) 71) (x : MV) :
    Blk ((((((w.setCell ⟨q, 12, none⟩ (.int .i64 x.txn)).setCell ⟨q, 13, none⟩ (.int .i64 x.root)).setCell ⟨q, 14, none⟩ (.int .i64 x.free)).setCell ⟨q, 15, none⟩ (.int .i64 x.pages)).setCell ⟨q, 16, none⟩ (.int .i64 x.limit)).setCell ⟨q, 17, none⟩ (.bool true)) q
      (lgCells { s with seal_ := some x } p vr) 71 ∧
    Touch [q] w ((((((w.setCell ⟨q, 12, none⟩ (.int .i64 x.txn)).setCell ⟨q, 13, none⟩ (.int .i64 x.root)).setCell ⟨q, 14, none⟩ (.int .i64 x.free)).setCell ⟨q, 15, none⟩ (.int .i64 x.pages)).setCell ⟨q, 16, none⟩ (.int .i64 x.limit)).setCell ⟨q, 17, none⟩ (.bool true)) := by
  have t : ∀ (w' : World) (i : Nat) (v : Value), Touch [q] w w' → Touch [q] w (w'.setCell ⟨q, i, none⟩ v) := fun w' i v h => h.setCell (p := ⟨q, i, none⟩) (.inl (by simp)) v
  have hh := (((((h.set 12 (.int .i64 x.txn)).set 13 (.int .i64 x.root)).set 14 (.int .i64 x.free)).set 15 (.int .i64 x.pages)).set 16 (.int .i64 x.limit)).set 17 (.bool true)
  exact ⟨hh, t _ _ _ (t _ _ _ (t _ _ _ (t _ _ _ (t _ _ _ (t _ _ _ (Touch.refl _ _))))))⟩
/-- the device was called, then cells of the pager's own block were written -/
theorem land_own {At : World → Nat → RD → List Nat → Prop} (tch : ∀ {w w' : World} {p : Nat} {d : RD} {F S : List Nat}, At w p d F → Touch S w w' → (∀ k ∈ S, k ∉ F) → At w' p d F) {w w1 w' : World} {p q : Nat} {F F' G : List Nat} {D : RD} {s s' : PS} {e : Ending} {vr : Value}
    (hA : At w1 p D F') (hT : Touch F w w1) (hG : Grows F F' w.heap.size) (hFG : ∀ k ∈ F, k ∉ G) (ltG : ∀ k ∈ G, k < w.heap.size) (hGe : G = q :: vr.ownBlock.toList) (hN : G.Nodup) (hR : w.ownsRow 0 3 1 vr s.row.length (s.row.map (Value.int .i64))) (hrow : s'.row = s.row)
    (TT : Touch [q] w1 w') (hb : Blk w' q (lgCells s' p vr) 71) : Did2 At LPg w p q (F ++ G) D s' e e w' := by
  have qG : q ∈ G := by rw [hGe]; simp
  have dis : ∀ k ∈ F', k ∉ G := fun k hk hm => by
    rcases hG k hk with h | h
    · exact hFG k h hm
    · have := ltG k hm; omega
  have hne : ∀ k, vr.ownBlock = some k → k ≠ q := fun k hk e => by
    rw [hGe, hk, e] at hN
    simp at hN
  have T2 : Touch (F ++ [q]) w w' := (hT.more (fun k hk => List.mem_append_left _ hk)).trans (TT.more (fun k hk => List.mem_append_right _ hk)) (Grows.refl _ _)
  refine ⟨rfl, F', G, tch hA TT (fun k hk hm => ?_), ⟨vr, hb, ?_, hGe, hN⟩, dis, ?_, ?_⟩
  · simp only [List.mem_singleton] at hk
    subst hk
    exact dis k hm qG
  · rw [hrow]
    refine ownsRow_touch hR T2 ?_
    intro k hk hm
    rcases List.mem_append.1 hm with hm | hm
    · exact hFG k hm (by rw [hGe, hk]; simp)
    · simp only [List.mem_singleton] at hm
      exact hne k hk hm
  · refine T2.more (fun k hk => ?_)
    rcases List.mem_append.1 hk with hk | hk
    · exact List.mem_append_left _ hk
    · simp only [List.mem_singleton] at hk
      exact List.mem_append_right _ (by rw [hk]; exact qG)
  · intro k hk
    rcases List.mem_append.1 hk with hk | hk
    · exact (hG k hk).elim (fun h => .inl (List.mem_append_left _ h)) .inr
    · exact .inl (List.mem_append_right _ hk)
theorem Did2.below {At : World → Nat → RD → List Nat → Prop} {PAt : World → Nat → Nat → PS → List Nat → Prop} {w w1 : World} {p q : Nat} {F : List Nat} {d' : RD} {s' : PS} {e0 e : Ending} {w' : World} (hB : Below w.heap.size w w1) (h : Did2 At PAt w1 p q F d' s' e0 e w') : Did2 At PAt w p q F d' s' e0 e w' := by
  obtain ⟨he, F', G', hA, hP, hFG, hT, hG⟩ := h
  exact ⟨he, F', G', hA, hP, hFG, ((Touch.ofBelow hB).more (by simp)).trans hT (Grows.refl _ _), fun k hk => (hG k hk).elim .inl (fun h => .inr (Nat.le_trans hB.size h))⟩
set_option maxRecDepth 100000 in
set_option maxHeartbeats 3200000 in
theorem seal_in {At : World → Nat → RD → List Nat → Prop} (LD : LandDev At) (LP : LandPage) (w : World) (p q : Nat) (d : RD) (s : PS) (F G : List Nat) (K : Nat) (hK : K ≤ 900000) (ok : RD.Ok K d) (m : MV) (hm : m.right = true) (hlim : m.limit = s.m.limit) (t : Nat) (ht : t ≤ 1099511627776) (hst : s.m.txn = t) (hl : m.txn = t + 1) (hse : s.seal_ = none)
    (hA : At w p d F) (hP : LPg w q p s G) (hFG : ∀ k ∈ F, k ∉ G) :
    Calls Try.prog 13 #[.pointer (some ⟨q, 0, none⟩), m.val] w (Did2 At LPg w p q (F ++ G) (d.writeD (m.txn % 2) m.packS) (if d.writeE (m.txn % 2) m.packS = 0 then { s with seal_ := some m } else s) (.returned (.int .i64 (d.writeE (m.txn % 2) m.packS)))) := by
  have RC := fun w => LP.rightM w m
  rw [hm] at RC
  have WC := Lib.hid (fun w1 (hw : At w1 p d F) => writeMeta_ok LD LP w1 p d F K (by omega) ok m hm hw)
  obtain ⟨E, hE⟩ : ∃ E, d.writeE (m.txn % 2) m.packS = E := ⟨_, rfl⟩
  obtain ⟨D, hD⟩ : ∃ D, d.writeD (m.txn % 2) m.packS = D := ⟨_, rfl⟩
  simp only [hE, hD] at WC ⊢
  obtain ⟨S2, hS2⟩ : ∃ S2, (if E = 0 then ({ s with seal_ := some m } : PS) else s) = S2 := ⟨_, rfl⟩
  rw [hS2]
  have HSS := Lib.hid hS2
  obtain ⟨mt, mr, mf, mp, ml⟩ := m
  simp only at hl hlim
  unfold MV.val at RC WC ⊢
  simp only at RC WC ⊢
  have RC := fun w => Lib.hid (RC w)
  have HT : Hid (∀ {w' : World} {S : List Nat}, Touch S w w' → (∀ k ∈ S, k ∉ F) → At w' p d F) := Lib.hid (fun hT hS => LD.use.touch hA hT hS)
  have HP := Lib.hid hP
  have HFG := Lib.hid hFG
  have HLF := Lib.hid (LD.use.lt hA)
  have HLG := Lib.hid hP.lt
  obtain ⟨vr, hb, hr, hG, hN⟩ := hP
  have c0 : w.cell? ⟨q, 0, none⟩ = some (.pointer (some ⟨p, 0, none⟩)) := hb.cell 0
  have c1 : w.cell? ⟨q, 1, none⟩ = some (.int .i64 t) := (hb.cell 1).trans (by rw [← hst]; rfl)
  have c5 : w.cell? ⟨q, 5, none⟩ = some (.int .i64 ml) := (hb.cell 5).trans (by rw [hlim]; rfl)
  obtain ⟨b, hbf⟩ : ∃ b, b = false := ⟨_, rfl⟩
  have c17 : w.cell? ⟨q, 17, none⟩ = some (.bool b) := (hb.cell 17).trans (by rw [hbf]; unfold lgCells; rw [hse]; rfl)
  have d2 : (mt != (t : Int) + 1) = false := by rw [hl]; simp
  have HBL := Lib.hid hb
  have HR := Lib.hid hr
  have HG := Lib.hid hG
  have HN := Lib.hid hN
  subst hbf
  have b : Bool := false
  clear hE hD hS2 hm hFG hA hG hN hr hb hst hlim hl hse ok
  have hX0 : Blk (w.alloc (.cells #[.int .i64 mt, .int .i64 mr, .int .i64 mf, .int .i64 mp, .int .i64 ml] 32)) w.heap.size #[.int .i64 mt, .int .i64 mr, .int .i64 mf, .int .i64 mp, .int .i64 ml] 32 := Blk.new w _ _
  have hB0 : Below w.heap.size w (w.alloc (.cells #[.int .i64 mt, .int .i64 mr, .int .i64 mf, .int .i64 mp, .int .i64 ml] 32)) := (Below.refl _ w).alloc (Nat.le_refl _) _
  have hq : q < w.heap.size := World.block_lt_of_cell? _ _ c5
  have old : ∀ wS, Below (w.alloc (.cells #[.int .i64 mt, .int .i64 mr, .int .i64 mf, .int .i64 mp, .int .i64 ml] 32)).heap.size (w.alloc (.cells #[.int .i64 mt, .int .i64 mr, .int .i64 mf, .int .i64 mp, .int .i64 ml] 32)) wS → ∀ i, wS.cell? ⟨q, i, none⟩ = w.cell? ⟨q, i, none⟩ := fun wS hS i => (hS.cell (p := ⟨q, i, none⟩) (by simp; omega)).trans (hB0.cell (p := ⟨q, i, none⟩) hq)
  have KX : Hid (∀ wS, Below (w.alloc (.cells #[.int .i64 mt, .int .i64 mr, .int .i64 mf, .int .i64 mp, .int .i64 ml] 32)).heap.size (w.alloc (.cells #[.int .i64 mt, .int .i64 mr, .int .i64 mf, .int .i64 mp, .int .i64 ml] 32)) wS → wS.cell? ⟨w.heap.size, 0, none⟩ = some (.int .i64 mt) ∧ wS.cell? ⟨w.heap.size, 1, none⟩ = some (.int .i64 mr) ∧ wS.cell? ⟨w.heap.size, 2, none⟩ = some (.int .i64 mf) ∧ wS.cell? ⟨w.heap.size, 3, none⟩ = some (.int .i64 mp) ∧ wS.cell? ⟨w.heap.size, 4, none⟩ = some (.int .i64 ml) ∧ wS.cell? ⟨q, 5, none⟩ = some (.int .i64 ml) ∧ wS.cell? ⟨q, 0, none⟩ = some (.pointer (some ⟨p, 0, none⟩)) ∧ wS.cell? ⟨q, 1, none⟩ = some (.int .i64 t) ∧ wS.cell? ⟨q, 17, none⟩ = some (.bool false)) :=
    Lib.hid (fun wS hS => by
      have hb : Blk wS w.heap.size #[.int .i64 mt, .int .i64 mr, .int .i64 mf, .int .i64 mp, .int .i64 ml] 32 := (hS.block _ hX0.lt).trans hX0
      exact ⟨hb.cell 0, hb.cell 1, hb.cell 2, hb.cell 3, hb.cell 4, (old wS hS 5).trans c5, (old wS hS 0).trans c0, (old wS hS 1).trans c1, (old wS hS 17).trans c17⟩)
  have E33 : ∀ args w, (callFunc 33 args).run Try.prog w = .ok (.enter 33 args) w := func_enters Try.func33 (by rfl) (by rfl)
  have HB0 := Lib.hid hB0
  have HX0 := Lib.hid hX0
  have m1 : IntKind.i64.wrap ((t : Int) + 1) = t + 1 := IntWalk.i64_in _ (by omega)
  have d1 : (ml != ml) = false := by simp
  have RQ : Hid (∀ wS, Below (w.alloc (.cells #[.int .i64 mt, .int .i64 mr, .int .i64 mf, .int .i64 mp, .int .i64 ml] 32)).heap.size (w.alloc (.cells #[.int .i64 mt, .int .i64 mr, .int .i64 mf, .int .i64 mp, .int .i64 ml] 32)) wS → Calls Try.prog 33 #[.agg #[.int .i64 mt, .int .i64 mr, .int .i64 mf, .int .i64 mp, .int .i64 ml]] wS fun e w' => e = .returned (.bool true) ∧ Below (w.alloc (.cells #[.int .i64 mt, .int .i64 mr, .int .i64 mf, .int .i64 mp, .int .i64 ml] 32)).heap.size (w.alloc (.cells #[.int .i64 mt, .int .i64 mr, .int .i64 mf, .int .i64 mp, .int .i64 ml] 32)) w') := Lib.hid (fun wS hS => (RC wS).out.mono fun _ _ ⟨e, hb⟩ => ⟨e, hS.trans (hb.mono hS.size)⟩)
  clear hX0 hB0 RC old c0 c1 c5 c17
  have hqF : Hid (∀ k ∈ F, k ≠ q) := Lib.hid (fun k hk e => by subst e; exact HFG.out k hk (by rw [HG.out]; simp))
  go_enter Try.func13, Try.ntmps13
  go_upto_region 3 with fail
  refine region_qh (C := fun w' => Below (w.alloc (.cells #[.int .i64 mt, .int .i64 mr, .int .i64 mf, .int .i64 mp, .int .i64 ml] 32)).heap.size (w.alloc (.cells #[.int .i64 mt, .int .i64 mr, .int .i64 mf, .int .i64 mp, .int .i64 ml] 32)) w') (by kernel_rfl) (by kernel_rfl) (Below.refl _ (w.alloc (.cells #[.int .i64 mt, .int .i64 mr, .int .i64 mf, .int .i64 mp, .int .i64 ml] 32))).drew ?_
  refine qh_op (.agg #[.int .i64 mt, .int .i64 mr, .int .i64 mf, .int .i64 mp, .int .i64 ml]) rfl (fun wS hSw => by obtain ⟨k0, k1, k2, k3, k4, k5, k6, k7, k8⟩ := KX.out wS hSw; go_simp; try with_reducible rfl) ?_
  simp only [Act.put, List.setIfInBounds_toArray, List.set_cons_zero, List.set_cons_succ]
  refine qh_call1 (.bool true) rfl 33 _ _ rfl (.agg #[.int .i64 mt, .int .i64 mr, .int .i64 mf, .int .i64 mp, .int .i64 ml]) (by rfl) E33 (fun wS hSw => RQ.out wS hSw) ?_
  simp only [Act.put, List.setIfInBounds_toArray, List.set_cons_zero, List.set_cons_succ]
  refine qh_op (.bool false) rfl (fun wS hSw => by go_simp; try with_reducible rfl) ?_
  simp only [Act.put, List.setIfInBounds_toArray, List.set_cons_zero, List.set_cons_succ]
  refine qh_op (.bool false) rfl (fun wS hSw => by go_simp; try with_reducible rfl) ?_
  simp only [Act.put, List.setIfInBounds_toArray, List.set_cons_zero, List.set_cons_succ]
  refine qh_opw (.pointer (some ⟨w.heap.size, 4, none⟩)) (by rfl) (fun wS hSw => by go_simp; try with_reducible rfl) ?_
  simp only [Act.put, List.setIfInBounds_toArray, List.set_cons_zero, List.set_cons_succ]
  refine qh_opw (.int .i64 ml) (by rfl) (fun wS hSw => by obtain ⟨k0, k1, k2, k3, k4, k5, k6, k7, k8⟩ := KX.out wS hSw; go_simp; try with_reducible rfl) ?_
  simp only [Act.put, List.setIfInBounds_toArray, List.set_cons_zero, List.set_cons_succ]
  refine qh_opw (.pointer (some ⟨q, 0, none⟩)) (by rfl) (fun wS hSw => by go_simp; try with_reducible rfl) ?_
  simp only [Act.put, List.setIfInBounds_toArray, List.set_cons_zero, List.set_cons_succ]
  refine qh_opw (.pointer (some ⟨q, 0, none⟩)) (by rfl) (fun wS hSw => by go_simp; try with_reducible rfl) ?_
  simp only [Act.put, List.setIfInBounds_toArray, List.set_cons_zero, List.set_cons_succ]
  refine qh_opw (.pointer (some ⟨q, 1, none⟩)) (by rfl) (fun wS hSw => by go_simp; try with_reducible rfl) ?_
  simp only [Act.put, List.setIfInBounds_toArray, List.set_cons_zero, List.set_cons_succ]
  refine qh_opw (.pointer (some ⟨q, 5, none⟩)) (by rfl) (fun wS hSw => by go_simp; try with_reducible rfl) ?_
  simp only [Act.put, List.setIfInBounds_toArray, List.set_cons_zero, List.set_cons_succ]
  refine qh_opw (.int .i64 ml) (by rfl) (fun wS hSw => by obtain ⟨k0, k1, k2, k3, k4, k5, k6, k7, k8⟩ := KX.out wS hSw; go_simp; try with_reducible rfl) ?_
  simp only [Act.put, List.setIfInBounds_toArray, List.set_cons_zero, List.set_cons_succ]
  refine qh_opw (.bool false) (by rfl) (fun wS hSw => by go_simp; try with_reducible rfl) ?_
  simp only [Act.put, List.setIfInBounds_toArray, List.set_cons_zero, List.set_cons_succ]
  refine qh_op (.bool false) rfl (fun wS hSw => by go_simp; try with_reducible rfl) ?_
  simp only [Act.put, List.setIfInBounds_toArray, List.set_cons_zero, List.set_cons_succ]
  refine qh_nil ⟨?_⟩
  intro wE hE
  obtain ⟨k0, k1, k2, k3, k4, k5, k6, k7, k8⟩ := KX.out wE hE
  go_wp2
  go_quiet (fail)
  go_upto_region 7 with fail
  obtain ⟨wq, hwq⟩ : ∃ wq, wE.drewN nq = wq := ⟨_, rfl⟩
  have HBq : Hid (Below w.heap.size w wq) := Lib.hid (hwq ▸ below_drewN2 (HB0.out.trans (hE.mono HB0.out.size)) nq)
  have HXq : Hid (Blk wq w.heap.size #[.int .i64 mt, .int .i64 mr, .int .i64 mf, .int .i64 mp, .int .i64 ml] 32) := Lib.hid (hwq ▸ ((hE.block _ HX0.out.lt).trans HX0.out))
  rw [hwq]
  clear hwq k0 k1 k2 k3 k4 k5 k6 k7 k8 hE
  have HBLq : Hid (Blk wq q (lgCells s p vr) 71) := Lib.hid (HBL.out.touch (Touch.ofBelow HBq.out) (by simp))
  have x0 : wq.cell? ⟨q, 0, none⟩ = some (.pointer (some ⟨p, 0, none⟩)) := HBLq.out.cell 0
  have y0 : wq.cell? ⟨w.heap.size, 0, none⟩ = some (.int .i64 mt) := HXq.out.cell 0
  have y1 : wq.cell? ⟨w.heap.size, 1, none⟩ = some (.int .i64 mr) := HXq.out.cell 1
  have y2 : wq.cell? ⟨w.heap.size, 2, none⟩ = some (.int .i64 mf) := HXq.out.cell 2
  have y3 : wq.cell? ⟨w.heap.size, 3, none⟩ = some (.int .i64 mp) := HXq.out.cell 3
  have y4 : wq.cell? ⟨w.heap.size, 4, none⟩ = some (.int .i64 ml) := HXq.out.cell 4
  have HFX : Hid (∀ k ∈ F, k ≠ w.heap.size) := Lib.hid (fun k hk e => by have := HLF.out k hk; omega)
  have HWQ := Lib.hid (WC.out wq.drew (LD.use.touch (HT.out (Touch.ofBelow HBq.out) (by simp)) (Touch.refl [] wq).drew (by simp)))
  have stays : Hid (∀ w2, Touch F wq.drew w2 → Blk w2 w.heap.size #[.int .i64 mt, .int .i64 mr, .int .i64 mf, .int .i64 mp, .int .i64 ml] 32 ∧ Blk w2 q (lgCells s p vr) 71) := Lib.hid (fun w2 hT2 =>
    ⟨HXq.out.drew.touch hT2 (fun hm => HFX.out _ hm rfl), HBLq.out.drew.touch hT2 (fun hm => hqF.out _ hm rfl)⟩)
  go_cut [5] (fun s5 wx => s5 = .int .i64 E ∧ ∃ F', At wx p D F' ∧ Touch F wq wx ∧ Grows F F' wq.heap.size)
  case first =>
    go_region_held3 (fun w' => w'.cell? ⟨q, 0, none⟩ = some (.pointer (some ⟨p, 0, none⟩)) ∧ w'.cell? ⟨w.heap.size, 0, none⟩ = some (.int .i64 mt) ∧ w'.cell? ⟨w.heap.size, 1, none⟩ = some (.int .i64 mr) ∧ w'.cell? ⟨w.heap.size, 2, none⟩ = some (.int .i64 mf) ∧ w'.cell? ⟨w.heap.size, 3, none⟩ = some (.int .i64 mp) ∧ w'.cell? ⟨w.heap.size, 4, none⟩ = some (.int .i64 ml))
      (first | (go_keep; done) | exact KK.out)
      (first | (go_at_call 29; refine HWQ.out.mono ?_; rintro e w2 ⟨rfl, F2, hA2, hT2, hG2⟩; obtain ⟨KA, KB⟩ := stays.out w2 hT2; have KK := Lib.hid (And.intro (Blk.cell KB 0) (And.intro (Blk.cell KA 0) (And.intro (Blk.cell KA 1) (And.intro (Blk.cell KA 2) (And.intro (Blk.cell KA 3) (Blk.cell KA 4))))))))
    go_wp2
    go_meet
    exact ⟨rfl, F2, hA2, (Touch.refl F wq).drew.trans hT2 (Grows.refl _ _), hG2⟩
  case rest =>
    obtain ⟨rfl, F', hA', hT', hG'⟩ := hcut
    have hs1 := HBq.out.size
    have HTW : Hid (Touch F w wc) := Lib.hid (((Touch.ofBelow HBq.out).more (S' := F) (by simp)).trans hT' (Grows.refl _ _))
    have HGW : Hid (Grows F F' w.heap.size) := Lib.hid (fun k hk => (hG' k hk).elim .inl (fun h => .inr (Nat.le_trans hs1 h)))
    have hxc : Blk wc w.heap.size #[.int .i64 mt, .int .i64 mr, .int .i64 mf, .int .i64 mp, .int .i64 ml] 32 := HXq.out.touch hT' (fun hm => HFX.out _ hm rfl)
    have hbc : Blk wc q (lgCells s p vr) 71 := HBLq.out.touch hT' (fun hm => hqF.out _ hm rfl)
    have HAp := Lib.hid hA'
    by_cases hE0 : E = 0
    · have HS3 : Hid (S2 = { s with seal_ := some ⟨mt, mr, mf, mp, ml⟩ }) := Lib.hid (by rw [← HSS.out, if_pos hE0])
      subst hE0
      have e1 : ((0 : Int) != 0) = false := rfl
      have y0 : wc.cell? ⟨w.heap.size, 0, none⟩ = some (.int .i64 mt) := hxc.cell 0
      have y1 : wc.cell? ⟨w.heap.size, 1, none⟩ = some (.int .i64 mr) := hxc.cell 1
      have y2 : wc.cell? ⟨w.heap.size, 2, none⟩ = some (.int .i64 mf) := hxc.cell 2
      have y3 : wc.cell? ⟨w.heap.size, 3, none⟩ = some (.int .i64 mp) := hxc.cell 3
      have y4 : wc.cell? ⟨w.heap.size, 4, none⟩ = some (.int .i64 ml) := hxc.cell 4
      have z12 : wc.cell? ⟨q, 12, none⟩ = some (.int .i64 s.sm.txn) := hbc.cell 12
      have z13 : wc.cell? ⟨q, 13, none⟩ = some (.int .i64 s.sm.root) := hbc.cell 13
      have z14 : wc.cell? ⟨q, 14, none⟩ = some (.int .i64 s.sm.free) := hbc.cell 14
      have z15 : wc.cell? ⟨q, 15, none⟩ = some (.int .i64 s.sm.pages) := hbc.cell 15
      have z16 : wc.cell? ⟨q, 16, none⟩ = some (.int .i64 s.sm.limit) := hbc.cell 16
      have z17 : wc.cell? ⟨q, 17, none⟩ = some (.bool s.seal_.isSome) := hbc.cell 17
      have f12 := hbc.free 12
      have f13 := hbc.free 13
      have f14 := hbc.free 14
      have f15 := hbc.free 15
      have f16 := hbc.free 16
      have f17 := hbc.free 17
      have hlq := hbc.lt
      have HBC := Lib.hid hbc
      clear hA' hT' hG' hxc hbc x0
      go_wp2
      go_ret
      rw [HS3.out]
      obtain ⟨K1, K2⟩ := stored6l HBC.out (⟨mt, mr, mf, mp, ml⟩ : MV)
      exact land_own (At := At) (D := D) (s := s) (s' := { s with seal_ := some ⟨mt, mr, mf, mp, ml⟩ }) LD.use.touch HAp.out HTW.out HGW.out HFG.out HLG.out HG.out HN.out HR.out rfl K2 K1
    · have e1 : (E != 0) = true := by simpa using hE0
      have HS3 : Hid (S2 = s) := Lib.hid (by rw [← HSS.out, if_neg hE0])
      have HBC := Lib.hid hbc
      clear hE0 hA' hT' hG' hxc hbc x0 y0 y1 y2 y3 y4
      go_wp2
      go_ret
      rw [HS3.out]
      exact land_own (At := At) (D := D) (s := s) (s' := s) LD.use.touch HAp.out HTW.out HGW.out HFG.out HLG.out HG.out HN.out HR.out rfl (Touch.refl _ _) HBC.out
theorem seal_ok {At : World → Nat → RD → List Nat → Prop} (LD : LandDev At) (LP : LandPage) (w : World) (p q : Nat) (d : RD) (s : PS) (F G : List Nat) (K : Nat) (hK : K ≤ 900000) (ok : RD.Ok K d) (sok : s.Ok) (m : MV) (hA : At w p d F) (hP : LPg w q p s G) (hFG : ∀ k ∈ F, k ∉ G) :
    Calls Try.prog 13 #[.pointer (some ⟨q, 0, none⟩), m.val] w (Did2 At LPg w p q (F ++ G) (s.sealD d m) (s.sealS d m) (.returned (.int .i64 (s.sealE d m)))) := by
  have hm := sok.m
  rw [MV.right_iff] at hm
  obtain ⟨t, ht⟩ := Int.eq_ofNat_of_zero_le (show 0 ≤ s.m.txn by omega)
  have cells : w.cell? ⟨q, 0, none⟩ = some (.pointer (some ⟨p, 0, none⟩)) ∧ w.cell? ⟨q, 5, none⟩ = some (.int .i64 s.m.limit) ∧ w.cell? ⟨q, 1, none⟩ = some (.int .i64 t) ∧ w.cell? ⟨q, 17, none⟩ = some (.bool s.seal_.isSome) := by
    obtain ⟨vr, hb, _⟩ := hP
    exact ⟨hb.cell 0, hb.cell 5, by rw [← ht]; exact hb.cell 1, hb.cell 17⟩
  obtain ⟨c0, c5, c1, c17⟩ := cells
  have stay : ∀ (e : Ending) (w' : World), Below w.heap.size w w' → Did2 At LPg w p q (F ++ G) d s e e w' := fun e w' hB => Did2.same (LD.use.touch hA (Touch.ofBelow hB) (by simp)) (hP.touch (Touch.ofBelow hB) (by simp)) hFG hB
  have RC := fun w => LP.rightM w m
  cases hr : m.right
  · have h1 : s.maySeal m = false := by unfold PS.maySeal; rw [hr]; rfl
    rw [hr] at RC
    refine (seal_bad w q m.txn m.root m.free m.pages m.limit _ c5 (fun w => Lib.hid (RC w))).mono ?_
    rintro _ w' ⟨rfl, hB⟩
    unfold PS.sealD PS.sealS PS.sealE
    rw [h1, hr]
    exact stay _ _ hB
  · rw [hr] at RC
    have RC := fun w => Lib.hid (RC w)
    by_cases hl : m.limit = s.m.limit
    case neg =>
      have h1 : s.maySeal m = false := by unfold PS.maySeal; rw [decide_eq_false hl]; simp
      refine (seal_lim w q m.txn m.root m.free m.pages m.limit _ c5 RC (by rw [bne_iff_ne]; exact hl)).mono ?_
      rintro _ w' ⟨rfl, hB⟩
      unfold PS.sealD PS.sealS PS.sealE
      rw [h1, decide_eq_false hl, Bool.and_false]
      exact stay _ _ hB
    have c5' : w.cell? ⟨q, 5, none⟩ = some (.int .i64 m.limit) := by rw [hl]; exact c5
    by_cases htx : m.txn = t + 1
    case neg =>
      have h1 : s.maySeal m = false := by unfold PS.maySeal; rw [ht, decide_eq_false htx]; simp
      refine (seal_txn w q p m.txn m.root m.free m.pages m.limit t (by omega) _ c0 c5' c1 c17 RC (by rw [bne_iff_ne]; exact htx)).mono ?_
      rintro _ w' ⟨rfl, hB⟩
      unfold PS.sealD PS.sealS PS.sealE
      rw [h1, hr, decide_eq_true hl]
      exact stay _ _ hB
    cases hse : s.seal_ with
    | some x =>
      have h1 : s.maySeal m = false := by unfold PS.maySeal; rw [hse]; simp
      refine (seal_two w q p m.txn m.root m.free m.pages m.limit t (by omega) _ c0 c5' c1 c17 RC (by rw [htx]; simp) (by rw [hse]; rfl)).mono ?_
      rintro _ w' ⟨rfl, hB⟩
      unfold PS.sealD PS.sealS PS.sealE
      rw [h1, hr, decide_eq_true hl]
      exact stay _ _ hB
    | none =>
      obtain ⟨h1, h2⟩ := RD.maySeal_of (s := s) hr hl (by rw [ht]; exact htx) hse
      obtain ⟨e1, e2, e3⟩ := RD.seal_e (d := d) h1 h2
      rw [e1, e2, e3]
      exact seal_in LD LP w p q d s F G K hK ok m hr hl t (by omega) ht htx hse hA hP hFG
end Go.Proofs.Ytjgmlpfallakmaa
end
section
namespace Go.Proofs.Ytjgmlpfallakmaa
open Go.RowKit
attribute [local go_sem ↓] Go.wp_at_zero Go.wp_at_succ
set_option maxRecDepth 100000 in
set_option maxHeartbeats 1600000 in
theorem done_nil (w : World) : Calls Try.prog 14 #[.pointer none] w fun e w' => e = .returned (.int .i64 2) ∧ Below w.heap.size w w' := by
  go_enter Try.func14, Try.ntmps14
  go_wp2
  go_ret
  exact ⟨rfl, Below.refl _ _⟩
set_option maxRecDepth 100000 in
set_option maxHeartbeats 1600000 in
theorem done_none (w : World) (q : Nat) (c17 : w.cell? ⟨q, 17, none⟩ = some (.bool false)) :
    Calls Try.prog 14 #[.pointer (some ⟨q, 0, none⟩)] w fun e w' => e = .returned (.int .i64 11) ∧ w = w' := by
  go_enter Try.func14, Try.ntmps14
  go_wp2
  go_ret
  exact ⟨rfl, rfl⟩
theorem stored17 {w : World} {q p : Nat} {s : PS} {vr : Value} (h : Blk w q (lgCells s p vr) 71) (x : MV) :
    Blk (((((((((((((((((w.setCell ⟨q, 6, none⟩ (.int .i64 s.m.txn)).setCell ⟨q, 7, none⟩ (.int .i64 s.m.root)).setCell ⟨q, 8, none⟩ (.int .i64 s.m.free)).setCell ⟨q, 9, none⟩ (.int .i64 s.m.pages)).setCell ⟨q, 10, none⟩ (.int .i64 s.m.limit)).setCell ⟨q, 11, none⟩ (.bool true)).setCell
      ⟨q, 1, none⟩ (.int .i64 x.txn)).setCell ⟨q, 2, none⟩ (.int .i64 x.root)).setCell ⟨q, 3, none⟩ (.int .i64 x.free)).setCell ⟨q, 4, none⟩ (.int .i64 x.pages)).setCell ⟨q, 5, none⟩ (.int .i64 x.limit)).setCell
      ⟨q, 12, none⟩ (.int .i64 0)).setCell ⟨q, 13, none⟩ (.int .i64 0)).setCell ⟨q, 14, none⟩ (.int .i64 0)).setCell ⟨q, 15, none⟩ (.int .i64 0)).setCell ⟨q, 16, none⟩ (.int .i64 0)).setCell ⟨q, 17, none⟩ (.bool false)) q
      (lgCells { s with m := x, o := s.m, has := true, seal_ := none } p vr) 71 ∧
    Touch [q] w (((((((((((((((((w.setCell ⟨q, 6, none⟩ (.int .i64 s.m.txn)).setCell ⟨q, 7, none⟩ (.int .i64 s.m.root)).setCell ⟨q, 8, none⟩ (.int .i64 s.m.free)).setCell ⟨q, 9, none⟩ (.int .i64 s.m.pages)).setCell ⟨q, 10, none⟩ (.int .i64 s.m.limit)).setCell ⟨q, 11, none⟩ (.bool true)).setCell
      ⟨q, 1, none⟩ (.int .i64 x.txn)).setCell ⟨q, 2, none⟩ (.int .i64 x.root)).setCell ⟨q, 3, none⟩ (.int .i64 x.free)).setCell ⟨q, 4, none⟩ (.int .i64 x.pages)).setCell ⟨q, 5, none⟩ (.int .i64 x.limit)).setCell
      ⟨q, 12, none⟩ (.int .i64 0)).setCell ⟨q, 13, none⟩ (.int .i64 0)).setCell ⟨q, 14, none⟩ (.int .i64 0)).setCell ⟨q, 15, none⟩ (.int .i64 0)).setCell ⟨q, 16, none⟩ (.int .i64 0)).setCell ⟨q, 17, none⟩ (.bool false)) := by
  have t : ∀ (w' : World) (i : Nat) (v : Value), Touch [q] w w' → Touch [q] w (w'.setCell ⟨q, i, none⟩ v) := fun w' i v h => h.setCell (p := ⟨q, i, none⟩) (.inl (by simp)) v
  have hh := ((((((((((((((((h.set 6 (.int .i64 s.m.txn)).set 7 (.int .i64 s.m.root)).set 8 (.int .i64 s.m.free)).set 9 (.int .i64 s.m.pages)).set 10 (.int .i64 s.m.limit)).set 11 (.bool true)).set 1 (.int .i64 x.txn)).set 2 (.int .i64 x.root)).set 3 (.int .i64 x.free)).set 4 (.int .i64 x.pages)).set 5 (.int .i64 x.limit)).set 12 (.int .i64 0)).set 13 (.int .i64 0)).set 14 (.int .i64 0)).set 15 (.int .i64 0)).set 16 (.int .i64 0)).set 17 (.bool false)
  refine ⟨?_, ?_⟩
  · simp only [lgCells, List.setIfInBounds_toArray, List.set_cons_zero, List.set_cons_succ] at hh ⊢
    exact hh
  · exact t _ _ _ (t _ _ _ (t _ _ _ (t _ _ _ (t _ _ _ (t _ _ _ (t _ _ _ (t _ _ _ (t _ _ _ (t _ _ _ (t _ _ _ (t _ _ _ (t _ _ _ (t _ _ _ (t _ _ _ (t _ _ _ (t _ _ _ (Touch.refl _ _)))))))))))))))))
set_option maxRecDepth 100000 in
set_option maxHeartbeats 3200000 in
theorem done_in {At : World → Nat → RD → List Nat → Prop} (LD : LandDev At) (w : World) (p q : Nat) (d : RD) (s : PS) (F G : List Nat) (K : Nat) (hK : K ≤ 900000) (ok : RD.Ok K d) (x : MV) (hse : s.seal_ = some x) (hA : At w p d F) (hP : LPg w q p s G) (hFG : ∀ k ∈ F, k ∉ G) :
    Calls Try.prog 14 #[.pointer (some ⟨q, 0, none⟩)] w (Did2 At LPg w p q (F ++ G) d.syncD (if d.syncE = 0 then { s with m := x, o := s.m, has := true, seal_ := none } else s) (.returned (.int .i64 d.syncE))) := by
  have WC := LD.use.sync w p d F K (by omega) ok hA
  obtain ⟨E, hE⟩ : ∃ E, d.syncE = E := ⟨_, rfl⟩
  obtain ⟨D, hD⟩ : ∃ D, d.syncD = D := ⟨_, rfl⟩
  simp only [hE, hD] at WC ⊢
  obtain ⟨S2, hS2⟩ : ∃ S2, (if E = 0 then ({ s with m := x, o := s.m, has := true, seal_ := none } : PS) else s) = S2 := ⟨_, rfl⟩
  rw [hS2]
  have HSS := Lib.hid hS2
  have HWC := Lib.hid WC
  have HFG := Lib.hid hFG
  have HLF := Lib.hid (LD.use.lt hA)
  have HLG := Lib.hid hP.lt
  obtain ⟨vr, hb, hr, hG, hN⟩ := hP
  have hq := hb.lt
  have HBL := Lib.hid hb
  have HR := Lib.hid hr
  have HG := Lib.hid hG
  have HN := Lib.hid hN
  have x0 : w.cell? ⟨q, 0, none⟩ = some (.pointer (some ⟨p, 0, none⟩)) := hb.cell 0
  have x17 : w.cell? ⟨q, 17, none⟩ = some (.bool true) := (hb.cell 17).trans (by unfold lgCells; rw [hse]; rfl)
  have hqF : Hid (∀ k ∈ F, k ≠ q) := Lib.hid (fun k hk e => by subst e; exact HFG.out k hk (by rw [HG.out]; simp))
  have hsm : s.sm = x := by unfold PS.sm; rw [hse]; rfl
  have hC : lgCells s p vr = #[.pointer (some ⟨p, 0, none⟩), .int .i64 s.m.txn, .int .i64 s.m.root, .int .i64 s.m.free, .int .i64 s.m.pages, .int .i64 s.m.limit,
    .int .i64 s.o.txn, .int .i64 s.o.root, .int .i64 s.o.free, .int .i64 s.o.pages, .int .i64 s.o.limit, .bool s.has,
    .int .i64 x.txn, .int .i64 x.root, .int .i64 x.free, .int .i64 x.pages, .int .i64 x.limit, .bool true, vr] := by
    unfold lgCells
    rw [hsm, hse]
    rfl
  have HC := Lib.hid hC
  obtain ⟨mt, mr, mf, mp, ml⟩ := x
  simp only at HC
  clear hS2 hE hD WC hFG hA hG hN hr hb hse ok hsm hC
  by_cases hE0 : E = 0
  · have HS3 : Hid (S2 = { s with m := ⟨mt, mr, mf, mp, ml⟩, o := s.m, has := true, seal_ := none }) := Lib.hid (by rw [← HSS.out, if_pos hE0])
    subst hE0
    have e1 : ((0 : Int) != 0) = false := rfl
    go_enter Try.func14, Try.ntmps14
    go_wp2_with fail
    refine HWC.out.mono ?_
    rintro _ w1 ⟨rfl, F', hA', hT', hG'⟩
    have hbc := HBL.out.touch hT' (fun hm => hqF.out _ hm rfl)
    have HBC := Lib.hid hbc
    rw [HC.out] at hbc
    have HT' := Lib.hid hT'
    have HA' := Lib.hid hA'
    have HG' := Lib.hid hG'
    have y1 : w1.cell? ⟨q, 1, none⟩ = some (.int .i64 s.m.txn) := hbc.cell 1
    have y2 : w1.cell? ⟨q, 2, none⟩ = some (.int .i64 s.m.root) := hbc.cell 2
    have y3 : w1.cell? ⟨q, 3, none⟩ = some (.int .i64 s.m.free) := hbc.cell 3
    have y4 : w1.cell? ⟨q, 4, none⟩ = some (.int .i64 s.m.pages) := hbc.cell 4
    have y5 : w1.cell? ⟨q, 5, none⟩ = some (.int .i64 s.m.limit) := hbc.cell 5
    have y6 : w1.cell? ⟨q, 6, none⟩ = some (.int .i64 s.o.txn) := hbc.cell 6
    have y7 : w1.cell? ⟨q, 7, none⟩ = some (.int .i64 s.o.root) := hbc.cell 7
    have y8 : w1.cell? ⟨q, 8, none⟩ = some (.int .i64 s.o.free) := hbc.cell 8
    have y9 : w1.cell? ⟨q, 9, none⟩ = some (.int .i64 s.o.pages) := hbc.cell 9
    have y10 : w1.cell? ⟨q, 10, none⟩ = some (.int .i64 s.o.limit) := hbc.cell 10
    have y11 : w1.cell? ⟨q, 11, none⟩ = some (.bool s.has) := hbc.cell 11
    have y12 : w1.cell? ⟨q, 12, none⟩ = some (.int .i64 mt) := hbc.cell 12
    have y13 : w1.cell? ⟨q, 13, none⟩ = some (.int .i64 mr) := hbc.cell 13
    have y14 : w1.cell? ⟨q, 14, none⟩ = some (.int .i64 mf) := hbc.cell 14
    have y15 : w1.cell? ⟨q, 15, none⟩ = some (.int .i64 mp) := hbc.cell 15
    have y16 : w1.cell? ⟨q, 16, none⟩ = some (.int .i64 ml) := hbc.cell 16
    have y17 : w1.cell? ⟨q, 17, none⟩ = some (.bool true) := hbc.cell 17
    have f1 := hbc.free 1
    have f2 := hbc.free 2
    have f3 := hbc.free 3
    have f4 := hbc.free 4
    have f5 := hbc.free 5
    have f6 := hbc.free 6
    have f7 := hbc.free 7
    have f8 := hbc.free 8
    have f9 := hbc.free 9
    have f10 := hbc.free 10
    have f11 := hbc.free 11
    have f12 := hbc.free 12
    have f13 := hbc.free 13
    have f14 := hbc.free 14
    have f15 := hbc.free 15
    have f16 := hbc.free 16
    have f17 := hbc.free 17
    have hlq := hbc.lt
    clear hbc hT' hA' hG' x0 x17
    go_wp2
    go_ret
    rw [HS3.out]
    obtain ⟨K1, K2⟩ := stored17 HBC.out (⟨mt, mr, mf, mp, ml⟩ : MV)
    exact land_own (At := At) (D := D) (s := s) (s' := { s with m := ⟨mt, mr, mf, mp, ml⟩, o := s.m, has := true, seal_ := none }) LD.use.touch HA'.out HT'.out HG'.out HFG.out HLG.out HG.out HN.out HR.out rfl K2 K1
  · have e1 : (E != 0) = true := by simpa using hE0
    have HS3 : Hid (S2 = s) := Lib.hid (by rw [← HSS.out, if_neg hE0])
    clear hE0
    go_enter Try.func14, Try.ntmps14
    go_wp2_with fail
    refine HWC.out.mono ?_
    rintro _ w1 ⟨rfl, F', hA', hT', hG'⟩
    have HBC := Lib.hid (HBL.out.touch hT' (fun hm => hqF.out _ hm rfl))
    have HT' := Lib.hid hT'
    have HA' := Lib.hid hA'
    have HG' := Lib.hid hG'
    clear hT' hA' hG' x0 x17
    go_wp2
    go_ret
    rw [HS3.out]
    exact land_own (At := At) (D := D) (s := s) (s' := s) LD.use.touch HA'.out HT'.out HG'.out HFG.out HLG.out HG.out HN.out HR.out rfl (Touch.refl _ _) HBC.out
theorem done_ok {At : World → Nat → RD → List Nat → Prop} (LD : LandDev At) (w : World) (p q : Nat) (d : RD) (s : PS) (F G : List Nat) (K : Nat) (hK : K ≤ 900000) (ok : RD.Ok K d) (hA : At w p d F) (hP : LPg w q p s G) (hFG : ∀ k ∈ F, k ∉ G) :
    Calls Try.prog 14 #[.pointer (some ⟨q, 0, none⟩)] w (Did2 At LPg w p q (F ++ G) (s.doneD d) (s.doneS d) (.returned (.int .i64 (s.doneE d)))) := by
  cases hse : s.seal_ with
  | some x =>
    obtain ⟨e1, e2, e3⟩ := RD.done_e (d := d) hse
    rw [e1, e2, e3]
    exact done_in LD w p q d s F G K hK ok x hse hA hP hFG
  | none =>
    have c17 : w.cell? ⟨q, 17, none⟩ = some (.bool false) := by
      obtain ⟨vr, hb, _⟩ := hP
      have := hb.cell 17
      unfold lgCells at this
      rw [hse] at this
      exact this
    refine (done_none w q c17).mono ?_
    rintro _ w' ⟨rfl, rfl⟩
    unfold PS.doneE PS.doneD PS.doneS
    rw [hse]
    exact Did2.same hA hP hFG (Below.refl _ _)
/-- the landed pager meets the kit -/
theorem landPager {At : World → Nat → RD → List Nat → Prop} (LD : LandDev At) (LP : LandPage) : PgKit At LPg where
  lt := LPg.lt
  touch := LPg.touch
  format := fun w p d F K hK ok n h => format_ok LD LP w p d F K hK ok n h
  open_ := fun w p d F K hK ok hf h => open_ok LD LP w p d F K hK ok hf h
  read := fun w p q d s F G K hK ok hf sok no hA hP => read_ok LD LP w p q d s F G K hK ok hf sok no hA hP
  write := fun w p q d s F G K hK ok sok hr x hx hA hP hFG => write_ok LD LP w p q d s F G K hK ok sok hr x hx hA hP hFG
  seal_ := fun w p q d s F G K hK ok sok m hA hP hFG => seal_ok LD LP w p q d s F G K hK ok sok m hA hP hFG
  done := fun w p q d s F G K hK ok _ hA hP hFG => done_ok LD w p q d s F G K hK ok hA hP hFG
  sync := fun w p q d s F G K hK ok hA hP hFG => sync_ok LD w p q d s F G K hK ok hA hP hFG
  meta_ := meta_ok
  other := other_ok
  log := log_ok
  nilFormat := format_nil LD
  nilRead := read_nil
  nilWrite := write_nil
  nilSeal := seal_nil
  nilDone := done_nil
  nilSync := sync_nil
  nilMeta := meta_nil
  nilOther := other_nil
  nilLog := log_nil
end Go.Proofs.Ytjgmlpfallakmaa
end
