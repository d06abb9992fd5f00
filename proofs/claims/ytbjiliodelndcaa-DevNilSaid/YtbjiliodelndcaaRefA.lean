/-
  Contracts of the reference's device (package rollbookref03): Step, Fuse, Cut, Read, Waits: what each call answers, and what becomes of the device in memory. Conditions: at most 1000000 calls before.
-/
import Derived.Test.YtbjiliodelndcaaProg
import Derived.Test.YtbjiliodelndcaaOwn
import Derived.Test.YtbjiliodelndcaaDevSpec
import Derived.KernelRfl
namespace Go.Proofs.Ytbjiliodelndcaa
open Go.RowKit
def refCells (vs vr : Value) (d : RD) : Array Value := #[vs, vr, .bool d.off, .int .i64 d.left, .int .i64 d.count, .int .i64 d.wrote]
def rowCells (l : List (Nat × ByteArray)) : List Value := l.flatMap fun x => [.int .i64 (x.1 : Int), .string x.2]
/-- the reference's device d lies in block p; F: its blocks -/
def RefAt (w : World) (p : Nat) (d : RD) (F : List Nat) : Prop :=
  ∃ vs vr, Blk w p (refCells vs vr d) 40 ∧ w.ownsRow 0 9 1 vs d.sector.length (d.sector.map Value.string) ∧ w.ownsRow 0 65 2 vr d.row.length (rowCells d.row) ∧
    F = p :: (vs.ownBlock.toList ++ vr.ownBlock.toList) ∧ F.Nodup
/-- what a call leaves that answers e0 and makes the device d' -/
def Did (At : World → Nat → RD → List Nat → Prop) (w : World) (p : Nat) (F : List Nat) (d' : RD) (e0 : Ending) (e : Ending) (w' : World) : Prop :=
  e = e0 ∧ ∃ F', At w' p d' F' ∧ Touch F w w' ∧ Grows F F' w.heap.size
/-- the rows stay, the head is written -/
theorem RefAt.head {w w' : World} {p : Nat} {d d' : RD} {F : List Nat} {vs vr : Value} (hs : w.ownsRow 0 9 1 vs d.sector.length (d.sector.map Value.string)) (hr : w.ownsRow 0 65 2 vr d.row.length (rowCells d.row))
    (hF : F = p :: (vs.ownBlock.toList ++ vr.ownBlock.toList)) (hN : F.Nodup) (hb : Blk w' p (refCells vs vr d') 40) (hT : Touch [p] w w') (e1 : d'.sector = d.sector) (e2 : d'.row = d.row) :
    ∃ F', RefAt w' p d' F' ∧ Touch F w w' ∧ Grows F F' w.heap.size := by
  have h1 : ∀ k, vs.ownBlock = some k → k ∉ [p] := by
    intro k hk hm
    subst hF
    simp only [List.mem_singleton] at hm
    subst hm
    simp [hk] at hN
  have h2 : ∀ k, vr.ownBlock = some k → k ∉ [p] := by
    intro k hk hm
    subst hF
    simp only [List.mem_singleton] at hm
    subst hm
    simp [hk] at hN
  refine ⟨F, ⟨vs, vr, hb, ?_, ?_, hF, hN⟩, hT.more (by subst hF; simp), Grows.refl _ _⟩
  · rw [e1]; exact ownsRow_touch hs hT h1
  · rw [e2]; exact ownsRow_touch hr hT h2
theorem ref_step (w : World) (p : Nat) (d : RD) (F : List Nat) (K : Nat) (hK : K ≤ 1000000) (ok : RD.Ok K d) (h : RefAt w p d F) :
    Calls Try.prog 43 #[.pointer (some ⟨p, 0, none⟩)] w (Did RefAt w p F d.stepped (.returned (.bool d.goes))) := by
  obtain ⟨vs, vr, hb, hs, hr, hF, hN⟩ := h
  have c2 : w.cell? ⟨p, 2, none⟩ = some (.bool d.off) := hb.cell 2
  have c3 : w.cell? ⟨p, 3, none⟩ = some (.int .i64 d.left) := hb.cell 3
  have c4 : w.cell? ⟨p, 4, none⟩ = some (.int .i64 d.count) := hb.cell 4
  have f2 := hb.free 2
  have f3 := hb.free 3
  have f4 := hb.free 4
  have b1 := ok.count
  have b2 := ok.left
  have hlt := hb.lt
  cases ho : d.off
  · by_cases h1 : d.left = 1
    · have d1 : (d.left == 1) = true := by rw [beq_iff_eq]; exact h1
      rw [ho] at c2
      have HG : Hid (d.goes = false) := Lib.hid (by unfold RD.goes; rw [ho, h1]; rfl)
      have HS : Hid (d.stepped = { d with count := d.count + 1, off := true, left := 0 }) := Lib.hid (by unfold RD.stepped; rw [ho, if_neg (by simp), if_pos h1])
      clear h1 ho
      go_enter Try.func43, Try.ntmps43
      go_wp2
      go_ret
      refine ⟨by rw [HG.out]; rfl, ?_⟩
      rw [HS.out]
      refine RefAt.head hs hr hF hN ?_ (((((Touch.refl _ w).setCell (by simp) _).setCell (by simp) _).setCell (by simp) _)) rfl rfl
      exact ((hb.set 4 _).set 2 _).set 3 _
    · have d1 : (d.left == 1) = false := by rw [beq_eq_false_iff_ne]; exact h1
      rw [ho] at c2
      have HG : Hid (d.goes = true) := Lib.hid (by unfold RD.goes; rw [ho]; simp [h1])
      by_cases h2 : 1 < d.left
      · have d2 : decide (1 < d.left) = true := by simpa using h2
        have HS : Hid (d.stepped = { d with count := d.count + 1, left := d.left - 1 }) := Lib.hid (by unfold RD.stepped; rw [ho, if_neg (by simp), if_neg h1, if_pos h2])
        clear h1 ho
        go_enter Try.func43, Try.ntmps43
        go_wp2
        go_ret
        refine ⟨by rw [HG.out]; rfl, ?_⟩
        rw [HS.out]
        refine RefAt.head hs hr hF hN ?_ ((((Touch.refl _ w).setCell (by simp) _).setCell (by simp) _)) rfl rfl
        exact ((hb.set 4 _).set 3 _)
      · have d2 : decide (1 < d.left) = false := by simpa using h2
        have HS : Hid (d.stepped = { d with count := d.count + 1 }) := Lib.hid (by unfold RD.stepped; rw [ho, if_neg (by simp), if_neg h1, if_neg h2])
        clear h1 ho h2
        go_enter Try.func43, Try.ntmps43
        go_wp2
        go_ret
        refine ⟨by rw [HG.out]; rfl, ?_⟩
        rw [HS.out]
        refine RefAt.head hs hr hF hN ?_ (((Touch.refl _ w).setCell (by simp) _)) rfl rfl
        exact (hb.set 4 _)
  · rw [ho] at c2
    have HG : Hid (d.goes = false) := Lib.hid (by unfold RD.goes; rw [ho]; rfl)
    have HS : Hid (d.stepped = d) := Lib.hid (by unfold RD.stepped; rw [ho, if_pos rfl])
    clear ho
    go_enter Try.func43, Try.ntmps43
    go_wp2
    go_ret
    refine ⟨by rw [HG.out]; rfl, ?_⟩
    rw [HS.out]
    exact RefAt.head hs hr hF hN hb (Touch.refl _ w) rfl rfl

theorem ref_fuse (w : World) (p : Nat) (d : RD) (F : List Nat) (n : Int) (h : RefAt w p d F) :
    Calls Try.prog 30 #[.pointer (some ⟨p, 0, none⟩), .int .i64 n] w (Did RefAt w p F (d.fuseD n) (.returned (.int .i64 d.fuseE))) := by
  obtain ⟨vs, vr, hb, hs, hr, hF, hN⟩ := h
  have c2 : w.cell? ⟨p, 2, none⟩ = some (.bool d.off) := hb.cell 2
  have c3 : w.cell? ⟨p, 3, none⟩ = some (.int .i64 d.left) := hb.cell 3
  have f3 := hb.free 3
  have hlt := hb.lt
  cases ho : d.off
  · rw [ho] at c2
    have HG : Hid (d.fuseE = 0) := Lib.hid (by unfold RD.fuseE; rw [ho]; rfl)
    by_cases h1 : n < 1
    · have d1 : decide (n < 1) = true := by simpa using h1
      have HS : Hid (d.fuseD n = { d with left := 0 }) := Lib.hid (by unfold RD.fuseD; rw [ho, if_neg (by simp), if_pos h1])
      clear h1 ho
      go_enter Try.func30, Try.ntmps30
      go_wp2
      go_ret
      refine ⟨by rw [HG.out]; rfl, ?_⟩
      rw [HS.out]
      refine RefAt.head hs hr hF hN ?_ ((((Touch.refl _ w).setCell (by simp) _).setCell (by simp) _)) rfl rfl
      exact ((hb.set 3 _).set 3 _)
    · have d1 : decide (n < 1) = false := by simpa using h1
      have HS : Hid (d.fuseD n = { d with left := n }) := Lib.hid (by unfold RD.fuseD; rw [ho, if_neg (by simp), if_neg h1])
      clear h1 ho
      go_enter Try.func30, Try.ntmps30
      go_wp2
      go_ret
      refine ⟨by rw [HG.out]; rfl, ?_⟩
      rw [HS.out]
      refine RefAt.head hs hr hF hN ?_ ((((Touch.refl _ w).setCell (by simp) _))) rfl rfl
      exact ((hb.set 3 _))
  · rw [ho] at c2
    have HG : Hid (d.fuseE = 6) := Lib.hid (by unfold RD.fuseE; rw [ho]; rfl)
    have HS : Hid (d.fuseD n = d) := Lib.hid (by unfold RD.fuseD; rw [ho, if_pos rfl])
    clear ho
    go_enter Try.func30, Try.ntmps30
    go_wp2
    go_ret
    refine ⟨by rw [HG.out]; rfl, ?_⟩
    rw [HS.out]
    exact RefAt.head hs hr hF hN hb (Touch.refl _ w) rfl rfl
theorem ref_cut (w : World) (p : Nat) (d : RD) (F : List Nat) (h : RefAt w p d F) :
    Calls Try.prog 31 #[.pointer (some ⟨p, 0, none⟩)] w (Did RefAt w p F d.cutD (.returned (.int .i64 d.fuseE))) := by
  obtain ⟨vs, vr, hb, hs, hr, hF, hN⟩ := h
  have c2 : w.cell? ⟨p, 2, none⟩ = some (.bool d.off) := hb.cell 2
  have c3 : w.cell? ⟨p, 3, none⟩ = some (.int .i64 d.left) := hb.cell 3
  have f3 := hb.free 3
  have f2 := hb.free 2
  have hlt := hb.lt
  cases ho : d.off
  · rw [ho] at c2
    have HG : Hid (d.fuseE = 0) := Lib.hid (by unfold RD.fuseE; rw [ho]; rfl)
    have HS : Hid (d.cutD = { d with off := true, left := 0 }) := Lib.hid (by unfold RD.cutD; rw [ho, if_neg (by simp)])
    clear ho
    go_enter Try.func31, Try.ntmps31
    go_wp2
    go_ret
    refine ⟨by rw [HG.out]; rfl, ?_⟩
    rw [HS.out]
    refine RefAt.head hs hr hF hN ?_ ((((Touch.refl _ w).setCell (by simp) _).setCell (by simp) _)) rfl rfl
    exact ((hb.set 2 _).set 3 _)
  · rw [ho] at c2
    have HG : Hid (d.fuseE = 6) := Lib.hid (by unfold RD.fuseE; rw [ho]; rfl)
    have HS : Hid (d.cutD = d) := Lib.hid (by unfold RD.cutD; rw [ho, if_pos rfl])
    clear ho
    go_enter Try.func31, Try.ntmps31
    go_wp2
    go_ret
    refine ⟨by rw [HG.out]; rfl, ?_⟩
    rw [HS.out]
    exact RefAt.head hs hr hF hN hb (Touch.refl _ w) rfl rfl

theorem rowCells_length (l : List (Nat × ByteArray)) : (rowCells l).length = l.length * 2 := by
  induction l with
  | nil => rfl
  | cons x l ih => simp only [rowCells, List.flatMap_cons, List.length_append] at ih ⊢; rw [ih]; simp; omega
theorem rowCells_at (l : List (Nat × ByteArray)) (k : Nat) (h : k < l.length) : (rowCells l)[k * 2]? = some (.int .i64 (l[k].1 : Int)) ∧ (rowCells l)[k * 2 + 1]? = some (.string l[k].2) := by
  induction l generalizing k with
  | nil => simp at h
  | cons x l ih =>
    have e : rowCells (x :: l) = .int .i64 (x.1 : Int) :: .string x.2 :: rowCells l := rfl
    rw [e]
    cases k with
    | zero => exact ⟨rfl, rfl⟩
    | succ k =>
      rw [show (k + 1) * 2 = k * 2 + 1 + 1 from by omega]
      simp only [List.getElem?_cons_succ, List.getElem_cons_succ]
      exact ih k (by simpa using h)
/-- the row's cells -/
theorem row_at {w : World} {A : Option Addr} {n cap : Nat} {l : List (Nat × ByteArray)} (hr : w.ownsRow 0 65 2 (.slice A n cap) l.length (rowCells l)) (k : Nat) (h : k < l.length) :
    ∃ g, A = some ⟨g, 0, none⟩ ∧ n = l.length ∧ n ≤ cap ∧ w.cell? ⟨g, k * 2, none⟩ = some (.int .i64 (l[k].1 : Int)) ∧ w.cell? ⟨g, k * 2 + 1, none⟩ = some (.string l[k].2) := by
  obtain ⟨g, cap', hv, _, _⟩ := hr.form (by omega)
  injection hv with e1 e2 e3
  subst e1 e2 e3
  have hc : l.length ≤ cap := by
    rcases hr.2 with ⟨h0, _⟩ | ⟨_, _, _, hv, _, _, hn, _⟩
    · simp at h0
    · injection hv with _ _ e; omega
  refine ⟨g, rfl, rfl, hc, ?_, ?_⟩
  · rw [hr.cellAt _ (by omega), (rowCells_at l k h).1]
  · rw [hr.cellAt _ (by omega), (rowCells_at l k h).2]
theorem row_len {w : World} {A : Option Addr} {n cap : Nat} {l : List (Nat × ByteArray)} (hr : w.ownsRow 0 65 2 (.slice A n cap) l.length (rowCells l)) : n = l.length := by
  rcases hr.2 with ⟨hv, h0⟩ | ⟨_, _, _, hv, _⟩
  · injection hv with _ e2 _; omega
  · injection hv
set_option maxHeartbeats 400000 in
theorem ref_waits (w : World) (p : Nat) (d : RD) (F : List Nat) (K : Nat) (hK : K ≤ 1000000) (ok : RD.Ok K d) (i : Int) (h : RefAt w p d F) :
    Calls Try.prog 19 #[.pointer (some ⟨p, 0, none⟩), .int .i64 i] w fun e w' => e = .returned (.int .i64 (d.waits i)) ∧ w = w' := by
  obtain ⟨vs, vr, hb, hs, hr, hF, hN⟩ := h
  obtain ⟨A, cap, rfl⟩ := ownsRow_slice hr
  have c1 : w.cell? ⟨p, 1, none⟩ = some (.slice A d.row.length cap) := hb.cell 1
  have hl := ok.row
  have HT : Hid (d.row.take d.row.length = d.row) := Lib.hid List.take_length
  go_enter Try.func19, Try.ntmps19
  go_wp2
  go_loop [5, 6] (fun n k => ∃ j : Nat, j ≤ d.row.length ∧ k = .int .i64 j ∧ n = .int .i64 (RD.waitsIn (d.row.take j) i)) (fun _ k => d.row.length - (intOf k).toNat)
  case atStart => exact ⟨0, by omega, rfl, by simp [RD.writes, RD.waitsIn]⟩
  case round =>
    obtain ⟨j, hj, rfl, rfl⟩ := hrel
    have hw := RD.waitsIn_le (d.row.take j) i
    rw [List.length_take] at hw
    have hw' : RD.waitsIn (d.row.take j) i ≤ d.row.length := by omega
    clear hw
    by_cases hlt : j < d.row.length
    · obtain ⟨g, rfl, _, _, r1, r2⟩ := row_at hr j hlt
      by_cases he : (d.row[j].1 : Int) = i
      · have d1 : ((d.row[j].1 : Int) == i) = true := by rw [beq_iff_eq]; exact he
        have HE := Lib.hid (RD.waitsIn_yes d.row j hlt i he)
        clear he
        go_wp2
        go_round
        case rel => exact ⟨j + 1, by omega, by go_num, by rw [HE.out]; go_num⟩
        case measure => simp [intOf]; omega
      · have d1 : ((d.row[j].1 : Int) == i) = false := by rw [beq_eq_false_iff_ne]; exact he
        have HE := Lib.hid (RD.waitsIn_no d.row j hlt i he)
        clear he
        go_wp2
        go_round
        case rel => exact ⟨j + 1, by omega, by go_num, by rw [HE.out]⟩
        case measure => simp [intOf]; omega
    · obtain rfl : j = d.row.length := by omega
      go_wp2
      go_ret
      refine ⟨?_, rfl⟩
      unfold RD.waits
      rfl
/-- a row of texts: its cells -/
theorem text_at {w : World} {A : Option Addr} {n cap : Nat} {e : TypeId} {l : List ByteArray} (hr : w.ownsRow 0 e 1 (.slice A n cap) l.length (l.map Value.string)) (k : Nat) (h : k < l.length) :
    ∃ g, A = some ⟨g, 0, none⟩ ∧ n = l.length ∧ n ≤ cap ∧ w.cell? ⟨g, k, none⟩ = some (.string l[k]) := by
  obtain ⟨g, cap', hv, _, _⟩ := hr.form (by omega)
  injection hv with e1 e2 e3
  subst e1 e2 e3
  have hc : l.length ≤ cap := by
    rcases hr.2 with ⟨h0, _⟩ | ⟨_, _, _, hv, _, _, hn, _⟩
    · simp at h0
    · injection hv with _ _ e; omega
  refine ⟨g, rfl, rfl, hc, ?_⟩
  rw [hr.cellAt _ (by omega)]
  simp [h]
theorem text_len {w : World} {A : Option Addr} {n cap : Nat} {e : TypeId} {l : List ByteArray} (hr : w.ownsRow 0 e 1 (.slice A n cap) l.length (l.map Value.string)) : n = l.length := by
  rcases hr.2 with ⟨hv, h0⟩ | ⟨_, _, _, hv, _⟩
  · injection hv with _ e2 _; omega
  · injection hv
set_option maxHeartbeats 400000 in
theorem ref_read (w : World) (p : Nat) (d : RD) (F : List Nat) (K : Nat) (hK : K ≤ 1000000) (ok : RD.Ok K d) (i : Int) (h : RefAt w p d F) :
    Calls Try.prog 17 #[.pointer (some ⟨p, 0, none⟩), .int .i64 i] w fun e w' => e = .returned (.tuple #[.string (d.readS i), .int .i64 (d.readE i)]) ∧ w = w' := by
  obtain ⟨vs, vr, hb, hs, hr, hF, hN⟩ := h
  obtain ⟨A, cap, rfl⟩ := ownsRow_slice hr
  obtain ⟨A2, cap2, rfl⟩ := ownsRow_slice hs
  have c0 : w.cell? ⟨p, 0, none⟩ = some (.slice A2 d.sector.length cap2) := hb.cell 0
  have c1 : w.cell? ⟨p, 1, none⟩ = some (.slice A d.row.length cap) := hb.cell 1
  have c2 : w.cell? ⟨p, 2, none⟩ = some (.bool d.off) := hb.cell 2
  have hl := ok.row
  have hl2 := ok.len
  cases hh : d.has i
  · have HS : Hid (d.readS i = ⟨#[]⟩) := Lib.hid (by unfold RD.readS; rw [hh]; rfl)
    have HE : Hid (d.readE i = 1) := Lib.hid (by unfold RD.readE; rw [hh]; rfl)
    by_cases h0 : i < 0
    · have d0 : decide (i < 0) = true := by simpa using h0
      clear hh h0
      go_enter Try.func17, Try.ntmps17
      go_wp2
      go_ret2
      rw [HS.out, HE.out]
      exact ⟨rfl, rfl⟩
    · have d0 : decide (i < 0) = false := by simpa using h0
      have d1 : decide ((d.sector.length : Int) ≤ i) = true := by
        unfold RD.has at hh
        simp at hh ⊢
        omega
      clear hh h0
      go_enter Try.func17, Try.ntmps17
      go_wp2
      go_ret2
      rw [HS.out, HE.out]
      exact ⟨rfl, rfl⟩
  · have hi0 : 0 ≤ i := by unfold RD.has at hh; simp at hh; omega
    have hi1 : i < d.sector.length := by unfold RD.has at hh; simp at hh; omega
    obtain ⟨q, rfl⟩ := Int.eq_ofNat_of_zero_le hi0
    have hq : q < d.sector.length := by omega
    have d0 : decide ((q : Int) < 0) = false := by simp
    have d1 : decide (d.sector.length ≤ q) = false := by simp; omega
    cases ho : d.off
    · rw [ho] at c2
      obtain ⟨g2, rfl, _, hc2, t1⟩ := text_at hs q hq
      have HS : Hid (d.readS q = RD.last d.row q (d.sector.getD q ⟨#[]⟩)) := Lib.hid (by unfold RD.readS; rw [hh, ho]; rfl)
      have HE : Hid (d.readE q = 0) := Lib.hid (by unfold RD.readE; rw [hh, ho]; rfl)
      have HQ : Hid (d.sector.getD q ⟨#[]⟩ = d.sector[q]) := Lib.hid (by simp [List.getD, hq])
      have HT : Hid (d.row.take d.row.length = d.row) := Lib.hid List.take_length
      clear hh ho
      go_enter Try.func17, Try.ntmps17
      go_wp2
      go_loop [6, 7] (fun s k => ∃ j : Nat, j ≤ d.row.length ∧ k = .int .i64 j ∧ s = .string (RD.last (d.row.take j) q d.sector[q])) (fun _ k => d.row.length - (intOf k).toNat)
      case atStart => exact ⟨0, by omega, rfl, rfl⟩
      case round =>
        obtain ⟨j, hj, rfl, rfl⟩ := hrel
        by_cases hlt : j < d.row.length
        · obtain ⟨g, rfl, _, _, r1, r2⟩ := row_at hr j hlt
          have HN := Lib.hid (RD.last_snoc d.row j hlt q d.sector[q])
          by_cases he : d.row[j].1 = q
          · have d1 : ((d.row[j].1 : Int) == q) = true := by rw [beq_iff_eq]; omega
            have HE := Lib.hid he
            clear he
            go_wp2
            go_round
            case rel => exact ⟨j + 1, by omega, by go_num, by rw [HN.out, if_pos HE.out]⟩
            case measure => simp [intOf]; omega
          · have d1 : ((d.row[j].1 : Int) == q) = false := by rw [beq_eq_false_iff_ne]; omega
            have HE := Lib.hid he
            clear he
            go_wp2
            go_round
            case rel => exact ⟨j + 1, by omega, by go_num, by rw [HN.out, if_neg HE.out]⟩
            case measure => simp [intOf]; omega
        · obtain rfl : j = d.row.length := by omega
          go_wp2
          go_ret2
          rw [HS.out, HE.out, HQ.out]
          exact ⟨rfl, rfl⟩
    · rw [ho] at c2
      have HS : Hid (d.readS q = ⟨#[]⟩) := Lib.hid (by unfold RD.readS; rw [hh, ho]; rfl)
      have HE : Hid (d.readE q = 6) := Lib.hid (by unfold RD.readE; rw [hh, ho]; rfl)
      clear hh ho
      go_enter Try.func17, Try.ntmps17
      go_wp2
      go_ret2
      rw [HS.out, HE.out]
      exact ⟨rfl, rfl⟩
end Go.Proofs.Ytbjiliodelndcaa
