/-
  A call that is played on the landed device and its pager (rollbooklaw05.does), of any that meet the kits. Conditions: at most 900000 calls before.
-/
import Derived.Test.YtjgmlpfallakmaaGreatPgDoesA
import Derived.Test.YtjgmlpfallakmaaGreatPgOpenA
import Derived.Deep.RegionHeld3
import Derived.Deep.DeepCutAuto
namespace Go.Proofs.YtjgmlpfallakmaaGreat
open Go.RowKit
/-- what a played call leaves -/
def DoneJ (At : World → Nat → RD → List Nat → Prop) (PAt : World → Nat → Nat → PS → List Nat → Prop) (w : World) (p : Nat) (F : List Nat) (r : DS × Int) (e : Ending) (w' : World) : Prop :=
  ∃ v' F', e = .returned (.tuple #[v', .int .i64 r.2]) ∧ Joint At PAt w' p v' r.1 F' ∧ Touch F w w' ∧ Grows F F' w.heap.size
theorem DoneJ.of {At : World → Nat → RD → List Nat → Prop} {PAt : World → Nat → Nat → PS → List Nat → Prop} {w w1 w' : World} {p : Nat} {v : Value} {F : List Nat} {r : DS × Int} (hT : Touch [] w w1) (h : ∃ F', Joint At PAt w' p v r.1 F' ∧ Touch F w1 w' ∧ Grows F F' w1.heap.size) : DoneJ At PAt w p F r (.returned (.tuple #[v, .int .i64 r.2])) w' := by
  obtain ⟨F', hA, hT', hG⟩ := h
  exact ⟨v, F', rfl, hA, (hT.more (by simp)).trans hT' (Grows.refl _ _), fun k hk => (hG k hk).elim .inl (fun h => .inr (Nat.le_trans hT.size h))⟩
/-- the boxed call's cells, whatever else was touched -/
theorem box5 {w w1 : World} {F : List Nat} {C : Array Value} {t : TypeId} (hT : Touch F (w.alloc (.cells C t)) w1) (hF : ∀ k ∈ F, k < w.heap.size) (i : Nat) : w1.cell? ⟨w.heap.size, i, none⟩ = C[i]? :=
  ((Blk.new w C t).touch hT (fun hm => Nat.lt_irrefl _ (hF _ hm))).cell i
theorem box14 {w w1 : World} {F : List Nat} {kind pk pn pt mt mr mf mp ml n : Int} {pb text : ByteArray} {next : Bool} {picks : List Int} {PA : Option Addr} {pcap : Nat} (hT : Touch F (w.alloc (.cells #[.int .i64 kind, .int .i64 pk, .int .i64 pn, .int .i64 pt, .string pb, .int .i64 mt, .int .i64 mr, .int .i64 mf, .int .i64 mp, .int .i64 ml, .bool next, .int .i64 n, .string text, .slice PA picks.length pcap] 43)) w1) (hF : ∀ k ∈ F, k < w.heap.size) : w1.cell? ⟨w.heap.size, 0, none⟩ = some (.int .i64 kind) ∧ w1.cell? ⟨w.heap.size, 1, none⟩ = some (.int .i64 pk) ∧ w1.cell? ⟨w.heap.size, 2, none⟩ = some (.int .i64 pn) ∧ w1.cell? ⟨w.heap.size, 3, none⟩ = some (.int .i64 pt) ∧ w1.cell? ⟨w.heap.size, 4, none⟩ = some (.string pb) ∧ w1.cell? ⟨w.heap.size, 5, none⟩ = some (.int .i64 mt) ∧ w1.cell? ⟨w.heap.size, 6, none⟩ = some (.int .i64 mr) ∧ w1.cell? ⟨w.heap.size, 7, none⟩ = some (.int .i64 mf) ∧ w1.cell? ⟨w.heap.size, 8, none⟩ = some (.int .i64 mp) ∧ w1.cell? ⟨w.heap.size, 9, none⟩ = some (.int .i64 ml) ∧ w1.cell? ⟨w.heap.size, 10, none⟩ = some (.bool next) ∧ w1.cell? ⟨w.heap.size, 11, none⟩ = some (.int .i64 n) ∧ w1.cell? ⟨w.heap.size, 12, none⟩ = some (.string text) ∧ w1.cell? ⟨w.heap.size, 13, none⟩ = some (.slice PA picks.length pcap) := by
  have h := box5 hT hF
  exact ⟨h 0, h 1, h 2, h 3, h 4, h 5, h 6, h 7, h 8, h 9, h 10, h 11, h 12, h 13⟩
theorem box14b {At : World → Nat → RD → List Nat → Prop} {PAt : World → Nat → Nat → PS → List Nat → Prop} {w w1 w2 : World} {F : List Nat} {p : Nat} {v : Value} {c : DS} {kind pk pn pt mt mr mf mp ml n : Int} {pb text : ByteArray} {next : Bool} {picks : List Int} {PA : Option Addr} {pcap : Nat} (h : w1.cell? ⟨w.heap.size, 0, none⟩ = some (.int .i64 kind) ∧ w1.cell? ⟨w.heap.size, 1, none⟩ = some (.int .i64 pk) ∧ w1.cell? ⟨w.heap.size, 2, none⟩ = some (.int .i64 pn) ∧ w1.cell? ⟨w.heap.size, 3, none⟩ = some (.int .i64 pt) ∧ w1.cell? ⟨w.heap.size, 4, none⟩ = some (.string pb) ∧ w1.cell? ⟨w.heap.size, 5, none⟩ = some (.int .i64 mt) ∧ w1.cell? ⟨w.heap.size, 6, none⟩ = some (.int .i64 mr) ∧ w1.cell? ⟨w.heap.size, 7, none⟩ = some (.int .i64 mf) ∧ w1.cell? ⟨w.heap.size, 8, none⟩ = some (.int .i64 mp) ∧ w1.cell? ⟨w.heap.size, 9, none⟩ = some (.int .i64 ml) ∧ w1.cell? ⟨w.heap.size, 10, none⟩ = some (.bool next) ∧ w1.cell? ⟨w.heap.size, 11, none⟩ = some (.int .i64 n) ∧ w1.cell? ⟨w.heap.size, 12, none⟩ = some (.string text) ∧ w1.cell? ⟨w.heap.size, 13, none⟩ = some (.slice PA picks.length pcap)) (hs : w.heap.size < w1.heap.size) (hD : ∃ F', Joint At PAt w2 p v c F' ∧ Touch F w1 w2 ∧ Grows F F' w1.heap.size) (hF : ∀ k ∈ F, k < w.heap.size) : w2.cell? ⟨w.heap.size, 0, none⟩ = some (.int .i64 kind) ∧ w2.cell? ⟨w.heap.size, 1, none⟩ = some (.int .i64 pk) ∧ w2.cell? ⟨w.heap.size, 2, none⟩ = some (.int .i64 pn) ∧ w2.cell? ⟨w.heap.size, 3, none⟩ = some (.int .i64 pt) ∧ w2.cell? ⟨w.heap.size, 4, none⟩ = some (.string pb) ∧ w2.cell? ⟨w.heap.size, 5, none⟩ = some (.int .i64 mt) ∧ w2.cell? ⟨w.heap.size, 6, none⟩ = some (.int .i64 mr) ∧ w2.cell? ⟨w.heap.size, 7, none⟩ = some (.int .i64 mf) ∧ w2.cell? ⟨w.heap.size, 8, none⟩ = some (.int .i64 mp) ∧ w2.cell? ⟨w.heap.size, 9, none⟩ = some (.int .i64 ml) ∧ w2.cell? ⟨w.heap.size, 10, none⟩ = some (.bool next) ∧ w2.cell? ⟨w.heap.size, 11, none⟩ = some (.int .i64 n) ∧ w2.cell? ⟨w.heap.size, 12, none⟩ = some (.string text) ∧ w2.cell? ⟨w.heap.size, 13, none⟩ = some (.slice PA picks.length pcap) := by
  obtain ⟨_, _, hT, _⟩ := hD
  have e : ∀ i, w2.cell? ⟨w.heap.size, i, none⟩ = w1.cell? ⟨w.heap.size, i, none⟩ := fun i => hT.cell (p := ⟨w.heap.size, i, none⟩) hs (fun hm => Nat.lt_irrefl _ (hF _ hm))
  simp only [e]
  exact h
theorem joint_dev {At : World → Nat → RD → List Nat → Prop} {PAt : World → Nat → Nat → PS → List Nat → Prop} {w : World} {p : Nat} {v : Value} {c : DS} {F : List Nat} (h : Joint At PAt w p v c F) : ∃ F1, At w p c.d F1 ∧ ∀ k ∈ F1, k ∈ F := by
  obtain ⟨d, s⟩ := c
  cases s with
  | none => exact ⟨F, h.2, fun _ h => h⟩
  | some s =>
    obtain ⟨q, F1, G, rfl, hA, hP, hFG, rfl⟩ := h
    exact ⟨F1, hA, fun k hk => List.mem_append_left _ hk⟩
theorem opened_joint {At : World → Nat → RD → List Nat → Prop} {PAt : World → Nat → Nat → PS → List Nat → Prop} (lt : ∀ {w : World} {p : Nat} {d : RD} {F : List Nat}, At w p d F → ∀ k ∈ F, k < w.heap.size)
    (tch : ∀ {w w' : World} {p : Nat} {d : RD} {F S : List Nat}, At w p d F → Touch S w w' → (∀ k ∈ S, k ∉ F) → At w' p d F) {w w' : World} {p : Nat} {d : RD} {F : List Nat} {e : Ending} (hA : At w p d F) (hb : Below w.heap.size w w')
    (ho : (d.opens = false ∧ e = .returned (.tuple #[.pointer none, .int .i64 d.openE])) ∨ (d.opens = true ∧ ∃ q G, e = .returned (.tuple #[.pointer (some ⟨q, 0, none⟩), .int .i64 0]) ∧ PAt w' q p d.openS G ∧ ∀ k ∈ G, w.heap.size ≤ k)) :
    ∃ v F', e = .returned (.tuple #[v, .int .i64 d.openE]) ∧ Joint At PAt w' p v ⟨d, d.openP⟩ F' ∧ ∀ k ∈ F', k ∈ F ∨ w.heap.size ≤ k := by
  have hA' := tch hA (Touch.ofBelow hb) (by simp)
  unfold RD.openP
  rcases ho with ⟨h1, rfl⟩ | ⟨h1, q, G, rfl, hP, hG⟩
  · rw [h1]
    exact ⟨_, F, rfl, ⟨rfl, hA'⟩, fun k hk => .inl hk⟩
  · have hE : d.openE = 0 := by
      have h2 := h1
      unfold RD.opens at h2
      simp only [Bool.and_eq_true, decide_eq_true_eq] at h2
      unfold RD.openE
      rw [if_pos h2.1.1.1, if_pos h2.1.1.2, h1]
      rfl
    rw [h1, hE]
    refine ⟨_, F ++ G, rfl, ⟨q, F, G, rfl, hA', hP, fun k hk hm => ?_, rfl⟩, fun k hk => (List.mem_append.1 hk).elim .inl (fun h => .inr (hG k h))⟩
    have := lt hA k hk
    have := hG k hm
    omega
theorem NumsAt.sub {w : World} {F F1 : List Nat} {v : Value} {l : List Int} (h : NumsAt w F v l) (hs : ∀ k ∈ F1, k ∈ F) : NumsAt w F1 v l := by
  obtain ⟨A, cap, hv, hl, hz, hc⟩ := h
  refine ⟨A, cap, hv, hl, hz, fun j hj => ?_⟩
  obtain ⟨b, off, hA, hn, hlt, hcell⟩ := hc j hj
  exact ⟨b, off, hA, fun hm => hn (hs _ hm), hlt, hcell⟩
theorem pMeta_in {K : Nat} {c : DS} (ok : DS.Ok K c) : -1000 ≤ c.pMeta.txn ∧ c.pMeta.txn ≤ 2000000000000 := by
  obtain ⟨d, s⟩ := c
  cases s with
  | none => show (-1000 : Int) ≤ 0 ∧ (0 : Int) ≤ 2000000000000; omega
  | some s =>
    have := (MV.right_iff _).1 (ok.s s rfl).m
    show -1000 ≤ s.m.txn ∧ s.m.txn ≤ 2000000000000
    omega
set_option maxRecDepth 100000 in
set_option maxHeartbeats 3200000 in
theorem does5_ok (At : World → Nat → RD → List Nat → Prop) (PAt : World → Nat → Nat → PS → List Nat → Prop) (U : DevUse At 35 47 32 33 34 70) (P : PgKit At PAt) (w : World) (p : Nat) (v : Value) (c : DS) (F : List Nat) (K : Nat) (hK : K ≤ 800000) (ok : DS.Ok K c) (hrow : ∀ s ∈ c.s, s.row.length ≤ K)
    (x : ActP) (hx : x.page.body.size ≤ 2000) (hxn : x.n ≤ 9223372036854775807) (pv : Value) (hv : NumsAt w F pv x.picks) (h : Joint At PAt w p v c F) : Calls Tryz.prog 10 #[.pointer (some ⟨p, 0, none⟩), v, .agg (x.cells pv)] w (DoneJ At PAt w p F (DS.act x c)) := by
  have JLT := Lib.hid (Joint.lt U.lt P.lt h)
  have box : ∀ o : Obj, Touch [] w (w.alloc o) := fun o => (Touch.refl _ w).alloc o
  have HJ : Hid (∀ w1, Touch [] w w1 → Joint At PAt w1 p v c F) := Lib.hid (fun w1 hT => Joint.touch U.touch P.touch h hT (by simp))
  have HM := pMeta_in ok
  have BOX := Lib.hid box
  have HOK := Lib.hid ok
  have HROW := Lib.hid hrow
  have SA := fun now hn w => Lib.hid (seal_arg x pv now hn w)
  have HV := Lib.hid hv
  obtain ⟨kind, ⟨pk, pn, pt, pb⟩, ⟨mt, mr, mf, mp, ml⟩, next, n, text, picks⟩ := x
  simp only at hv hx hxn HV
  obtain ⟨PA, pcap, rfl, _⟩ := hv
  have HX := Lib.hid hx
  have HXN := Lib.hid hxn
  clear box h hx hxn ok hrow
  unfold ActP.cells at SA ⊢
  unfold DS.act
  simp only at SA ⊢
  by_cases k1 : kind = 1
  · have e1 : (kind == 1) = true := by rw [beq_iff_eq]; exact k1
    rw [if_pos k1]
    clear k1
    go_enter Tryz.func10, Tryz.ntmps10
    go_wp2_with fail
    refine (jwrite (At := At) (PAt := PAt) U.touch P _ p v c F K (by omega) HOK.out HROW.out ⟨pk, pn, pt, pb⟩ HX.out (HJ.out _ (BOX.out _))).mono ?_
    rintro _ w1 ⟨rfl, hD⟩
    have HD := Lib.hid hD
    clear hD
    go_wp2
    go_ret2
    exact DoneJ.of (BOX.out _) HD.out
  · have e1 : (kind == 1) = false := by rw [beq_eq_false_iff_ne]; exact k1
    rw [if_neg k1]
    clear k1
    by_cases k2 : kind = 2
    · have e2 : (kind == 2) = true := by rw [beq_iff_eq]; exact k2
      rw [if_pos k2]
      clear k2
      go_enter Tryz.func10, Tryz.ntmps10
      go_wp2_with fail
      refine (jsync (At := At) (PAt := PAt) U.touch P _ p v c F K (by omega) HOK.out (HJ.out _ (BOX.out _))).mono ?_
      rintro _ w1 ⟨rfl, hD⟩
      have HD := Lib.hid hD
      clear hD
      go_wp2
      go_ret2
      exact DoneJ.of (BOX.out _) HD.out
    · have e2 : (kind == 2) = false := by rw [beq_eq_false_iff_ne]; exact k2
      rw [if_neg k2]
      clear k2
      by_cases k3 : kind = 3
      · have e3 : (kind == 3) = true := by rw [beq_iff_eq]; exact k3
        rw [if_pos k3]
        clear k3
        obtain ⟨M, hM⟩ : ∃ M : MV, c.pMeta = M := ⟨_, rfl⟩
        have MC : Hid (∀ w1, Touch [] w w1 → Calls Tryz.prog 14 #[v] w1 fun e w' => e = .returned M.val ∧ Below w1.heap.size w1 w') := Lib.hid (fun w1 hT => by rw [← hM]; exact jmeta P w1 p v c F (HJ.out _ hT))
        rw [hM] at HM
        have S2 := SA M HM
        obtain ⟨S, hS⟩ : ∃ S : MV, ActP.seal_ ⟨kind, ⟨pk, pn, pt, pb⟩, ⟨mt, mr, mf, mp, ml⟩, next, n, text, picks⟩ M = S := ⟨_, rfl⟩
        rw [hS] at S2
        rw [hM, hS]
        have HS := Lib.hid hS
        clear hS hM SA
        unfold MV.val at MC S2
        obtain ⟨Mt, Mr, Mf, Mp, Ml⟩ := M
        obtain ⟨St, Sr, Sf, Sp, Sl⟩ := S
        simp only at MC S2
        go_enter Tryz.func10, Tryz.ntmps10
        go_upto_region 8 with fail
        go_region_held3 (fun w' => w'.cell? ⟨w.heap.size, 0, none⟩ = some (.int .i64 kind) ∧ w'.cell? ⟨w.heap.size, 1, none⟩ = some (.int .i64 pk) ∧ w'.cell? ⟨w.heap.size, 2, none⟩ = some (.int .i64 pn) ∧ w'.cell? ⟨w.heap.size, 3, none⟩ = some (.int .i64 pt) ∧ w'.cell? ⟨w.heap.size, 4, none⟩ = some (.string pb) ∧ w'.cell? ⟨w.heap.size, 5, none⟩ = some (.int .i64 mt) ∧ w'.cell? ⟨w.heap.size, 6, none⟩ = some (.int .i64 mr) ∧ w'.cell? ⟨w.heap.size, 7, none⟩ = some (.int .i64 mf) ∧ w'.cell? ⟨w.heap.size, 8, none⟩ = some (.int .i64 mp) ∧ w'.cell? ⟨w.heap.size, 9, none⟩ = some (.int .i64 ml) ∧ w'.cell? ⟨w.heap.size, 10, none⟩ = some (.bool next) ∧ w'.cell? ⟨w.heap.size, 11, none⟩ = some (.int .i64 n) ∧ w'.cell? ⟨w.heap.size, 12, none⟩ = some (.string text) ∧ w'.cell? ⟨w.heap.size, 13, none⟩ = some (.slice PA picks.length pcap))
          (first | (go_keep; done) | exact KK1.out | exact KK2.out | exact KK3.out)
          (first
            | (go_at_call 14; refine (MC.out _ (BOX.out _).drew).mono ?_; rintro e w1 ⟨rfl, hb1⟩; have T1 := Lib.hid ((BOX.out (.cells #[.int .i64 kind, .int .i64 pk, .int .i64 pn, .int .i64 pt, .string pb, .int .i64 mt, .int .i64 mr, .int .i64 mf, .int .i64 mp, .int .i64 ml, .bool next, .int .i64 n, .string text, .slice PA picks.length pcap] 43)).drew.trans (Touch.ofBelow hb1) (Grows.refl _ _)); have KK1 := Lib.hid (box14 ((Touch.refl [] _).drew.trans (Touch.ofBelow hb1) (Grows.refl _ _)) (by simp)))
            | (go_at_call 30; refine (S2 _).out.mono ?_; rintro e w2 ⟨rfl, hb2⟩; have T2 := Lib.hid (T1.out.trans (Touch.ofBelow hb2) (Grows.refl _ _)); have KK2 := Lib.hid (box14 (((Touch.refl [] _).drew.trans (Touch.ofBelow hb1) (Grows.refl _ _)).trans (Touch.ofBelow hb2) (Grows.refl _ _)) (by simp)))
            | (go_at_call 29; refine (jseal (At := At) (PAt := PAt) U.touch P _ p v c F K (by omega) HOK.out ⟨St, Sr, Sf, Sp, Sl⟩ (HJ.out _ T2.out)).mono ?_; rintro e w3 ⟨rfl, hD⟩; have KK3 := Lib.hid (box14b KK2.out (by have := T2.out.size; have := hb1.size; have := hb2.size; simp at *; omega) hD JLT.out)))
        go_wp2
        go_ret2
        exact DoneJ.of T2.out hD
      · have e3 : (kind == 3) = false := by rw [beq_eq_false_iff_ne]; exact k3
        rw [if_neg k3]
        clear k3
        by_cases k4 : kind = 4
        · have e4 : (kind == 4) = true := by rw [beq_iff_eq]; exact k4
          rw [if_pos k4]
          clear k4
          go_enter Tryz.func10, Tryz.ntmps10
          go_wp2_with fail
          refine (jdone (At := At) (PAt := PAt) U.touch P _ p v c F K (by omega) HOK.out (HJ.out _ (BOX.out _))).mono ?_
          rintro _ w1 ⟨rfl, hD⟩
          have HD := Lib.hid hD
          clear hD
          go_wp2
          go_ret2
          exact DoneJ.of (BOX.out _) HD.out
        · have e4 : (kind == 4) = false := by rw [beq_eq_false_iff_ne]; exact k4
          rw [if_neg k4]
          clear k4
          by_cases k5 : kind = 5
          · have e5 : (kind == 5) = true := by rw [beq_iff_eq]; exact k5
            rw [if_pos k5]
            clear k5
            go_enter Tryz.func10, Tryz.ntmps10
            go_wp2_with fail
            refine (jread P _ p v c F K (by omega) HOK.out n (HJ.out _ (BOX.out _))).mono ?_
            rintro _ w1 ⟨rfl, hb1⟩
            have T1 := Lib.hid ((BOX.out (.cells #[.int .i64 kind, .int .i64 pk, .int .i64 pn, .int .i64 pt, .string pb, .int .i64 mt, .int .i64 mr, .int .i64 mf, .int .i64 mp, .int .i64 ml, .bool next, .int .i64 n, .string text, .slice PA picks.length pcap] 43)).trans (Touch.ofBelow hb1) (Grows.refl _ _))
            clear hb1
            go_wp2
            go_ret2
            exact ⟨v, F, rfl, HJ.out _ T1.out, T1.out.more (by simp), Grows.refl _ _⟩
          · have e5 : (kind == 5) = false := by rw [beq_eq_false_iff_ne]; exact k5
            rw [if_neg k5]
            clear k5
            by_cases k6 : kind = 6
            · have e6 : (kind == 6) = true := by rw [beq_iff_eq]; exact k6
              rw [if_pos k6]
              clear k6
              go_enter Tryz.func10, Tryz.ntmps10
              go_wp2_with fail
              refine (jdev (At := At) (PAt := PAt) P.touch P.lt 32 (fun _ => #[.pointer (some ⟨p, 0, none⟩), .int .i64 n]) _ p v c F (c.d.fuseD n) _ (HJ.out _ (BOX.out _)) (fun F1 hF1 hA => U.fuse _ p c.d F1 n hA) #[.pointer (some ⟨p, 0, none⟩), .int .i64 n] (fun _ => rfl)).mono ?_
              rintro _ w1 ⟨rfl, hD⟩
              have HD := Lib.hid hD
              clear hD
              go_wp2
              go_ret2
              exact DoneJ.of (BOX.out _) HD.out
            · have e6 : (kind == 6) = false := by rw [beq_eq_false_iff_ne]; exact k6
              rw [if_neg k6]
              clear k6
              by_cases k7 : kind = 7
              · have e7 : (kind == 7) = true := by rw [beq_iff_eq]; exact k7
                rw [if_pos k7]
                clear k7
                go_enter Tryz.func10, Tryz.ntmps10
                go_wp2_with fail
                refine (jdev (At := At) (PAt := PAt) P.touch P.lt 33 (fun _ => #[.pointer (some ⟨p, 0, none⟩)]) _ p v c F (c.d.cutD) _ (HJ.out _ (BOX.out _)) (fun F1 hF1 hA => U.cut _ p c.d F1 hA) #[.pointer (some ⟨p, 0, none⟩)] (fun _ => rfl)).mono ?_
                rintro _ w1 ⟨rfl, hD⟩
                have HD := Lib.hid hD
                clear hD
                go_wp2
                go_ret2
                exact DoneJ.of (BOX.out _) HD.out
              · have e7 : (kind == 7) = false := by rw [beq_eq_false_iff_ne]; exact k7
                rw [if_neg k7]
                clear k7
                by_cases k8 : kind = 8
                · have e8 : (kind == 8) = true := by rw [beq_iff_eq]; exact k8
                  rw [if_pos k8]
                  clear k8
                  by_cases hs : c.d.startE = 0
                  · rw [if_pos hs]
                    have d8 : (c.d.startE == 0) = true := by rw [beq_iff_eq]; exact hs
                    go_enter Tryz.func10, Tryz.ntmps10
                    go_wp2_with fail
                    refine (jdev (At := At) (PAt := PAt) P.touch P.lt 34 (fun _ => #[.pointer (some ⟨p, 0, none⟩), .slice PA picks.length pcap]) _ p v c F (c.d.startD picks) _ (HJ.out _ (BOX.out _)) (fun F1 hF1 hA => U.start _ p c.d F1 K (by omega) HOK.out.d hA (.slice PA picks.length pcap) picks ((HV.out.touch (S := []) (BOX.out _) (by simp)).sub hF1)) #[.pointer (some ⟨p, 0, none⟩), .slice PA picks.length pcap] (fun _ => rfl)).mono ?_
                    rintro _ w1 ⟨rfl, F1, hJ1, hT1, hG1⟩
                    have OK1 : DS.Ok (K + 4) ⟨c.d.startD picks, c.s⟩ := ⟨(RD.start_ok HOK.out.d picks).more (by omega), HOK.out.full.start picks, HOK.out.s⟩
                    obtain ⟨F2, hA2, hF2⟩ := joint_dev hJ1
                    have OC := P.open_ w1 p (c.d.startD picks) F2 (K + 4) (by omega) OK1.d OK1.full hA2
                    have HT1 := Lib.hid ((BOX.out (.cells #[.int .i64 kind, .int .i64 pk, .int .i64 pn, .int .i64 pt, .string pb, .int .i64 mt, .int .i64 mr, .int .i64 mf, .int .i64 mp, .int .i64 ml, .bool next, .int .i64 n, .string text, .slice PA picks.length pcap] 43)).more (by simp) |>.trans hT1 (Grows.refl _ _))
                    have HG1 : Hid (Grows F F1 w.heap.size) := Lib.hid (fun k hk => (hG1 k hk).elim .inl (fun h => .inr (by simp at h; omega)))
                    have HA2 := Lib.hid hA2
                    have OC := Lib.hid OC
                    clear hJ1 hT1 hG1 hA2
                    go_wp2_with fail
                    refine OC.out.mono ?_
                    rintro e8 w2 ⟨hb2, ho⟩
                    have HOP := Lib.hid (opened_joint U.lt U.touch HA2.out hb2 ho)
                    have HT2 := Lib.hid (HT1.out.trans ((Touch.ofBelow hb2).more (by simp)) HG1.out)
                    obtain ⟨v2, F3, rfl, hj3, hg3⟩ := HOP.out
                    have HJ3 := Lib.hid hj3
                    have HG3 := Lib.hid hg3
                    have hsz := HT1.out.size
                    clear hj3 hg3 ho hb2 HOP
                    go_wp2
                    go_ret2
                    exact ⟨v2, F3, rfl, HJ3.out, HT2.out, fun k hk => (HG3.out k hk).elim (fun h => HG1.out k (hF2 k h)) (fun h => .inr (by omega))⟩
                  · rw [if_neg hs]
                    have d8 : (c.d.startE == 0) = false := by rw [beq_eq_false_iff_ne]; exact hs
                    go_enter Tryz.func10, Tryz.ntmps10
                    go_wp2_with fail
                    refine (jdev (At := At) (PAt := PAt) P.touch P.lt 34 (fun _ => #[.pointer (some ⟨p, 0, none⟩), .slice PA picks.length pcap]) _ p v c F (c.d.startD picks) _ (HJ.out _ (BOX.out _)) (fun F1 hF1 hA => U.start _ p c.d F1 K (by omega) HOK.out.d hA (.slice PA picks.length pcap) picks ((HV.out.touch (S := []) (BOX.out _) (by simp)).sub hF1)) #[.pointer (some ⟨p, 0, none⟩), .slice PA picks.length pcap] (fun _ => rfl)).mono ?_
                    rintro _ w1 ⟨rfl, hD⟩
                    have HD := Lib.hid hD
                    clear hD
                    go_wp2
                    go_ret2
                    exact DoneJ.of (BOX.out _) HD.out
                · have e8 : (kind == 8) = false := by rw [beq_eq_false_iff_ne]; exact k8
                  rw [if_neg k8]
                  clear k8
                  by_cases k9 : kind = 9
                  · have e9 : (kind == 9) = true := by rw [beq_iff_eq]; exact k9
                    rw [if_pos k9]
                    clear k9
                    go_enter Tryz.func10, Tryz.ntmps10
                    go_wp2_with fail
                    refine (jdev (At := At) (PAt := PAt) P.touch P.lt 35 (fun _ => #[.pointer (some ⟨p, 0, none⟩), .int .i64 n, .string text]) _ p v c F (c.d.writeD n text) _ (HJ.out _ (BOX.out _)) (fun F1 hF1 hA => U.write _ p c.d F1 K (by omega) HOK.out.d n text hA) #[.pointer (some ⟨p, 0, none⟩), .int .i64 n, .string text] (fun _ => rfl)).mono ?_
                    rintro _ w1 ⟨rfl, hD⟩
                    have HD := Lib.hid hD
                    clear hD
                    go_wp2
                    go_ret2
                    exact DoneJ.of (BOX.out _) HD.out
                  · have e9 : (kind == 9) = false := by rw [beq_eq_false_iff_ne]; exact k9
                    rw [if_neg k9]
                    clear k9
                    go_enter Tryz.func10, Tryz.ntmps10
                    go_wp2
                    go_ret2
                    exact ⟨v, F, rfl, HJ.out _ (BOX.out _), (BOX.out _).more (by simp), Grows.refl _ _⟩
end Go.Proofs.YtjgmlpfallakmaaGreat
