/-
  A call that is played on the reference's device and pager (rollbooklaw05.means). Conditions: at most 900000 calls before.
-/
import Derived.Test.YtjgmlpfallakmaaGreatPgDoes
import Derived.Test.YtjgmlpfallakmaaGreatB7
namespace Go.Proofs.YtjgmlpfallakmaaGreat
open Go.RowKit
theorem DoneJ.two {At : World → Nat → RD → List Nat → Prop} {PAt : World → Nat → Nat → PS → List Nat → Prop} {w w1 w' : World} {p q : Nat} {F : List Nat} {d' : RD} {s' : PS} {E : Int} (hT : Touch [] w w1) (h : (∃ F' G', At w' p d' F' ∧ PAt w' q p s' G' ∧ (∀ k ∈ F', k ∉ G') ∧ Touch F w1 w' ∧ Grows F (F' ++ G') w1.heap.size)) : DoneJ At PAt w p F (⟨d', some s'⟩, E) (.returned (.tuple #[.pointer (some ⟨q, 0, none⟩), .int .i64 E])) w' := by
  obtain ⟨F', G', hA, hP, hFG, hT', hG⟩ := h
  exact DoneJ.of hT ⟨F' ++ G', ⟨q, F', G', rfl, hA, hP, hFG, rfl⟩, hT', hG⟩
theorem did2_touch {At : World → Nat → RD → List Nat → Prop} {PAt : World → Nat → Nat → PS → List Nat → Prop} {w w' : World} {p q : Nat} {F : List Nat} {d' : RD} {s' : PS} (h : (∃ F' G', At w' p d' F' ∧ PAt w' q p s' G' ∧ (∀ k ∈ F', k ∉ G') ∧ Touch F w w' ∧ Grows F (F' ++ G') w.heap.size)) : Touch F w w' := by
  obtain ⟨F', G', _, _, _, hT', _⟩ := h
  exact hT'
theorem didJ_touch {At : World → Nat → RD → List Nat → Prop} {PAt : World → Nat → Nat → PS → List Nat → Prop} {w w' : World} {p : Nat} {v : Value} {F : List Nat} {c' : DS} (h : ∃ F', Joint At PAt w' p v c' F' ∧ Touch F w w' ∧ Grows F F' w.heap.size) : Touch F w w' := by
  obtain ⟨F', _, hT', _⟩ := h
  exact hT' 
theorem refPg_meta {w : World} {q p : Nat} {s : PS} {G : List Nat} (h : RefPg w q p s G) : w.cell? ⟨q, 1, none⟩ = some (.int .i64 s.m.txn) ∧ w.cell? ⟨q, 2, none⟩ = some (.int .i64 s.m.root) ∧ w.cell? ⟨q, 3, none⟩ = some (.int .i64 s.m.free) ∧ w.cell? ⟨q, 4, none⟩ = some (.int .i64 s.m.pages) ∧ w.cell? ⟨q, 5, none⟩ = some (.int .i64 s.m.limit) := by
  obtain ⟨vs, vr, hb, _⟩ := h
  exact ⟨hb.cell 1, hb.cell 2, hb.cell 3, hb.cell 4, hb.cell 5⟩
theorem refPg_mem {w : World} {q p : Nat} {s : PS} {G : List Nat} (h : RefPg w q p s G) : q ∈ G := by
  obtain ⟨vs, vr, hb, _, _, rfl, _⟩ := h
  exact List.mem_cons_self ..
theorem seal_m (s : PS) (d : RD) (m : MV) : (s.sealS d m).m = s.m := by unfold PS.sealS; split <;> rfl
theorem and14 {a0 a1 a2 a3 a4 a5 a6 a7 a8 a9 a10 a11 a12 a13 B : Prop} (h : a0 ∧ a1 ∧ a2 ∧ a3 ∧ a4 ∧ a5 ∧ a6 ∧ a7 ∧ a8 ∧ a9 ∧ a10 ∧ a11 ∧ a12 ∧ a13) (hB : B) : a0 ∧ a1 ∧ a2 ∧ a3 ∧ a4 ∧ a5 ∧ a6 ∧ a7 ∧ a8 ∧ a9 ∧ a10 ∧ a11 ∧ a12 ∧ a13 ∧ B := by
  obtain ⟨a0, a1, a2, a3, a4, a5, a6, a7, a8, a9, a10, a11, a12, a13⟩ := h
  exact ⟨a0, a1, a2, a3, a4, a5, a6, a7, a8, a9, a10, a11, a12, a13, hB⟩
theorem cut14 {a0 a1 a2 a3 a4 a5 a6 a7 a8 a9 a10 a11 a12 a13 B : Prop} (h : a0 ∧ a1 ∧ a2 ∧ a3 ∧ a4 ∧ a5 ∧ a6 ∧ a7 ∧ a8 ∧ a9 ∧ a10 ∧ a11 ∧ a12 ∧ a13 ∧ B) : a0 ∧ a1 ∧ a2 ∧ a3 ∧ a4 ∧ a5 ∧ a6 ∧ a7 ∧ a8 ∧ a9 ∧ a10 ∧ a11 ∧ a12 ∧ a13 := by
  obtain ⟨a0, a1, a2, a3, a4, a5, a6, a7, a8, a9, a10, a11, a12, a13, _⟩ := h
  exact ⟨a0, a1, a2, a3, a4, a5, a6, a7, a8, a9, a10, a11, a12, a13⟩
theorem mkk {w w2 w3 : World} {F : List Nat} {p q : Nat} {D2 : RD} {S2 : PS} {Mt Mr Mf Mp Ml : Int} {kind pk pn pt mt mr mf mp ml n : Int} {pb text : ByteArray} {next : Bool} {picks : List Int} {PA : Option Addr} {pcap : Nat} (h : w2.cell? ⟨w.heap.size, 0, none⟩ = some (.int .i64 kind) ∧ w2.cell? ⟨w.heap.size, 1, none⟩ = some (.int .i64 pk) ∧ w2.cell? ⟨w.heap.size, 2, none⟩ = some (.int .i64 pn) ∧ w2.cell? ⟨w.heap.size, 3, none⟩ = some (.int .i64 pt) ∧ w2.cell? ⟨w.heap.size, 4, none⟩ = some (.string pb) ∧ w2.cell? ⟨w.heap.size, 5, none⟩ = some (.int .i64 mt) ∧ w2.cell? ⟨w.heap.size, 6, none⟩ = some (.int .i64 mr) ∧ w2.cell? ⟨w.heap.size, 7, none⟩ = some (.int .i64 mf) ∧ w2.cell? ⟨w.heap.size, 8, none⟩ = some (.int .i64 mp) ∧ w2.cell? ⟨w.heap.size, 9, none⟩ = some (.int .i64 ml) ∧ w2.cell? ⟨w.heap.size, 10, none⟩ = some (.bool next) ∧ w2.cell? ⟨w.heap.size, 11, none⟩ = some (.int .i64 n) ∧ w2.cell? ⟨w.heap.size, 12, none⟩ = some (.string text) ∧ w2.cell? ⟨w.heap.size, 13, none⟩ = some (.slice PA picks.length pcap)) (hs : w.heap.size < w2.heap.size)
    (hD : ∃ F' G', RefAt w3 p D2 F' ∧ RefPg w3 q p S2 G' ∧ (∀ k ∈ F', k ∉ G') ∧ Touch F w2 w3 ∧ Grows F (F' ++ G') w2.heap.size) (hF : ∀ k ∈ F, k < w.heap.size) (hm : S2.m = ⟨Mt, Mr, Mf, Mp, Ml⟩) : w3.cell? ⟨w.heap.size, 0, none⟩ = some (.int .i64 kind) ∧ w3.cell? ⟨w.heap.size, 1, none⟩ = some (.int .i64 pk) ∧ w3.cell? ⟨w.heap.size, 2, none⟩ = some (.int .i64 pn) ∧ w3.cell? ⟨w.heap.size, 3, none⟩ = some (.int .i64 pt) ∧ w3.cell? ⟨w.heap.size, 4, none⟩ = some (.string pb) ∧ w3.cell? ⟨w.heap.size, 5, none⟩ = some (.int .i64 mt) ∧ w3.cell? ⟨w.heap.size, 6, none⟩ = some (.int .i64 mr) ∧ w3.cell? ⟨w.heap.size, 7, none⟩ = some (.int .i64 mf) ∧ w3.cell? ⟨w.heap.size, 8, none⟩ = some (.int .i64 mp) ∧ w3.cell? ⟨w.heap.size, 9, none⟩ = some (.int .i64 ml) ∧ w3.cell? ⟨w.heap.size, 10, none⟩ = some (.bool next) ∧ w3.cell? ⟨w.heap.size, 11, none⟩ = some (.int .i64 n) ∧ w3.cell? ⟨w.heap.size, 12, none⟩ = some (.string text) ∧ w3.cell? ⟨w.heap.size, 13, none⟩ = some (.slice PA picks.length pcap) ∧ w3.cell? ⟨q, 1, none⟩ = some (.int .i64 Mt) ∧ w3.cell? ⟨q, 2, none⟩ = some (.int .i64 Mr) ∧ w3.cell? ⟨q, 3, none⟩ = some (.int .i64 Mf) ∧ w3.cell? ⟨q, 4, none⟩ = some (.int .i64 Mp) ∧ w3.cell? ⟨q, 5, none⟩ = some (.int .i64 Ml) := by
  obtain ⟨_, _, _, hP, _, hT, _⟩ := hD
  have e : ∀ i, w3.cell? ⟨w.heap.size, i, none⟩ = w2.cell? ⟨w.heap.size, i, none⟩ := fun i => hT.cell (p := ⟨w.heap.size, i, none⟩) hs (fun hm => Nat.lt_irrefl _ (hF _ hm))
  have h5 := refPg_meta hP
  rw [hm] at h5
  refine and14 ?_ h5
  simp only [e]
  exact h
set_option maxRecDepth 100000 in
set_option maxHeartbeats 6400000 in
theorem means_none (w : World) (p : Nat) (d : RD) (F : List Nat) (K : Nat) (hK : K ≤ 800000) (ok : DS.Ok K ⟨d, none⟩) 
    (x : ActP) (hx : x.page.body.size ≤ 2000) (hxn : x.n ≤ 9223372036854775807) (pv : Value) (hv : NumsAt w F pv x.picks) (h : Joint RefAt RefPg w p (.pointer none) ⟨d, none⟩ F) : Calls Tryz.prog 11 #[.pointer (some ⟨p, 0, none⟩), .pointer none, .agg (x.cells pv)] w (DoneJ RefAt RefPg w p F (DS.act x ⟨d, none⟩)) := by
  have box : ∀ o : Obj, Touch [] w (w.alloc o) := fun o => (Touch.refl _ w).alloc o
  have HJ : Hid (∀ w1, Touch [] w w1 → Joint RefAt RefPg w1 p (.pointer none) ⟨d, none⟩ F) := Lib.hid (fun w1 hT => Joint.touch refUse.touch refPg.touch h hT (by simp))
  have JLT := Lib.hid (Joint.lt refUse.lt refPg.lt h)
  have BOX := Lib.hid box
  have HOK := Lib.hid ok
  have HV := Lib.hid hv
  obtain ⟨kind, ⟨pk, pn, pt, pb⟩, ⟨mt, mr, mf, mp, ml⟩, next, n, text, picks⟩ := x
  simp only at hv hx hxn HV
  obtain ⟨PA, pcap, rfl, _⟩ := hv
  have HX := Lib.hid hx
  have HXN := Lib.hid hxn
  clear box h hx hxn ok 
  unfold ActP.cells 
  unfold DS.act
  simp only 
  by_cases k1 : kind = 1
  · have e1 : (kind == 1) = true := by rw [beq_iff_eq]; exact k1
    rw [if_pos k1]
    have f1 : decide (kind < 1) = false := decide_eq_false (by omega)
    have f9 : decide (9 < kind) = false := decide_eq_false (by omega)
    have e2 : (kind == 2) = false := by rw [beq_eq_false_iff_ne]; omega
    have e3 : (kind == 3) = false := by rw [beq_eq_false_iff_ne]; omega
    have e4 : (kind == 4) = false := by rw [beq_eq_false_iff_ne]; omega
    have e5 : (kind == 5) = false := by rw [beq_eq_false_iff_ne]; omega
    have e6 : (kind == 6) = false := by rw [beq_eq_false_iff_ne]; omega
    have e7 : (kind == 7) = false := by rw [beq_eq_false_iff_ne]; omega
    have e8 : (kind == 8) = false := by rw [beq_eq_false_iff_ne]; omega
    have e9 : (kind == 9) = false := by rw [beq_eq_false_iff_ne]; omega
    clear k1
    go_enter Tryz.func11, Tryz.ntmps11
    go_wp2
    go_ret2
    exact ⟨.pointer none, F, rfl, HJ.out _ (BOX.out _), (BOX.out _).more (by simp), Grows.refl _ _⟩
  · have e1 : (kind == 1) = false := by rw [beq_eq_false_iff_ne]; exact k1
    rw [if_neg k1]
    by_cases k2 : kind = 2
    · have e2 : (kind == 2) = true := by rw [beq_iff_eq]; exact k2
      rw [if_pos k2]
      have f1 : decide (kind < 1) = false := decide_eq_false (by omega)
      have f9 : decide (9 < kind) = false := decide_eq_false (by omega)
      have e3 : (kind == 3) = false := by rw [beq_eq_false_iff_ne]; omega
      have e4 : (kind == 4) = false := by rw [beq_eq_false_iff_ne]; omega
      have e5 : (kind == 5) = false := by rw [beq_eq_false_iff_ne]; omega
      have e6 : (kind == 6) = false := by rw [beq_eq_false_iff_ne]; omega
      have e7 : (kind == 7) = false := by rw [beq_eq_false_iff_ne]; omega
      have e8 : (kind == 8) = false := by rw [beq_eq_false_iff_ne]; omega
      have e9 : (kind == 9) = false := by rw [beq_eq_false_iff_ne]; omega
      clear k2
      go_enter Tryz.func11, Tryz.ntmps11
      go_wp2
      go_ret2
      exact ⟨.pointer none, F, rfl, HJ.out _ (BOX.out _), (BOX.out _).more (by simp), Grows.refl _ _⟩
    · have e2 : (kind == 2) = false := by rw [beq_eq_false_iff_ne]; exact k2
      rw [if_neg k2]
      by_cases k3 : kind = 3
      · have e3 : (kind == 3) = true := by rw [beq_iff_eq]; exact k3
        rw [if_pos k3]
        have f1 : decide (kind < 1) = false := decide_eq_false (by omega)
        have f9 : decide (9 < kind) = false := decide_eq_false (by omega)
        have e4 : (kind == 4) = false := by rw [beq_eq_false_iff_ne]; omega
        have e5 : (kind == 5) = false := by rw [beq_eq_false_iff_ne]; omega
        have e6 : (kind == 6) = false := by rw [beq_eq_false_iff_ne]; omega
        have e7 : (kind == 7) = false := by rw [beq_eq_false_iff_ne]; omega
        have e8 : (kind == 8) = false := by rw [beq_eq_false_iff_ne]; omega
        have e9 : (kind == 9) = false := by rw [beq_eq_false_iff_ne]; omega
        clear k3
        go_enter Tryz.func11, Tryz.ntmps11
        go_wp2
        go_ret2
        exact ⟨.pointer none, F, rfl, HJ.out _ (BOX.out _), (BOX.out _).more (by simp), Grows.refl _ _⟩
      · have e3 : (kind == 3) = false := by rw [beq_eq_false_iff_ne]; exact k3
        rw [if_neg k3]
        by_cases k4 : kind = 4
        · have e4 : (kind == 4) = true := by rw [beq_iff_eq]; exact k4
          rw [if_pos k4]
          have f1 : decide (kind < 1) = false := decide_eq_false (by omega)
          have f9 : decide (9 < kind) = false := decide_eq_false (by omega)
          have e5 : (kind == 5) = false := by rw [beq_eq_false_iff_ne]; omega
          have e6 : (kind == 6) = false := by rw [beq_eq_false_iff_ne]; omega
          have e7 : (kind == 7) = false := by rw [beq_eq_false_iff_ne]; omega
          have e8 : (kind == 8) = false := by rw [beq_eq_false_iff_ne]; omega
          have e9 : (kind == 9) = false := by rw [beq_eq_false_iff_ne]; omega
          clear k4
          go_enter Tryz.func11, Tryz.ntmps11
          go_wp2
          go_ret2
          exact ⟨.pointer none, F, rfl, HJ.out _ (BOX.out _), (BOX.out _).more (by simp), Grows.refl _ _⟩
        · have e4 : (kind == 4) = false := by rw [beq_eq_false_iff_ne]; exact k4
          rw [if_neg k4]
          by_cases k5 : kind = 5
          · have e5 : (kind == 5) = true := by rw [beq_iff_eq]; exact k5
            rw [if_pos k5]
            have f1 : decide (kind < 1) = false := decide_eq_false (by omega)
            have f9 : decide (9 < kind) = false := decide_eq_false (by omega)
            have e6 : (kind == 6) = false := by rw [beq_eq_false_iff_ne]; omega
            have e7 : (kind == 7) = false := by rw [beq_eq_false_iff_ne]; omega
            have e8 : (kind == 8) = false := by rw [beq_eq_false_iff_ne]; omega
            have e9 : (kind == 9) = false := by rw [beq_eq_false_iff_ne]; omega
            clear k5
            go_enter Tryz.func11, Tryz.ntmps11
            go_wp2
            go_ret2
            exact ⟨.pointer none, F, rfl, HJ.out _ (BOX.out _), (BOX.out _).more (by simp), Grows.refl _ _⟩
          · have e5 : (kind == 5) = false := by rw [beq_eq_false_iff_ne]; exact k5
            rw [if_neg k5]
            by_cases k6 : kind = 6
            · have e6 : (kind == 6) = true := by rw [beq_iff_eq]; exact k6
              rw [if_pos k6]
              have f1 : decide (kind < 1) = false := decide_eq_false (by omega)
              have f9 : decide (9 < kind) = false := decide_eq_false (by omega)
              have e7 : (kind == 7) = false := by rw [beq_eq_false_iff_ne]; omega
              have e8 : (kind == 8) = false := by rw [beq_eq_false_iff_ne]; omega
              have e9 : (kind == 9) = false := by rw [beq_eq_false_iff_ne]; omega
              clear k6
              go_enter Tryz.func11, Tryz.ntmps11
              go_wp2_with fail
              refine (jdev (At := RefAt) (PAt := RefPg) refPg.touch refPg.lt 39 (fun _ => #[.pointer (some ⟨p, 0, none⟩), .int .i64 n]) _ p (.pointer none) ⟨d, none⟩ F ((d).fuseD n) _ (HJ.out _ (BOX.out _)) (fun F1 hF1 hA => refUse.fuse _ p d F1 n hA) #[.pointer (some ⟨p, 0, none⟩), .int .i64 n] (fun _ => rfl)).mono ?_
              rintro _ w1 ⟨rfl, hD⟩
              have k0 : w1.cell? ⟨w.heap.size, 0, none⟩ = some (.int .i64 kind) := box5 (didJ_touch hD) JLT.out 0
              have HD := Lib.hid hD
              clear hD
              go_wp2
              go_ret2
              exact DoneJ.of (BOX.out _) HD.out
            · have e6 : (kind == 6) = false := by rw [beq_eq_false_iff_ne]; exact k6
              rw [if_neg k6]
              by_cases k7 : kind = 7
              · have e7 : (kind == 7) = true := by rw [beq_iff_eq]; exact k7
                rw [if_pos k7]
                have f1 : decide (kind < 1) = false := decide_eq_false (by omega)
                have f9 : decide (9 < kind) = false := decide_eq_false (by omega)
                have e8 : (kind == 8) = false := by rw [beq_eq_false_iff_ne]; omega
                have e9 : (kind == 9) = false := by rw [beq_eq_false_iff_ne]; omega
                clear k7
                go_enter Tryz.func11, Tryz.ntmps11
                go_wp2_with fail
                refine (jdev (At := RefAt) (PAt := RefPg) refPg.touch refPg.lt 40 (fun _ => #[.pointer (some ⟨p, 0, none⟩)]) _ p (.pointer none) ⟨d, none⟩ F ((d).cutD) _ (HJ.out _ (BOX.out _)) (fun F1 hF1 hA => refUse.cut _ p d F1 hA) #[.pointer (some ⟨p, 0, none⟩)] (fun _ => rfl)).mono ?_
                rintro _ w1 ⟨rfl, hD⟩
                have k0 : w1.cell? ⟨w.heap.size, 0, none⟩ = some (.int .i64 kind) := box5 (didJ_touch hD) JLT.out 0
                have HD := Lib.hid hD
                clear hD
                go_wp2
                go_ret2
                exact DoneJ.of (BOX.out _) HD.out
              · have e7 : (kind == 7) = false := by rw [beq_eq_false_iff_ne]; exact k7
                rw [if_neg k7]
                by_cases k8 : kind = 8
                · have e8 : (kind == 8) = true := by rw [beq_iff_eq]; exact k8
                  rw [if_pos k8]
                  have f1 : decide (kind < 1) = false := decide_eq_false (by omega)
                  have f9 : decide (9 < kind) = false := decide_eq_false (by omega)
                  have e9 : (kind == 9) = false := by rw [beq_eq_false_iff_ne]; omega
                  clear k8
                  by_cases hs : (d).startE = 0
                  · rw [if_pos hs]
                    have d8 : ((d).startE == 0) = true := by rw [beq_iff_eq]; exact hs
                    go_enter Tryz.func11, Tryz.ntmps11
                    go_wp2_with fail
                    refine (jdev (At := RefAt) (PAt := RefPg) refPg.touch refPg.lt 41 (fun _ => #[.pointer (some ⟨p, 0, none⟩), .slice PA picks.length pcap]) _ p (.pointer none) ⟨d, none⟩ F ((d).startD picks) _ (HJ.out _ (BOX.out _)) (fun F1 hF1 hA => refUse.start _ p d F1 K (by omega) HOK.out.d hA (.slice PA picks.length pcap) picks ((HV.out.touch (S := []) (BOX.out _) (by simp)).sub hF1)) #[.pointer (some ⟨p, 0, none⟩), .slice PA picks.length pcap] (fun _ => rfl)).mono ?_
                    rintro _ w1 ⟨rfl, F1, hJ1, hT1, hG1⟩
                    have OK1 : DS.Ok (K + 4) ⟨(d).startD picks, (⟨d, none⟩ : DS).s⟩ := ⟨(RD.start_ok HOK.out.d picks).more (by omega), HOK.out.full.start picks, HOK.out.s⟩
                    obtain ⟨F2, hA2, hF2⟩ := joint_dev hJ1
                    have OC := refPg.open_ w1 p ((d).startD picks) F2 (K + 4) (by omega) OK1.d OK1.full hA2
                    have HT1 := Lib.hid ((BOX.out (.cells #[.int .i64 kind, .int .i64 pk, .int .i64 pn, .int .i64 pt, .string pb, .int .i64 mt, .int .i64 mr, .int .i64 mf, .int .i64 mp, .int .i64 ml, .bool next, .int .i64 n, .string text, .slice PA picks.length pcap] 43)).more (by simp) |>.trans hT1 (Grows.refl _ _))
                    have HG1 : Hid (Grows F F1 w.heap.size) := Lib.hid (fun k hk => (hG1 k hk).elim .inl (fun h => .inr (by simp at h; omega)))
                    have HA2 := Lib.hid hA2
                    have OC := Lib.hid OC
                    clear hJ1 hT1 hG1 hA2
                    go_wp2_with fail
                    refine OC.out.mono ?_
                    rintro e8x w2 ⟨hb2, ho⟩
                    have HOP := Lib.hid (opened_joint refUse.lt refUse.touch HA2.out hb2 ho)
                    have HT2 := Lib.hid (HT1.out.trans ((Touch.ofBelow hb2).more (by simp)) HG1.out)
                    obtain ⟨v2, F3, rfl, hj3, hg3⟩ := HOP.out
                    have HJ3 := Lib.hid hj3
                    have HG3 := Lib.hid hg3
                    have hsz := HT1.out.size
                    clear hj3 hg3 ho hb2 HOP
                    go_wp2
                    go_ret2
                    exact ⟨v2, F3, rfl, HJ3.out, HT2.out, fun k hk => (HG3.out k hk).elim (fun h => HG1.out k (hF2 k h)) (fun h => .inr (by omega))⟩
                  · rw [if_neg hs]
                    have d8 : ((d).startE == 0) = false := by rw [beq_eq_false_iff_ne]; exact hs
                    go_enter Tryz.func11, Tryz.ntmps11
                    go_wp2_with fail
                    refine (jdev (At := RefAt) (PAt := RefPg) refPg.touch refPg.lt 41 (fun _ => #[.pointer (some ⟨p, 0, none⟩), .slice PA picks.length pcap]) _ p (.pointer none) ⟨d, none⟩ F ((d).startD picks) _ (HJ.out _ (BOX.out _)) (fun F1 hF1 hA => refUse.start _ p d F1 K (by omega) HOK.out.d hA (.slice PA picks.length pcap) picks ((HV.out.touch (S := []) (BOX.out _) (by simp)).sub hF1)) #[.pointer (some ⟨p, 0, none⟩), .slice PA picks.length pcap] (fun _ => rfl)).mono ?_
                    rintro _ w1 ⟨rfl, hD⟩
                    have k0 : w1.cell? ⟨w.heap.size, 0, none⟩ = some (.int .i64 kind) := box5 (didJ_touch hD) JLT.out 0
                    have HD := Lib.hid hD
                    clear hD
                    go_wp2
                    go_ret2
                    exact DoneJ.of (BOX.out _) HD.out
                · have e8 : (kind == 8) = false := by rw [beq_eq_false_iff_ne]; exact k8
                  rw [if_neg k8]
                  by_cases k9 : kind = 9
                  · have e9 : (kind == 9) = true := by rw [beq_iff_eq]; exact k9
                    rw [if_pos k9]
                    have f1 : decide (kind < 1) = false := decide_eq_false (by omega)
                    have f9 : decide (9 < kind) = false := decide_eq_false (by omega)
                    clear k9
                    go_enter Tryz.func11, Tryz.ntmps11
                    go_wp2_with fail
                    refine (jdev (At := RefAt) (PAt := RefPg) refPg.touch refPg.lt 22 (fun _ => #[.pointer (some ⟨p, 0, none⟩), .int .i64 n, .string text]) _ p (.pointer none) ⟨d, none⟩ F ((d).writeD n text) _ (HJ.out _ (BOX.out _)) (fun F1 hF1 hA => refUse.write _ p d F1 K (by omega) HOK.out.d n text hA) #[.pointer (some ⟨p, 0, none⟩), .int .i64 n, .string text] (fun _ => rfl)).mono ?_
                    rintro _ w1 ⟨rfl, hD⟩
                    have k0 : w1.cell? ⟨w.heap.size, 0, none⟩ = some (.int .i64 kind) := box5 (didJ_touch hD) JLT.out 0
                    have HD := Lib.hid hD
                    clear hD
                    go_wp2
                    go_ret2
                    exact DoneJ.of (BOX.out _) HD.out
                  · have e9 : (kind == 9) = false := by rw [beq_eq_false_iff_ne]; exact k9
                    rw [if_neg k9]
                    by_cases f : kind < 1
                    · have f1 : decide (kind < 1) = true := decide_eq_true f
                      clear f k1 k2 k3 k4 k5 k6 k7 k8 k9
                      go_enter Tryz.func11, Tryz.ntmps11
                      go_wp2
                      go_ret2
                      exact ⟨.pointer none, F, rfl, HJ.out _ (BOX.out _), (BOX.out _).more (by simp), Grows.refl _ _⟩
                    · have f1 : decide (kind < 1) = false := decide_eq_false f
                      have f9 : decide (9 < kind) = true := decide_eq_true (by omega)
                      clear f k1 k2 k3 k4 k5 k6 k7 k8 k9
                      go_enter Tryz.func11, Tryz.ntmps11
                      go_wp2
                      go_ret2
                      exact ⟨.pointer none, F, rfl, HJ.out _ (BOX.out _), (BOX.out _).more (by simp), Grows.refl _ _⟩
set_option maxRecDepth 100000 in
set_option maxHeartbeats 6400000 in
theorem means_some (w : World) (p : Nat) (q : Nat) (d : RD) (s : PS) (F : List Nat) (K : Nat) (hK : K ≤ 800000) (ok : DS.Ok K ⟨d, some s⟩) (hrow : s.row.length ≤ K)
    (x : ActP) (hx : x.page.body.size ≤ 2000) (hxn : x.n ≤ 9223372036854775807) (pv : Value) (hv : NumsAt w F pv x.picks) (h : Joint RefAt RefPg w p (.pointer (some ⟨q, 0, none⟩)) ⟨d, some s⟩ F) : Calls Tryz.prog 11 #[.pointer (some ⟨p, 0, none⟩), .pointer (some ⟨q, 0, none⟩), .agg (x.cells pv)] w (DoneJ RefAt RefPg w p F (DS.act x ⟨d, some s⟩)) := by
  have box : ∀ o : Obj, Touch [] w (w.alloc o) := fun o => (Touch.refl _ w).alloc o
  have HJ : Hid (∀ w1, Touch [] w w1 → Joint RefAt RefPg w1 p (.pointer (some ⟨q, 0, none⟩)) ⟨d, some s⟩ F) := Lib.hid (fun w1 hT => Joint.touch refUse.touch refPg.touch h hT (by simp))
  have JLT := Lib.hid (Joint.lt refUse.lt refPg.lt h)
  have BOX := Lib.hid box
  have HOK := Lib.hid ok
  have HV := Lib.hid hv
  have HROW := Lib.hid hrow
  have HM : -1000 ≤ s.m.txn ∧ s.m.txn ≤ 2000000000000 := pMeta_in ok
  have SA := fun w => Lib.hid (seal_arg x pv s.m HM w)
  obtain ⟨q0, F1, G, hq0, hA, hP, hFG, rfl⟩ := h
  obtain rfl : q0 = q := by injection hq0 with h; injection h with h; injection h with h; exact h.symm
  have HAP : Hid (∀ w1, Touch [] w w1 → RefAt w1 p d F1 ∧ RefPg w1 q0 p s G) := Lib.hid (fun w1 hT => ⟨refUse.touch hA hT (by simp), refPg.touch hP hT (by simp)⟩)
  have HFG := Lib.hid hFG
  clear hA hP
  obtain ⟨kind, ⟨pk, pn, pt, pb⟩, ⟨mt, mr, mf, mp, ml⟩, next, n, text, picks⟩ := x
  simp only at hv hx hxn HV
  obtain ⟨PA, pcap, rfl, _⟩ := hv
  have HX := Lib.hid hx
  have HXN := Lib.hid hxn
  clear box hx hxn ok hrow
  unfold ActP.cells at SA ⊢
  unfold DS.act
  simp only at SA ⊢
  by_cases k1 : kind = 1
  · have e1 : (kind == 1) = true := by rw [beq_iff_eq]; exact k1
    rw [if_pos k1]
    have f1 : decide (kind < 1) = false := decide_eq_false (by omega)
    have f9 : decide (9 < kind) = false := decide_eq_false (by omega)
    have e2 : (kind == 2) = false := by rw [beq_eq_false_iff_ne]; omega
    have e3 : (kind == 3) = false := by rw [beq_eq_false_iff_ne]; omega
    have e4 : (kind == 4) = false := by rw [beq_eq_false_iff_ne]; omega
    have e5 : (kind == 5) = false := by rw [beq_eq_false_iff_ne]; omega
    have e6 : (kind == 6) = false := by rw [beq_eq_false_iff_ne]; omega
    have e7 : (kind == 7) = false := by rw [beq_eq_false_iff_ne]; omega
    have e8 : (kind == 8) = false := by rw [beq_eq_false_iff_ne]; omega
    have e9 : (kind == 9) = false := by rw [beq_eq_false_iff_ne]; omega
    clear k1
    go_enter Tryz.func11, Tryz.ntmps11
    go_wp2_with fail
    refine (refPg.write _ p q0 d s F1 G K (by omega) HOK.out.d (HOK.out.s s rfl) HROW.out ⟨pk, pn, pt, pb⟩ HX.out (HAP.out _ (BOX.out _)).1 (HAP.out _ (BOX.out _)).2 HFG.out).mono ?_
    rintro _ w1 ⟨rfl, hD⟩
    have k0 : w1.cell? ⟨w.heap.size, 0, none⟩ = some (.int .i64 kind) := box5 (did2_touch hD) JLT.out 0
    have HD := Lib.hid hD
    clear hD
    go_wp2
    go_ret2
    exact DoneJ.two (BOX.out _) HD.out
  · have e1 : (kind == 1) = false := by rw [beq_eq_false_iff_ne]; exact k1
    rw [if_neg k1]
    by_cases k2 : kind = 2
    · have e2 : (kind == 2) = true := by rw [beq_iff_eq]; exact k2
      rw [if_pos k2]
      have f1 : decide (kind < 1) = false := decide_eq_false (by omega)
      have f9 : decide (9 < kind) = false := decide_eq_false (by omega)
      have e3 : (kind == 3) = false := by rw [beq_eq_false_iff_ne]; omega
      have e4 : (kind == 4) = false := by rw [beq_eq_false_iff_ne]; omega
      have e5 : (kind == 5) = false := by rw [beq_eq_false_iff_ne]; omega
      have e6 : (kind == 6) = false := by rw [beq_eq_false_iff_ne]; omega
      have e7 : (kind == 7) = false := by rw [beq_eq_false_iff_ne]; omega
      have e8 : (kind == 8) = false := by rw [beq_eq_false_iff_ne]; omega
      have e9 : (kind == 9) = false := by rw [beq_eq_false_iff_ne]; omega
      clear k2
      go_enter Tryz.func11, Tryz.ntmps11
      go_wp2_with fail
      refine (jdev (At := RefAt) (PAt := RefPg) refPg.touch refPg.lt 23 (fun _ => #[.pointer (some ⟨p, 0, none⟩)]) _ p (.pointer (some ⟨q0, 0, none⟩)) ⟨d, some s⟩ (F1 ++ G) (d.syncD) _ (HJ.out _ (BOX.out _)) (fun F2 hF2 hA => refUse.sync _ p d F2 K (by omega) HOK.out.d hA) #[.pointer (some ⟨p, 0, none⟩)] (fun _ => rfl)).mono ?_
      rintro _ w1 ⟨rfl, hD⟩
      have k0 : w1.cell? ⟨w.heap.size, 0, none⟩ = some (.int .i64 kind) := box5 (didJ_touch hD) JLT.out 0
      have HD := Lib.hid hD
      clear hD
      go_wp2
      go_ret2
      exact DoneJ.of (BOX.out _) HD.out
    · have e2 : (kind == 2) = false := by rw [beq_eq_false_iff_ne]; exact k2
      rw [if_neg k2]
      by_cases k3 : kind = 3
      · have e3 : (kind == 3) = true := by rw [beq_iff_eq]; exact k3
        rw [if_pos k3]
        have f1 : decide (kind < 1) = false := decide_eq_false (by omega)
        have f9 : decide (9 < kind) = false := decide_eq_false (by omega)
        have e4 : (kind == 4) = false := by rw [beq_eq_false_iff_ne]; omega
        have e5 : (kind == 5) = false := by rw [beq_eq_false_iff_ne]; omega
        have e6 : (kind == 6) = false := by rw [beq_eq_false_iff_ne]; omega
        have e7 : (kind == 7) = false := by rw [beq_eq_false_iff_ne]; omega
        have e8 : (kind == 8) = false := by rw [beq_eq_false_iff_ne]; omega
        have e9 : (kind == 9) = false := by rw [beq_eq_false_iff_ne]; omega
        clear k3
        obtain ⟨S, hS⟩ : ∃ S : MV, ActP.seal_ ⟨kind, ⟨pk, pn, pt, pb⟩, ⟨mt, mr, mf, mp, ml⟩, next, n, text, picks⟩ s.m = S := ⟨_, rfl⟩
        have hPM : (⟨d, some s⟩ : DS).pMeta = s.m := rfl
        rw [hS] at SA
        rw [hPM, hS]
        clear hS hPM
        have PS3 : DS.pSeal ⟨d, some s⟩ S = (⟨s.sealD d S, some (s.sealS d S)⟩, s.sealE d S) := rfl
        rw [PS3]
        clear PS3
        have LC := fun w1 (hT : Touch [] w w1) => Lib.hid (refPg.seal_ w1 p q0 d s F1 G K (by omega) HOK.out.d (HOK.out.s s rfl) S (HAP.out _ hT).1 (HAP.out _ hT).2 HFG.out)
        have HC : Hid (∀ w1, Touch [] w w1 → w1.cell? ⟨q0, 1, none⟩ = some (.int .i64 s.m.txn) ∧ w1.cell? ⟨q0, 2, none⟩ = some (.int .i64 s.m.root) ∧ w1.cell? ⟨q0, 3, none⟩ = some (.int .i64 s.m.free) ∧ w1.cell? ⟨q0, 4, none⟩ = some (.int .i64 s.m.pages) ∧ w1.cell? ⟨q0, 5, none⟩ = some (.int .i64 s.m.limit)) := Lib.hid (fun w1 hT => refPg_meta (HAP.out _ hT).2)
        obtain ⟨⟨Mt, Mr, Mf, Mp, Ml⟩, hM⟩ : ∃ M, s.m = M := ⟨_, rfl⟩
        rw [hM] at SA HC
        unfold MV.val at SA LC
        simp only at SA LC HC
        have hSm : (s.sealS d S).m = s.m := seal_m s d S
        rw [hM] at hSm
        obtain ⟨D2, hD2⟩ : ∃ D, s.sealD d S = D := ⟨_, rfl⟩
        obtain ⟨S2, hS2⟩ : ∃ D, s.sealS d S = D := ⟨_, rfl⟩
        obtain ⟨E2, hE2⟩ : ∃ D, s.sealE d S = D := ⟨_, rfl⟩
        simp only [hD2, hS2, hE2] at LC
        rw [hD2, hS2, hE2]
        rw [hS2] at hSm
        have HSM := Lib.hid hSm
        clear hD2 hS2 hE2 hM HM hSm
        obtain ⟨St, Sr, Sf, Sp, Sl⟩ := S
        simp only at SA LC
        have hqlt : ∀ o : Obj, (⟨q0, 0, none⟩ : Addr).block < (w.alloc o).heap.size := fun o => by have := JLT.out q0 (List.mem_append_right _ (refPg_mem (HAP.out _ (Touch.refl _ _)).2)); show q0 < _; simp; omega
        have KK0 := Lib.hid (and14 (box14 (w := w) (F := []) (kind := kind) (pk := pk) (pn := pn) (pt := pt) (mt := mt) (mr := mr) (mf := mf) (mp := mp) (ml := ml) (n := n) (pb := pb) (text := text) (next := next) (picks := picks) (PA := PA) (pcap := pcap) (Touch.refl [] _).drew (by simp)) (HC.out _ (BOX.out (.cells #[.int .i64 kind, .int .i64 pk, .int .i64 pn, .int .i64 pt, .string pb, .int .i64 mt, .int .i64 mr, .int .i64 mf, .int .i64 mp, .int .i64 ml, .bool next, .int .i64 n, .string text, .slice PA picks.length pcap] 43)).drew))
        go_enter Tryz.func11, Tryz.ntmps11
        go_upto_region 10 with fail
        go_region_held3 (fun w' => w'.cell? ⟨w.heap.size, 0, none⟩ = some (.int .i64 kind) ∧ w'.cell? ⟨w.heap.size, 1, none⟩ = some (.int .i64 pk) ∧ w'.cell? ⟨w.heap.size, 2, none⟩ = some (.int .i64 pn) ∧ w'.cell? ⟨w.heap.size, 3, none⟩ = some (.int .i64 pt) ∧ w'.cell? ⟨w.heap.size, 4, none⟩ = some (.string pb) ∧ w'.cell? ⟨w.heap.size, 5, none⟩ = some (.int .i64 mt) ∧ w'.cell? ⟨w.heap.size, 6, none⟩ = some (.int .i64 mr) ∧ w'.cell? ⟨w.heap.size, 7, none⟩ = some (.int .i64 mf) ∧ w'.cell? ⟨w.heap.size, 8, none⟩ = some (.int .i64 mp) ∧ w'.cell? ⟨w.heap.size, 9, none⟩ = some (.int .i64 ml) ∧ w'.cell? ⟨w.heap.size, 10, none⟩ = some (.bool next) ∧ w'.cell? ⟨w.heap.size, 11, none⟩ = some (.int .i64 n) ∧ w'.cell? ⟨w.heap.size, 12, none⟩ = some (.string text) ∧ w'.cell? ⟨w.heap.size, 13, none⟩ = some (.slice PA picks.length pcap) ∧ w'.cell? ⟨q0, 1, none⟩ = some (.int .i64 Mt) ∧ w'.cell? ⟨q0, 2, none⟩ = some (.int .i64 Mr) ∧ w'.cell? ⟨q0, 3, none⟩ = some (.int .i64 Mf) ∧ w'.cell? ⟨q0, 4, none⟩ = some (.int .i64 Mp) ∧ w'.cell? ⟨q0, 5, none⟩ = some (.int .i64 Ml))
          (first | (go_keep; done) | exact KK0.out | exact KK2.out | exact KK3.out)
          (first
            | (go_at_call 30; refine (SA _).out.mono ?_; rintro e w2 ⟨rfl, hb2⟩; have T2 := Lib.hid ((BOX.out (.cells #[.int .i64 kind, .int .i64 pk, .int .i64 pn, .int .i64 pt, .string pb, .int .i64 mt, .int .i64 mr, .int .i64 mf, .int .i64 mp, .int .i64 ml, .bool next, .int .i64 n, .string text, .slice PA picks.length pcap] 43)).drew.trans (Touch.ofBelow hb2) (Grows.refl _ _)); have KK2 := Lib.hid (and14 (box14 ((Touch.refl [] _).drew.trans (Touch.ofBelow hb2) (Grows.refl _ _)) (by simp)) (HC.out _ T2.out)))
            | (go_at_call 37; refine (LC _ T2.out).out.mono ?_; rintro e w3 ⟨rfl, hD⟩; have KK3 := Lib.hid (mkk (cut14 KK2.out) (by have := hb2.size; simp at *; omega) hD JLT.out HSM.out)))
        have k0 : w3.cell? ⟨w.heap.size, 0, none⟩ = some (.int .i64 kind) := KK3.out.1
        have HD := Lib.hid hD
        clear hD
        go_wp2
        go_ret2
        exact DoneJ.two T2.out HD.out
      · have e3 : (kind == 3) = false := by rw [beq_eq_false_iff_ne]; exact k3
        rw [if_neg k3]
        by_cases k4 : kind = 4
        · have e4 : (kind == 4) = true := by rw [beq_iff_eq]; exact k4
          rw [if_pos k4]
          have f1 : decide (kind < 1) = false := decide_eq_false (by omega)
          have f9 : decide (9 < kind) = false := decide_eq_false (by omega)
          have e5 : (kind == 5) = false := by rw [beq_eq_false_iff_ne]; omega
          have e6 : (kind == 6) = false := by rw [beq_eq_false_iff_ne]; omega
          have e7 : (kind == 7) = false := by rw [beq_eq_false_iff_ne]; omega
          have e8 : (kind == 8) = false := by rw [beq_eq_false_iff_ne]; omega
          have e9 : (kind == 9) = false := by rw [beq_eq_false_iff_ne]; omega
          clear k4
          go_enter Tryz.func11, Tryz.ntmps11
          go_wp2_with fail
          refine (refPg.done _ p q0 d s F1 G K (by omega) HOK.out.d (HOK.out.s s rfl) (HAP.out _ (BOX.out _)).1 (HAP.out _ (BOX.out _)).2 HFG.out).mono ?_
          rintro _ w1 ⟨rfl, hD⟩
          have k0 : w1.cell? ⟨w.heap.size, 0, none⟩ = some (.int .i64 kind) := box5 (did2_touch hD) JLT.out 0
          have HD := Lib.hid hD
          clear hD
          go_wp2
          go_ret2
          exact DoneJ.two (BOX.out _) HD.out
        · have e4 : (kind == 4) = false := by rw [beq_eq_false_iff_ne]; exact k4
          rw [if_neg k4]
          by_cases k5 : kind = 5
          · have e5 : (kind == 5) = true := by rw [beq_iff_eq]; exact k5
            rw [if_pos k5]
            have f1 : decide (kind < 1) = false := decide_eq_false (by omega)
            have f9 : decide (9 < kind) = false := decide_eq_false (by omega)
            have e6 : (kind == 6) = false := by rw [beq_eq_false_iff_ne]; omega
            have e7 : (kind == 7) = false := by rw [beq_eq_false_iff_ne]; omega
            have e8 : (kind == 8) = false := by rw [beq_eq_false_iff_ne]; omega
            have e9 : (kind == 9) = false := by rw [beq_eq_false_iff_ne]; omega
            clear k5
            go_enter Tryz.func11, Tryz.ntmps11
            go_wp2_with fail
            refine (refPg.read _ p q0 d s F1 G K (by omega) HOK.out.d HOK.out.full (HOK.out.s s rfl) n (HAP.out _ (BOX.out _)).1 (HAP.out _ (BOX.out _)).2).mono ?_
            rintro _ w1 ⟨rfl, hb1⟩
            have k0 : w1.cell? ⟨w.heap.size, 0, none⟩ = some (.int .i64 kind) := box5 (Touch.ofBelow hb1) (by simp) 0
            have T1 := Lib.hid ((BOX.out (.cells #[.int .i64 kind, .int .i64 pk, .int .i64 pn, .int .i64 pt, .string pb, .int .i64 mt, .int .i64 mr, .int .i64 mf, .int .i64 mp, .int .i64 ml, .bool next, .int .i64 n, .string text, .slice PA picks.length pcap] 43)).trans (Touch.ofBelow hb1) (Grows.refl _ _))
            clear hb1
            go_wp2
            go_ret2
            exact ⟨_, F1 ++ G, rfl, HJ.out _ T1.out, T1.out.more (by simp), Grows.refl _ _⟩
          · have e5 : (kind == 5) = false := by rw [beq_eq_false_iff_ne]; exact k5
            rw [if_neg k5]
            by_cases k6 : kind = 6
            · have e6 : (kind == 6) = true := by rw [beq_iff_eq]; exact k6
              rw [if_pos k6]
              have f1 : decide (kind < 1) = false := decide_eq_false (by omega)
              have f9 : decide (9 < kind) = false := decide_eq_false (by omega)
              have e7 : (kind == 7) = false := by rw [beq_eq_false_iff_ne]; omega
              have e8 : (kind == 8) = false := by rw [beq_eq_false_iff_ne]; omega
              have e9 : (kind == 9) = false := by rw [beq_eq_false_iff_ne]; omega
              clear k6
              go_enter Tryz.func11, Tryz.ntmps11
              go_wp2_with fail
              refine (jdev (At := RefAt) (PAt := RefPg) refPg.touch refPg.lt 39 (fun _ => #[.pointer (some ⟨p, 0, none⟩), .int .i64 n]) _ p (.pointer (some ⟨q0, 0, none⟩)) ⟨d, some s⟩ (F1 ++ G) ((d).fuseD n) _ (HJ.out _ (BOX.out _)) (fun F2 hF2 hA => refUse.fuse _ p d F2 n hA) #[.pointer (some ⟨p, 0, none⟩), .int .i64 n] (fun _ => rfl)).mono ?_
              rintro _ w1 ⟨rfl, hD⟩
              have k0 : w1.cell? ⟨w.heap.size, 0, none⟩ = some (.int .i64 kind) := box5 (didJ_touch hD) JLT.out 0
              have HD := Lib.hid hD
              clear hD
              go_wp2
              go_ret2
              exact DoneJ.of (BOX.out _) HD.out
            · have e6 : (kind == 6) = false := by rw [beq_eq_false_iff_ne]; exact k6
              rw [if_neg k6]
              by_cases k7 : kind = 7
              · have e7 : (kind == 7) = true := by rw [beq_iff_eq]; exact k7
                rw [if_pos k7]
                have f1 : decide (kind < 1) = false := decide_eq_false (by omega)
                have f9 : decide (9 < kind) = false := decide_eq_false (by omega)
                have e8 : (kind == 8) = false := by rw [beq_eq_false_iff_ne]; omega
                have e9 : (kind == 9) = false := by rw [beq_eq_false_iff_ne]; omega
                clear k7
                go_enter Tryz.func11, Tryz.ntmps11
                go_wp2_with fail
                refine (jdev (At := RefAt) (PAt := RefPg) refPg.touch refPg.lt 40 (fun _ => #[.pointer (some ⟨p, 0, none⟩)]) _ p (.pointer (some ⟨q0, 0, none⟩)) ⟨d, some s⟩ (F1 ++ G) ((d).cutD) _ (HJ.out _ (BOX.out _)) (fun F2 hF2 hA => refUse.cut _ p d F2 hA) #[.pointer (some ⟨p, 0, none⟩)] (fun _ => rfl)).mono ?_
                rintro _ w1 ⟨rfl, hD⟩
                have k0 : w1.cell? ⟨w.heap.size, 0, none⟩ = some (.int .i64 kind) := box5 (didJ_touch hD) JLT.out 0
                have HD := Lib.hid hD
                clear hD
                go_wp2
                go_ret2
                exact DoneJ.of (BOX.out _) HD.out
              · have e7 : (kind == 7) = false := by rw [beq_eq_false_iff_ne]; exact k7
                rw [if_neg k7]
                by_cases k8 : kind = 8
                · have e8 : (kind == 8) = true := by rw [beq_iff_eq]; exact k8
                  rw [if_pos k8]
                  have f1 : decide (kind < 1) = false := decide_eq_false (by omega)
                  have f9 : decide (9 < kind) = false := decide_eq_false (by omega)
                  have e9 : (kind == 9) = false := by rw [beq_eq_false_iff_ne]; omega
                  clear k8
                  by_cases hs : (d).startE = 0
                  · rw [if_pos hs]
                    have d8 : ((d).startE == 0) = true := by rw [beq_iff_eq]; exact hs
                    go_enter Tryz.func11, Tryz.ntmps11
                    go_wp2_with fail
                    refine (jdev (At := RefAt) (PAt := RefPg) refPg.touch refPg.lt 41 (fun _ => #[.pointer (some ⟨p, 0, none⟩), .slice PA picks.length pcap]) _ p (.pointer (some ⟨q0, 0, none⟩)) ⟨d, some s⟩ (F1 ++ G) ((d).startD picks) _ (HJ.out _ (BOX.out _)) (fun F2 hF2 hA => refUse.start _ p d F2 K (by omega) HOK.out.d hA (.slice PA picks.length pcap) picks ((HV.out.touch (S := []) (BOX.out _) (by simp)).sub hF2)) #[.pointer (some ⟨p, 0, none⟩), .slice PA picks.length pcap] (fun _ => rfl)).mono ?_
                    rintro _ w1 ⟨rfl, F4, hJ1, hT1, hG1⟩
                    have OK1 : DS.Ok (K + 4) ⟨(d).startD picks, (⟨d, some s⟩ : DS).s⟩ := ⟨(RD.start_ok HOK.out.d picks).more (by omega), HOK.out.full.start picks, HOK.out.s⟩
                    obtain ⟨F5, hA2, hF5⟩ := joint_dev hJ1
                    have OC := refPg.open_ w1 p ((d).startD picks) F5 (K + 4) (by omega) OK1.d OK1.full hA2
                    have HT1 := Lib.hid ((BOX.out (.cells #[.int .i64 kind, .int .i64 pk, .int .i64 pn, .int .i64 pt, .string pb, .int .i64 mt, .int .i64 mr, .int .i64 mf, .int .i64 mp, .int .i64 ml, .bool next, .int .i64 n, .string text, .slice PA picks.length pcap] 43)).more (by simp) |>.trans hT1 (Grows.refl _ _))
                    have HG1 : Hid (Grows (F1 ++ G) F4 w.heap.size) := Lib.hid (fun k hk => (hG1 k hk).elim .inl (fun h => .inr (by simp at h; omega)))
                    have HA2 := Lib.hid hA2
                    have OC := Lib.hid OC
                    clear hJ1 hT1 hG1 hA2
                    go_wp2_with fail
                    refine OC.out.mono ?_
                    rintro e8x w2 ⟨hb2, ho⟩
                    have HOP := Lib.hid (opened_joint refUse.lt refUse.touch HA2.out hb2 ho)
                    have HT2 := Lib.hid (HT1.out.trans ((Touch.ofBelow hb2).more (by simp)) HG1.out)
                    obtain ⟨v2, F3, rfl, hj3, hg3⟩ := HOP.out
                    have HJ3 := Lib.hid hj3
                    have HG3 := Lib.hid hg3
                    have hsz := HT1.out.size
                    clear hj3 hg3 ho hb2 HOP
                    go_wp2
                    go_ret2
                    exact ⟨v2, F3, rfl, HJ3.out, HT2.out, fun k hk => (HG3.out k hk).elim (fun h => HG1.out k (hF5 k h)) (fun h => .inr (by omega))⟩
                  · rw [if_neg hs]
                    have d8 : ((d).startE == 0) = false := by rw [beq_eq_false_iff_ne]; exact hs
                    go_enter Tryz.func11, Tryz.ntmps11
                    go_wp2_with fail
                    refine (jdev (At := RefAt) (PAt := RefPg) refPg.touch refPg.lt 41 (fun _ => #[.pointer (some ⟨p, 0, none⟩), .slice PA picks.length pcap]) _ p (.pointer (some ⟨q0, 0, none⟩)) ⟨d, some s⟩ (F1 ++ G) ((d).startD picks) _ (HJ.out _ (BOX.out _)) (fun F2 hF2 hA => refUse.start _ p d F2 K (by omega) HOK.out.d hA (.slice PA picks.length pcap) picks ((HV.out.touch (S := []) (BOX.out _) (by simp)).sub hF2)) #[.pointer (some ⟨p, 0, none⟩), .slice PA picks.length pcap] (fun _ => rfl)).mono ?_
                    rintro _ w1 ⟨rfl, hD⟩
                    have k0 : w1.cell? ⟨w.heap.size, 0, none⟩ = some (.int .i64 kind) := box5 (didJ_touch hD) JLT.out 0
                    have HD := Lib.hid hD
                    clear hD
                    go_wp2
                    go_ret2
                    exact DoneJ.of (BOX.out _) HD.out
                · have e8 : (kind == 8) = false := by rw [beq_eq_false_iff_ne]; exact k8
                  rw [if_neg k8]
                  by_cases k9 : kind = 9
                  · have e9 : (kind == 9) = true := by rw [beq_iff_eq]; exact k9
                    rw [if_pos k9]
                    have f1 : decide (kind < 1) = false := decide_eq_false (by omega)
                    have f9 : decide (9 < kind) = false := decide_eq_false (by omega)
                    clear k9
                    go_enter Tryz.func11, Tryz.ntmps11
                    go_wp2_with fail
                    refine (jdev (At := RefAt) (PAt := RefPg) refPg.touch refPg.lt 22 (fun _ => #[.pointer (some ⟨p, 0, none⟩), .int .i64 n, .string text]) _ p (.pointer (some ⟨q0, 0, none⟩)) ⟨d, some s⟩ (F1 ++ G) ((d).writeD n text) _ (HJ.out _ (BOX.out _)) (fun F2 hF2 hA => refUse.write _ p d F2 K (by omega) HOK.out.d n text hA) #[.pointer (some ⟨p, 0, none⟩), .int .i64 n, .string text] (fun _ => rfl)).mono ?_
                    rintro _ w1 ⟨rfl, hD⟩
                    have k0 : w1.cell? ⟨w.heap.size, 0, none⟩ = some (.int .i64 kind) := box5 (didJ_touch hD) JLT.out 0
                    have HD := Lib.hid hD
                    clear hD
                    go_wp2
                    go_ret2
                    exact DoneJ.of (BOX.out _) HD.out
                  · have e9 : (kind == 9) = false := by rw [beq_eq_false_iff_ne]; exact k9
                    rw [if_neg k9]
                    clear k1 k2 k3 k4 k5 k6 k7 k8 k9
                    go_enter Tryz.func11, Tryz.ntmps11
                    go_wp2
                    go_ret2
                    exact ⟨_, F1 ++ G, rfl, HJ.out _ (BOX.out _), (BOX.out _).more (by simp), Grows.refl _ _⟩
end Go.Proofs.YtjgmlpfallakmaaGreat
