/-
  Contracts of the statements' helpers (rollbooklaw03.does, means), of any device that meets the kit: a call that is played, whichever it is. Conditions: at most 1000000 calls before.
-/
import Derived.Test.YtbjiliodelndcaaKit
import Derived.Test.YtbjiliodelndcaaDevOk
import Derived.Deep.RegionHeld3
import Derived.Deep.DrawnRows
namespace Go.Proofs.Ytbjiliodelndcaa
open Go.RowKit
attribute [local go_sem ↓] Go.wp_at_zero Go.wp_at_succ
/-- a call's value, as it is handed on -/
def actV (x : ActM) (v : Value) : Value := .agg #[.int .i64 x.kind, .int .i64 x.i, .int .i64 x.n, .int .u8 x.c.toNat, .string x.text, v]
theorem Did.after {At : World → Nat → RD → List Nat → Prop} {w w1 : World} {p : Nat} {F : List Nat} {d' : RD} {e0 : Ending} {e : Ending} {w' : World} (hT : Touch [] w w1) (h : Did At w1 p F d' e0 e w') : Did At w p F d' e0 e w' := by
  obtain ⟨he, F', hA, hT', hG⟩ := h
  exact ⟨he, F', hA, (hT.more (by simp)).trans hT' (Grows.refl _ _), fun k hk => (hG k hk).elim .inl (fun h => .inr (Nat.le_trans hT.size h))⟩
/-- the boxed call's cells, behind the text's call -/
theorem box_cells {w w1 : World} {a b c d e f : Value} (hb : Below (w.alloc (.cells #[a, b, c, d, e, f] 35)).heap.size (w.alloc (.cells #[a, b, c, d, e, f] 35)).drew w1) :
    w1.cell? ⟨w.heap.size, 0, none⟩ = some a ∧ w1.cell? ⟨w.heap.size, 1, none⟩ = some b ∧ w1.cell? ⟨w.heap.size, 2, none⟩ = some c ∧ w1.cell? ⟨w.heap.size, 3, none⟩ = some d ∧ w1.cell? ⟨w.heap.size, 4, none⟩ = some e ∧ w1.cell? ⟨w.heap.size, 5, none⟩ = some f := by
  have hB := (Blk.new w #[a, b, c, d, e, f] 35)
  have h := fun i => (hb.cell (p := ⟨w.heap.size, i, none⟩) (by simp)).trans (hB.cell i)
  exact ⟨h 0, h 1, h 2, h 3, h 4, h 5⟩
theorem box_cells2 {w w1 w2 : World} {F : List Nat} {a b c d e f : Value} (hb : Below (w.alloc (.cells #[a, b, c, d, e, f] 35)).heap.size (w.alloc (.cells #[a, b, c, d, e, f] 35)).drew w1) (hT : Touch F w1 w2) (hF : ∀ k ∈ F, k < w.heap.size) :
    w2.cell? ⟨w.heap.size, 0, none⟩ = some a ∧ w2.cell? ⟨w.heap.size, 1, none⟩ = some b ∧ w2.cell? ⟨w.heap.size, 2, none⟩ = some c ∧ w2.cell? ⟨w.heap.size, 3, none⟩ = some d ∧ w2.cell? ⟨w.heap.size, 4, none⟩ = some e ∧ w2.cell? ⟨w.heap.size, 5, none⟩ = some f := by
  have hB := (Blk.new w #[a, b, c, d, e, f] 35)
  have hs := hb.size
  have h := fun i => (hT.cell (p := ⟨w.heap.size, i, none⟩) (by simp at hs ⊢; omega) (fun hk => by have := hF _ hk; simp at this)).trans ((hb.cell (p := ⟨w.heap.size, i, none⟩) (by simp)).trans (hB.cell i))
  exact ⟨h 0, h 1, h 2, h 3, h 4, h 5⟩
set_option maxHeartbeats 1600000 in
theorem means_ok (At : World → Nat → RD → List Nat → Prop) (fw : FuncId) (K : CoreKit At 28 29 30 31 32 17 fw) (w : World) (p : Nat) (d : RD) (F : List Nat) (N : Nat) (hN : N ≤ 1000000) (ok : RD.Ok N d) (hA : At w p d F)
    (x : ActM) (v : Value) (hv : NumsAt w F v x.picks) : Calls Try.prog 12 #[.pointer (some ⟨p, 0, none⟩), actV x v] w (Did At w p F (actD textOf x d) (.returned (.int .i64 (actE textOf x d)))) := by
  obtain ⟨kind, i, n, c, text, picks⟩ := x
  simp only at hv
  have HV := Lib.hid hv
  obtain ⟨PA, pcap, rfl, _⟩ := hv
  have HA := Lib.hid hA
  have HLT := Lib.hid (K.lt hA)
  have box : ∀ o : Obj, Touch [] w (w.alloc o) := fun o => (Touch.refl _ w).alloc o
  have HAB : Hid (∀ o : Obj, At (w.alloc o) p d F) := Lib.hid (fun o => K.touch hA (box o) (by simp))
  have BOX := Lib.hid box
  clear box hA
  unfold actV actD actE
  simp only
  by_cases k1 : kind = 1
  · have e1 : (kind == 1) = true := by rw [beq_iff_eq]; exact k1
    rw [if_pos k1, if_pos k1]
    clear k1
    go_enter Try.func12, Try.ntmps12
    go_wp2
    go_region_held3 (fun w' => w'.cell? ⟨w.heap.size, 0, none⟩ = some (.int .i64 kind) ∧ w'.cell? ⟨w.heap.size, 1, none⟩ = some (.int .i64 i) ∧ w'.cell? ⟨w.heap.size, 2, none⟩ = some (.int .i64 n) ∧ w'.cell? ⟨w.heap.size, 3, none⟩ = some (.int .u8 c.toNat) ∧ w'.cell? ⟨w.heap.size, 4, none⟩ = some (.string text) ∧ w'.cell? ⟨w.heap.size, 5, none⟩ = some (.slice PA picks.length pcap))
      (first | (go_keep; done) | exact KK.out | exact KK2.out)
      (first
        | (go_at_call 22; refine (text_ok _ _ _ _ _ _ _).mono ?_; rintro e w1 ⟨rfl, hb1⟩; have KK := Lib.hid (box_cells hb1))
        | (go_at_call 28; refine (K.write _ _ _ _ N hN ok _ _ (K.touch HA.out ((BOX.out _).drew.trans (Touch.ofBelow hb1) (Grows.refl _ _)) (by simp))).mono ?_; rintro e w2 ⟨rfl, F2, hA2, hT2, hG2⟩; have KK2 := Lib.hid (box_cells2 hb1 hT2 HLT.out)))
    go_wp2
    go_ret
    exact Did.after ((BOX.out _).drew.trans (Touch.ofBelow hb1) (Grows.refl _ _)) ⟨rfl, F2, hA2, hT2, hG2⟩
  · have e1 : (kind == 1) = false := by rw [beq_eq_false_iff_ne]; exact k1
    rw [if_neg k1, if_neg k1]
    clear k1
    by_cases k2 : kind = 2
    · have e2 : (kind == 2) = true := by rw [beq_iff_eq]; exact k2
      rw [if_pos k2, if_pos k2]
      clear k2
      go_enter Try.func12, Try.ntmps12
      go_wp2_with fail
      refine (K.sync _ _ _ _ N hN ok (HAB.out _)).mono ?_
      rintro _ w1 ⟨rfl, hD⟩
      go_wp2
      go_ret
      exact Did.after (BOX.out _) ⟨rfl, hD⟩
    · have e2 : (kind == 2) = false := by rw [beq_eq_false_iff_ne]; exact k2
      rw [if_neg k2, if_neg k2]
      clear k2
      by_cases k3 : kind = 3
      · have e3 : (kind == 3) = true := by rw [beq_iff_eq]; exact k3
        rw [if_pos k3, if_pos k3]
        clear k3
        go_enter Try.func12, Try.ntmps12
        go_wp2_with fail
        refine (K.fuse _ _ _ _ n (HAB.out _)).mono ?_
        rintro _ w1 ⟨rfl, hD⟩
        go_wp2
        go_ret
        exact Did.after (BOX.out _) ⟨rfl, hD⟩
      · have e3 : (kind == 3) = false := by rw [beq_eq_false_iff_ne]; exact k3
        rw [if_neg k3, if_neg k3]
        clear k3
        by_cases k4 : kind = 4
        · have e4 : (kind == 4) = true := by rw [beq_iff_eq]; exact k4
          rw [if_pos k4, if_pos k4]
          clear k4
          go_enter Try.func12, Try.ntmps12
          go_wp2_with fail
          refine (K.cut _ _ _ _ (HAB.out _)).mono ?_
          rintro _ w1 ⟨rfl, hD⟩
          go_wp2
          go_ret
          exact Did.after (BOX.out _) ⟨rfl, hD⟩
        · have e4 : (kind == 4) = false := by rw [beq_eq_false_iff_ne]; exact k4
          rw [if_neg k4, if_neg k4]
          clear k4
          by_cases k5 : kind = 5
          · have e5 : (kind == 5) = true := by rw [beq_iff_eq]; exact k5
            rw [if_pos k5, if_pos k5]
            clear k5
            go_enter Try.func12, Try.ntmps12
            go_wp2_with fail
            refine (K.start _ _ _ _ N hN ok (HAB.out _) _ picks (HV.out.touch (BOX.out _) (by simp))).mono ?_
            rintro _ w1 ⟨rfl, hD⟩
            go_wp2
            go_ret
            exact Did.after (BOX.out _) ⟨rfl, hD⟩
          · have e5 : (kind == 5) = false := by rw [beq_eq_false_iff_ne]; exact k5
            rw [if_neg k5, if_neg k5]
            clear k5
            go_enter Try.func12, Try.ntmps12
            go_wp2_with fail
            refine (K.read _ _ _ _ N hN ok i (HAB.out _)).mono ?_
            rintro _ w1 ⟨rfl, hb1⟩
            go_wp2
            go_ret
            exact Did.after (BOX.out _) ⟨rfl, F, K.touch (HAB.out _) (Touch.ofBelow hb1) (by simp), (Touch.ofBelow hb1).more (by simp), Grows.refl _ _⟩
set_option maxHeartbeats 1600000 in
theorem does_ok (At : World → Nat → RD → List Nat → Prop) (fw : FuncId) (K : CoreKit At 27 26 25 23 24 16 fw) (w : World) (p : Nat) (d : RD) (F : List Nat) (N : Nat) (hN : N ≤ 1000000) (ok : RD.Ok N d) (hA : At w p d F)
    (x : ActM) (v : Value) (hv : NumsAt w F v x.picks) : Calls Try.prog 11 #[.pointer (some ⟨p, 0, none⟩), actV x v] w (Did At w p F (actD textOf x d) (.returned (.int .i64 (actE textOf x d)))) := by
  obtain ⟨kind, i, n, c, text, picks⟩ := x
  simp only at hv
  have HV := Lib.hid hv
  obtain ⟨PA, pcap, rfl, _⟩ := hv
  have HA := Lib.hid hA
  have HLT := Lib.hid (K.lt hA)
  have box : ∀ o : Obj, Touch [] w (w.alloc o) := fun o => (Touch.refl _ w).alloc o
  have HAB : Hid (∀ o : Obj, At (w.alloc o) p d F) := Lib.hid (fun o => K.touch hA (box o) (by simp))
  have BOX := Lib.hid box
  clear box hA
  unfold actV actD actE
  simp only
  by_cases k1 : kind = 1
  · have e1 : (kind == 1) = true := by rw [beq_iff_eq]; exact k1
    rw [if_pos k1, if_pos k1]
    clear k1
    go_enter Try.func11, Try.ntmps11
    go_wp2
    go_region_held3 (fun w' => w'.cell? ⟨w.heap.size, 0, none⟩ = some (.int .i64 kind) ∧ w'.cell? ⟨w.heap.size, 1, none⟩ = some (.int .i64 i) ∧ w'.cell? ⟨w.heap.size, 2, none⟩ = some (.int .i64 n) ∧ w'.cell? ⟨w.heap.size, 3, none⟩ = some (.int .u8 c.toNat) ∧ w'.cell? ⟨w.heap.size, 4, none⟩ = some (.string text) ∧ w'.cell? ⟨w.heap.size, 5, none⟩ = some (.slice PA picks.length pcap))
      (first | (go_keep; done) | exact KK.out | exact KK2.out)
      (first
        | (go_at_call 22; refine (text_ok _ _ _ _ _ _ _).mono ?_; rintro e w1 ⟨rfl, hb1⟩; have KK := Lib.hid (box_cells hb1))
        | (go_at_call 27; refine (K.write _ _ _ _ N hN ok _ _ (K.touch HA.out ((BOX.out _).drew.trans (Touch.ofBelow hb1) (Grows.refl _ _)) (by simp))).mono ?_; rintro e w2 ⟨rfl, F2, hA2, hT2, hG2⟩; have KK2 := Lib.hid (box_cells2 hb1 hT2 HLT.out)))
    go_wp2
    go_ret
    exact Did.after ((BOX.out _).drew.trans (Touch.ofBelow hb1) (Grows.refl _ _)) ⟨rfl, F2, hA2, hT2, hG2⟩
  · have e1 : (kind == 1) = false := by rw [beq_eq_false_iff_ne]; exact k1
    rw [if_neg k1, if_neg k1]
    clear k1
    by_cases k2 : kind = 2
    · have e2 : (kind == 2) = true := by rw [beq_iff_eq]; exact k2
      rw [if_pos k2, if_pos k2]
      clear k2
      go_enter Try.func11, Try.ntmps11
      go_wp2_with fail
      refine (K.sync _ _ _ _ N hN ok (HAB.out _)).mono ?_
      rintro _ w1 ⟨rfl, hD⟩
      go_wp2
      go_ret
      exact Did.after (BOX.out _) ⟨rfl, hD⟩
    · have e2 : (kind == 2) = false := by rw [beq_eq_false_iff_ne]; exact k2
      rw [if_neg k2, if_neg k2]
      clear k2
      by_cases k3 : kind = 3
      · have e3 : (kind == 3) = true := by rw [beq_iff_eq]; exact k3
        rw [if_pos k3, if_pos k3]
        clear k3
        go_enter Try.func11, Try.ntmps11
        go_wp2_with fail
        refine (K.fuse _ _ _ _ n (HAB.out _)).mono ?_
        rintro _ w1 ⟨rfl, hD⟩
        go_wp2
        go_ret
        exact Did.after (BOX.out _) ⟨rfl, hD⟩
      · have e3 : (kind == 3) = false := by rw [beq_eq_false_iff_ne]; exact k3
        rw [if_neg k3, if_neg k3]
        clear k3
        by_cases k4 : kind = 4
        · have e4 : (kind == 4) = true := by rw [beq_iff_eq]; exact k4
          rw [if_pos k4, if_pos k4]
          clear k4
          go_enter Try.func11, Try.ntmps11
          go_wp2_with fail
          refine (K.cut _ _ _ _ (HAB.out _)).mono ?_
          rintro _ w1 ⟨rfl, hD⟩
          go_wp2
          go_ret
          exact Did.after (BOX.out _) ⟨rfl, hD⟩
        · have e4 : (kind == 4) = false := by rw [beq_eq_false_iff_ne]; exact k4
          rw [if_neg k4, if_neg k4]
          clear k4
          by_cases k5 : kind = 5
          · have e5 : (kind == 5) = true := by rw [beq_iff_eq]; exact k5
            rw [if_pos k5, if_pos k5]
            clear k5
            go_enter Try.func11, Try.ntmps11
            go_wp2_with fail
            refine (K.start _ _ _ _ N hN ok (HAB.out _) _ picks (HV.out.touch (BOX.out _) (by simp))).mono ?_
            rintro _ w1 ⟨rfl, hD⟩
            go_wp2
            go_ret
            exact Did.after (BOX.out _) ⟨rfl, hD⟩
          · have e5 : (kind == 5) = false := by rw [beq_eq_false_iff_ne]; exact k5
            rw [if_neg k5, if_neg k5]
            clear k5
            go_enter Try.func11, Try.ntmps11
            go_wp2_with fail
            refine (K.read _ _ _ _ N hN ok i (HAB.out _)).mono ?_
            rintro _ w1 ⟨rfl, hb1⟩
            go_wp2
            go_ret
            exact Did.after (BOX.out _) ⟨rfl, F, K.touch (HAB.out _) (Touch.ofBelow hb1) (by simp), (Touch.ofBelow hb1).more (by simp), Grows.refl _ _⟩
end Go.Proofs.Ytbjiliodelndcaa
