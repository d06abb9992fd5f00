/-
  Of a device that is not there (P3.1 to P3.3): the statement's function returns true, whatever call it is handed; of any program's device that meets the kit. No conditions but those typed.
-/
import Derived.Test.YtbjiliodelndcaaDevAwake
namespace Go.Proofs.Ytbjiliodelndcaa
open Go.RowKit
attribute [local go_sem ↓] Go.wp_at_zero Go.wp_at_succ
set_option maxHeartbeats 1600000 in
theorem does_nil (At : World → Nat → RD → List Nat → Prop) (D : DevKit At) (w : World) (kind i n : Int) (c : UInt8) (text : ByteArray) (PA : Option Addr) (pl pcap : Nat) :
    Calls Try.prog 11 #[.pointer none, .agg #[.int .i64 kind, .int .i64 i, .int .i64 n, .int .u8 c.toNat, .string text, .slice PA pl pcap]] w fun e w' => e = .returned (.int .i64 2) ∧ Below w.heap.size w w' := by
  have BOX : ∀ o : Obj, Below w.heap.size w (w.alloc o) := fun o => (Below.refl _ _).alloc (Nat.le_refl _) o
  have HB := Lib.hid BOX
  clear BOX
  by_cases k1 : kind = 1
  · have e1 : (kind == 1) = true := by rw [beq_iff_eq]; exact k1
    clear k1
    go_enter Try.func11, Try.ntmps11
    go_wp2
    go_region_held3 (fun w' => w'.cell? ⟨w.heap.size, 0, none⟩ = some (.int .i64 kind) ∧ w'.cell? ⟨w.heap.size, 1, none⟩ = some (.int .i64 i) ∧ w'.cell? ⟨w.heap.size, 2, none⟩ = some (.int .i64 n) ∧ w'.cell? ⟨w.heap.size, 3, none⟩ = some (.int .u8 c.toNat) ∧ w'.cell? ⟨w.heap.size, 4, none⟩ = some (.string text) ∧ w'.cell? ⟨w.heap.size, 5, none⟩ = some (.slice PA pl pcap))
      (first | (go_keep; done) | exact KK.out)
      (first
        | (go_at_call 22; refine (text_ok _ _ _ _ _ _ _).mono ?_; rintro e w1 ⟨rfl, hb1⟩; have KK := Lib.hid (box_cells hb1))
        | (go_at_call 27; refine (D.nilWrite _ _ _).mono ?_; rintro e w2 ⟨rfl, rfl⟩))
    go_wp2
    go_ret
    exact ⟨rfl, ((HB.out _).drew).trans (hb1.mono (by simp))⟩
  · have e1 : (kind == 1) = false := by rw [beq_eq_false_iff_ne]; exact k1
    clear k1
    by_cases k2 : kind = 2
    · have e2 : (kind == 2) = true := by rw [beq_iff_eq]; exact k2
      clear k2
      go_enter Try.func11, Try.ntmps11
      go_wp2_with fail
      refine (D.nilSync _).mono ?_
      rintro _ _ ⟨rfl, rfl⟩
      go_wp2
      go_ret
      exact ⟨rfl, HB.out _⟩
    · have e2 : (kind == 2) = false := by rw [beq_eq_false_iff_ne]; exact k2
      clear k2
      by_cases k3 : kind = 3
      · have e3 : (kind == 3) = true := by rw [beq_iff_eq]; exact k3
        clear k3
        go_enter Try.func11, Try.ntmps11
        go_wp2_with fail
        refine (D.nilFuse _ n).mono ?_
        rintro _ _ ⟨rfl, rfl⟩
        go_wp2
        go_ret
        exact ⟨rfl, HB.out _⟩
      · have e3 : (kind == 3) = false := by rw [beq_eq_false_iff_ne]; exact k3
        clear k3
        by_cases k4 : kind = 4
        · have e4 : (kind == 4) = true := by rw [beq_iff_eq]; exact k4
          clear k4
          go_enter Try.func11, Try.ntmps11
          go_wp2_with fail
          refine (D.nilCut _).mono ?_
          rintro _ _ ⟨rfl, rfl⟩
          go_wp2
          go_ret
          exact ⟨rfl, HB.out _⟩
        · have e4 : (kind == 4) = false := by rw [beq_eq_false_iff_ne]; exact k4
          clear k4
          by_cases k5 : kind = 5
          · have e5 : (kind == 5) = true := by rw [beq_iff_eq]; exact k5
            clear k5
            go_enter Try.func11, Try.ntmps11
            go_wp2_with fail
            refine (D.nilStart _ _).mono ?_
            rintro _ _ ⟨rfl, rfl⟩
            go_wp2
            go_ret
            exact ⟨rfl, HB.out _⟩
          · have e5 : (kind == 5) = false := by rw [beq_eq_false_iff_ne]; exact k5
            clear k5
            go_enter Try.func11, Try.ntmps11
            go_wp2_with fail
            refine (D.nilRead _ i).mono ?_
            rintro _ _ ⟨rfl, rfl⟩
            go_wp2
            go_ret
            exact ⟨rfl, HB.out _⟩
set_option maxHeartbeats 1600000 in
theorem nil_any (At : World → Nat → RD → List Nat → Prop) (D : DevKit At) (w : World) (kind i n : Int) (c : UInt8) (text : ByteArray) (PA : Option Addr) (pl pcap : Nat) :
    Calls Try.prog 6 #[.agg #[.int .i64 kind, .int .i64 i, .int .i64 n, .int .u8 c.toNat, .string text, .slice PA pl pcap]] w fun e w' => e = .returned (.bool true) ∧ Below w.heap.size w w' := by
  have HB : Hid (∀ o : Obj, Below w.heap.size w (w.alloc o)) := Lib.hid fun o => (Below.refl _ _).alloc (Nat.le_refl _) o
  go_enter Try.func6, Try.ntmps6
  go_wp2_with fail
  refine (awake_any At D _).mono ?_
  rintro _ w1 ⟨rfl, hb1⟩
  have hB1 := (Blk.new w #[.int .i64 kind, .int .i64 i, .int .i64 n, .int .u8 c.toNat, .string text, .slice PA pl pcap] 35).touch (Touch.ofBelow hb1) (by simp)
  have c0 : w1.cell? ⟨w.heap.size, 0, none⟩ = some (.int .i64 kind) := hB1.cell 0
  have c1 : w1.cell? ⟨w.heap.size, 1, none⟩ = some (.int .i64 i) := hB1.cell 1
  have c2 : w1.cell? ⟨w.heap.size, 2, none⟩ = some (.int .i64 n) := hB1.cell 2
  have c3 : w1.cell? ⟨w.heap.size, 3, none⟩ = some (.int .u8 c.toNat) := hB1.cell 3
  have c4 : w1.cell? ⟨w.heap.size, 4, none⟩ = some (.string text) := hB1.cell 4
  have c5 : w1.cell? ⟨w.heap.size, 5, none⟩ = some (.slice PA pl pcap) := hB1.cell 5
  go_wp2_with fail
  refine (D.nilRead _ i).mono ?_
  rintro _ _ ⟨rfl, rfl⟩
  go_wp2_with fail
  refine (does_nil At D _ kind i n c text PA pl pcap).mono ?_
  rintro _ w2 ⟨rfl, hb2⟩
  have b1 : w2.cell? ⟨w.heap.size, 1, none⟩ = some (.int .i64 i) := (hB1.touch (Touch.ofBelow hb2) (by simp)).cell 1
  go_wp2_with fail
  refine (D.nilOn _).mono ?_
  rintro _ _ ⟨rfl, rfl⟩
  go_wp2_with fail
  refine (D.nilSize _).mono ?_
  rintro _ _ ⟨rfl, rfl⟩
  go_wp2_with fail
  refine (D.nilLasts _ i).mono ?_
  rintro _ _ ⟨rfl, rfl⟩
  go_wp2_with fail
  refine (D.nilWaits _ i).mono ?_
  rintro _ _ ⟨rfl, rfl⟩
  go_wp2_with fail
  refine (D.nilWrites _).mono ?_
  rintro _ _ ⟨rfl, rfl⟩
  go_wp2_with fail
  refine (D.nilSteps _).mono ?_
  rintro _ _ ⟨rfl, rfl⟩
  go_wp2
  go_ret
  refine ⟨rfl, ?_⟩
  have B1 := (HB.out (.cells #[.int .i64 kind, .int .i64 i, .int .i64 n, .int .u8 c.toNat, .string text, .slice PA pl pcap] 35)).trans (hb1.mono (by simp))
  exact B1.trans (hb2.mono B1.size)
end Go.Proofs.Ytbjiliodelndcaa
