/-
  Contracts of the landed functions of chapter 6: Seek. Conditions: texts of at most 2000 bytes.
-/
import Derived.Test.YtegmffeokfahjaaNlF
import Derived.Test.YtegmffeokfahjaaNlG
namespace Go.Proofs.Ytegmffeokfahjaa
open Go.RowKit
set_option maxRecDepth 100000 in
set_option maxHeartbeats 6400000 in
theorem lseek_none (w : World) (leaf : Bool) (s key : ByteArray) (DC : Hid (∀ w, Calls Try.prog 17 #[.bool leaf, .string s] w fun e w' => ∃ V, e = .returned (.tuple #[V, .int .i64 4]) ∧ Below w.heap.size w w')) : Calls Try.prog 20 #[.bool leaf, .string s, .string key] w fun e w' => e = .returned (.tuple #[.int .i64 0, CV.none.v, .bool false]) ∧ Below w.heap.size w w' := by
  have hz := zeroC
  have hZ0 : Hid (Blk (w.alloc (.cells #[.string ⟨#[]⟩, .string ⟨#[]⟩, .int .i64 0, .int .i64 0, .int .i64 0] 35)) w.heap.size #[.string ⟨#[]⟩, .string ⟨#[]⟩, .int .i64 0, .int .i64 0, .int .i64 0] 35) := Lib.hid (Blk.new w _ _)
  have hB0 : Hid (Below w.heap.size w (w.alloc (.cells #[.string ⟨#[]⟩, .string ⟨#[]⟩, .int .i64 0, .int .i64 0, .int .i64 0] 35))) := Lib.hid ((Below.refl _ w).alloc (Nat.le_refl _) _)
  go_enter Try.func20, Try.ntmps20
  go_wp2_with fail
  refine (DC.out _).mono ?_
  rintro _ w2 ⟨V, rfl, hb2⟩
  have HZ2 : Hid (Blk w2 w.heap.size #[.string ⟨#[]⟩, .string ⟨#[]⟩, .int .i64 0, .int .i64 0, .int .i64 0] 35) := Lib.hid ((hb2.block _ hZ0.out.lt).trans hZ0.out)
  have HB2 : Hid (Below w.heap.size w w2) := Lib.hid (hB0.out.trans (hb2.mono hB0.out.size))
  have z0 : w2.cell? ⟨w.heap.size, 0, none⟩ = some (.string ⟨#[]⟩) := HZ2.out.cell 0
  have g0 := HZ2.out.free 0
  have z1 : w2.cell? ⟨w.heap.size, 1, none⟩ = some (.string ⟨#[]⟩) := HZ2.out.cell 1
  have g1 := HZ2.out.free 1
  have z2 : w2.cell? ⟨w.heap.size, 2, none⟩ = some (.int .i64 0) := HZ2.out.cell 2
  have g2 := HZ2.out.free 2
  have z3 : w2.cell? ⟨w.heap.size, 3, none⟩ = some (.int .i64 0) := HZ2.out.cell 3
  have g3 := HZ2.out.free 3
  have z4 : w2.cell? ⟨w.heap.size, 4, none⟩ = some (.int .i64 0) := HZ2.out.cell 4
  have g4 := HZ2.out.free 4
  have zlt := HZ2.out.lt
  clear hb2
  go_wp2
  obtain ⟨hS, hB⟩ := stored5c HZ2.out HB2.out (.string ⟨#[]⟩) (.string ⟨#[]⟩) (.int .i64 0) (.int .i64 0) (.int .i64 0)
  refine bodyPost_ret (results_mid rfl _ _ w.heap.size 35 _ (0, 0) _ rfl hS Try.underlying35 rfl (by kernel_rfl)) rfl ⟨rfl, hB⟩
set_option maxRecDepth 100000 in
set_option maxHeartbeats 6400000 in
theorem lseek_leaf (w : World) (s key : ByteArray) (l : List CV) (j : Nat) (hj : j < l.length) (q : Bool) (DC : Hid (∀ w, Calls Try.prog 17 #[.bool true, .string s] w fun e w' => ∃ V, e = .returned (.tuple #[V, .int .i64 0]) ∧ CellsAt w' V l ∧ Fresh w.heap.size V ∧ Below w.heap.size w w')) (BC : Hid (∀ w A cap, CellsAt w (.slice A l.length cap) l → Calls Try.prog 38 #[.slice A l.length cap, .string key, .func (.func 39) #[] #[]] w fun e w' => e = .returned (.tuple #[.int .i64 (j), .bool q]) ∧ Below w.heap.size w w')) : Calls Try.prog 20 #[.bool true, .string s, .string key] w fun e w' => e = .returned (.tuple #[.int .i64 j, l[j].v, .bool q]) ∧ Below w.heap.size w w' := by
  have hz := zeroC
  have hZ0 : Hid (Blk (w.alloc (.cells #[.string ⟨#[]⟩, .string ⟨#[]⟩, .int .i64 0, .int .i64 0, .int .i64 0] 35)) w.heap.size #[.string ⟨#[]⟩, .string ⟨#[]⟩, .int .i64 0, .int .i64 0, .int .i64 0] 35) := Lib.hid (Blk.new w _ _)
  have hB0 : Hid (Below w.heap.size w (w.alloc (.cells #[.string ⟨#[]⟩, .string ⟨#[]⟩, .int .i64 0, .int .i64 0, .int .i64 0] 35))) := Lib.hid ((Below.refl _ w).alloc (Nat.le_refl _) _)
  have i0 : (0 : Int) ≤ (j : Int) := by omega
  have i1 : (j : Int) < (l.length : Int) := by omega
  have e1 : ((j : Int) == (l.length : Int)) = false := by rw [beq_eq_false_iff_ne]; omega
  have e2 : (j == l.length) = false := by rw [beq_eq_false_iff_ne]; omega
  have e3 : decide (j = l.length) = false := decide_eq_false (by omega)
  go_enter Try.func20, Try.ntmps20
  go_wp2_with fail
  refine (DC.out _).mono ?_
  rintro _ w2 ⟨V, rfl, hcl, hfr, hb2⟩
  have HZ2 : Hid (Blk w2 w.heap.size #[.string ⟨#[]⟩, .string ⟨#[]⟩, .int .i64 0, .int .i64 0, .int .i64 0] 35) := Lib.hid ((hb2.block _ hZ0.out.lt).trans hZ0.out)
  have HB2 : Hid (Below w.heap.size w w2) := Lib.hid (hB0.out.trans (hb2.mono hB0.out.size))
  obtain ⟨A, cap, rfl, _, _⟩ := hcl.form
  have HCL := Lib.hid hcl
  have HFR : Hid (∀ p, A = some p → p.block ≠ w.heap.size) := Lib.hid (fun p hp => by have := hfr p _ _ (by rw [hp]); simp at this; omega)
  clear hb2 hcl hfr
  go_wp2_with fail
  refine (BC.out _ _ _ HCL.out).mono ?_
  rintro _ w3 ⟨rfl, hb3⟩
  have HZ3 : Hid (Blk w3 w.heap.size #[.string ⟨#[]⟩, .string ⟨#[]⟩, .int .i64 0, .int .i64 0, .int .i64 0] 35) := Lib.hid ((hb3.block _ HZ2.out.lt).trans HZ2.out)
  have HB3 : Hid (Below w.heap.size w w3) := Lib.hid (HB2.out.trans (hb3.mono HB2.out.size))
  obtain ⟨b, off, hA, hlt, c0, c1, c2, c3, c4⟩ := (HCL.out.below hb3).get j hj
  have hne : b ≠ w.heap.size := HFR.out _ hA
  have hne2 : w.heap.size ≠ b := fun e => hne e.symm
  obtain ⟨⟨ck, cv, co, cz, cc⟩, hx⟩ : ∃ x, l[j] = x := ⟨_, rfl⟩
  have HC : Hid (l[j].v = .agg #[.string ck, .string cv, .int .i64 co, .int .i64 cz, .int .i64 cc]) := Lib.hid (by rw [hx]; rfl)
  simp only [hx] at c0 c1 c2 c3 c4
  have z0 : w3.cell? ⟨w.heap.size, 0, none⟩ = some (.string ⟨#[]⟩) := HZ3.out.cell 0
  have g0 := HZ3.out.free 0
  have z1 : w3.cell? ⟨w.heap.size, 1, none⟩ = some (.string ⟨#[]⟩) := HZ3.out.cell 1
  have g1 := HZ3.out.free 1
  have z2 : w3.cell? ⟨w.heap.size, 2, none⟩ = some (.int .i64 0) := HZ3.out.cell 2
  have g2 := HZ3.out.free 2
  have z3 : w3.cell? ⟨w.heap.size, 3, none⟩ = some (.int .i64 0) := HZ3.out.cell 3
  have g3 := HZ3.out.free 3
  have z4 : w3.cell? ⟨w.heap.size, 4, none⟩ = some (.int .i64 0) := HZ3.out.cell 4
  have g4 := HZ3.out.free 4
  have zlt := HZ3.out.lt
  subst hA
  clear hx hb3
  go_wp2
  go_region
  all_goals
    go_wp2
    obtain ⟨hS, hB⟩ := stored5c HZ3.out.drew HB3.out.drew (.string ck) (.string cv) (.int .i64 co) (.int .i64 cz) (.int .i64 cc)
    refine bodyPost_ret (results_mid rfl _ _ w.heap.size 35 _ (0, 0) _ rfl hS Try.underlying35 rfl (by kernel_rfl)) rfl ⟨?_, hB⟩
    rw [HC.out]
    rfl
set_option maxRecDepth 100000 in
set_option maxHeartbeats 6400000 in
theorem lseek_same (w : World) (s key : ByteArray) (l : List CV) (j : Nat) (hj : j < l.length) (DC : Hid (∀ w, Calls Try.prog 17 #[.bool false, .string s] w fun e w' => ∃ V, e = .returned (.tuple #[V, .int .i64 0]) ∧ CellsAt w' V l ∧ Fresh w.heap.size V ∧ Below w.heap.size w w')) (BC : Hid (∀ w A cap, CellsAt w (.slice A l.length cap) l → Calls Try.prog 38 #[.slice A l.length cap, .string key, .func (.func 39) #[] #[]] w fun e w' => e = .returned (.tuple #[.int .i64 (j), .bool true]) ∧ Below w.heap.size w w')) : Calls Try.prog 20 #[.bool false, .string s, .string key] w fun e w' => e = .returned (.tuple #[.int .i64 j, l[j].v, .bool true]) ∧ Below w.heap.size w w' := by
  have hz := zeroC
  have hZ0 : Hid (Blk (w.alloc (.cells #[.string ⟨#[]⟩, .string ⟨#[]⟩, .int .i64 0, .int .i64 0, .int .i64 0] 35)) w.heap.size #[.string ⟨#[]⟩, .string ⟨#[]⟩, .int .i64 0, .int .i64 0, .int .i64 0] 35) := Lib.hid (Blk.new w _ _)
  have hB0 : Hid (Below w.heap.size w (w.alloc (.cells #[.string ⟨#[]⟩, .string ⟨#[]⟩, .int .i64 0, .int .i64 0, .int .i64 0] 35))) := Lib.hid ((Below.refl _ w).alloc (Nat.le_refl _) _)
  have i0 : (0 : Int) ≤ (j : Int) := by omega
  have i1 : (j : Int) < (l.length : Int) := by omega
  have e1 : ((j : Int) == (l.length : Int)) = false := by rw [beq_eq_false_iff_ne]; omega
  have e2 : (j == l.length) = false := by rw [beq_eq_false_iff_ne]; omega
  have e3 : decide (j = l.length) = false := decide_eq_false (by omega)
  go_enter Try.func20, Try.ntmps20
  go_wp2_with fail
  refine (DC.out _).mono ?_
  rintro _ w2 ⟨V, rfl, hcl, hfr, hb2⟩
  have HZ2 : Hid (Blk w2 w.heap.size #[.string ⟨#[]⟩, .string ⟨#[]⟩, .int .i64 0, .int .i64 0, .int .i64 0] 35) := Lib.hid ((hb2.block _ hZ0.out.lt).trans hZ0.out)
  have HB2 : Hid (Below w.heap.size w w2) := Lib.hid (hB0.out.trans (hb2.mono hB0.out.size))
  obtain ⟨A, cap, rfl, _, _⟩ := hcl.form
  have HCL := Lib.hid hcl
  have HFR : Hid (∀ p, A = some p → p.block ≠ w.heap.size) := Lib.hid (fun p hp => by have := hfr p _ _ (by rw [hp]); simp at this; omega)
  clear hb2 hcl hfr
  go_wp2_with fail
  refine (BC.out _ _ _ HCL.out).mono ?_
  rintro _ w3 ⟨rfl, hb3⟩
  have HZ3 : Hid (Blk w3 w.heap.size #[.string ⟨#[]⟩, .string ⟨#[]⟩, .int .i64 0, .int .i64 0, .int .i64 0] 35) := Lib.hid ((hb3.block _ HZ2.out.lt).trans HZ2.out)
  have HB3 : Hid (Below w.heap.size w w3) := Lib.hid (HB2.out.trans (hb3.mono HB2.out.size))
  obtain ⟨b, off, hA, hlt, c0, c1, c2, c3, c4⟩ := (HCL.out.below hb3).get j hj
  have hne : b ≠ w.heap.size := HFR.out _ hA
  have hne2 : w.heap.size ≠ b := fun e => hne e.symm
  obtain ⟨⟨ck, cv, co, cz, cc⟩, hx⟩ : ∃ x, l[j] = x := ⟨_, rfl⟩
  have HC : Hid (l[j].v = .agg #[.string ck, .string cv, .int .i64 co, .int .i64 cz, .int .i64 cc]) := Lib.hid (by rw [hx]; rfl)
  simp only [hx] at c0 c1 c2 c3 c4
  have z0 : w3.cell? ⟨w.heap.size, 0, none⟩ = some (.string ⟨#[]⟩) := HZ3.out.cell 0
  have g0 := HZ3.out.free 0
  have z1 : w3.cell? ⟨w.heap.size, 1, none⟩ = some (.string ⟨#[]⟩) := HZ3.out.cell 1
  have g1 := HZ3.out.free 1
  have z2 : w3.cell? ⟨w.heap.size, 2, none⟩ = some (.int .i64 0) := HZ3.out.cell 2
  have g2 := HZ3.out.free 2
  have z3 : w3.cell? ⟨w.heap.size, 3, none⟩ = some (.int .i64 0) := HZ3.out.cell 3
  have g3 := HZ3.out.free 3
  have z4 : w3.cell? ⟨w.heap.size, 4, none⟩ = some (.int .i64 0) := HZ3.out.cell 4
  have g4 := HZ3.out.free 4
  have zlt := HZ3.out.lt
  subst hA
  clear hx hb3
  go_wp2
  go_region
  all_goals
    go_wp2
    obtain ⟨hS, hB⟩ := stored5c HZ3.out.drew HB3.out.drew (.string ck) (.string cv) (.int .i64 co) (.int .i64 cz) (.int .i64 cc)
    refine bodyPost_ret (results_mid rfl _ _ w.heap.size 35 _ (0, 0) _ rfl hS Try.underlying35 rfl (by kernel_rfl)) rfl ⟨?_, hB⟩
    rw [HC.out]
    rfl
set_option maxRecDepth 100000 in
set_option maxHeartbeats 6400000 in
theorem lseek_down (w : World) (s key : ByteArray) (l : List CV) (j : Nat) (hj : j < l.length) (hl6 : l.length ≤ 600) (DC : Hid (∀ w, Calls Try.prog 17 #[.bool false, .string s] w fun e w' => ∃ V, e = .returned (.tuple #[V, .int .i64 0]) ∧ CellsAt w' V l ∧ Fresh w.heap.size V ∧ Below w.heap.size w w')) (BC : Hid (∀ w A cap, CellsAt w (.slice A l.length cap) l → Calls Try.prog 38 #[.slice A l.length cap, .string key, .func (.func 39) #[] #[]] w fun e w' => e = .returned (.tuple #[.int .i64 ((j + 1 : Nat)), .bool false]) ∧ Below w.heap.size w w')) : Calls Try.prog 20 #[.bool false, .string s, .string key] w fun e w' => e = .returned (.tuple #[.int .i64 j, l[j].v, .bool false]) ∧ Below w.heap.size w w' := by
  have hz := zeroC
  have hZ0 : Hid (Blk (w.alloc (.cells #[.string ⟨#[]⟩, .string ⟨#[]⟩, .int .i64 0, .int .i64 0, .int .i64 0] 35)) w.heap.size #[.string ⟨#[]⟩, .string ⟨#[]⟩, .int .i64 0, .int .i64 0, .int .i64 0] 35) := Lib.hid (Blk.new w _ _)
  have hB0 : Hid (Below w.heap.size w (w.alloc (.cells #[.string ⟨#[]⟩, .string ⟨#[]⟩, .int .i64 0, .int .i64 0, .int .i64 0] 35))) := Lib.hid ((Below.refl _ w).alloc (Nat.le_refl _) _)
  have m1 : IntKind.i64.wrap (((j + 1 : Nat) : Int) - 1) = j := by rw [IntWalk.i64_in _ (by omega)]; omega
  have m2 : IntKind.i64.wrap ((j : Int) + 1 - 1) = j := by rw [IntWalk.i64_in _ (by omega)]; omega
  have m3 : IntKind.i64.wrap (j : Int) = j := IntWalk.i64_in _ (by omega)
  have i0 : (0 : Int) ≤ (j : Int) := by omega
  have i1 : (j : Int) < (l.length : Int) := by omega
  have e1 : ((j : Int) == (l.length : Int)) = false := by rw [beq_eq_false_iff_ne]; omega
  have e2 : (j == l.length) = false := by rw [beq_eq_false_iff_ne]; omega
  have e3 : decide (j = l.length) = false := decide_eq_false (by omega)
  go_enter Try.func20, Try.ntmps20
  go_wp2_with fail
  refine (DC.out _).mono ?_
  rintro _ w2 ⟨V, rfl, hcl, hfr, hb2⟩
  have HZ2 : Hid (Blk w2 w.heap.size #[.string ⟨#[]⟩, .string ⟨#[]⟩, .int .i64 0, .int .i64 0, .int .i64 0] 35) := Lib.hid ((hb2.block _ hZ0.out.lt).trans hZ0.out)
  have HB2 : Hid (Below w.heap.size w w2) := Lib.hid (hB0.out.trans (hb2.mono hB0.out.size))
  obtain ⟨A, cap, rfl, _, _⟩ := hcl.form
  have HCL := Lib.hid hcl
  have HFR : Hid (∀ p, A = some p → p.block ≠ w.heap.size) := Lib.hid (fun p hp => by have := hfr p _ _ (by rw [hp]); simp at this; omega)
  clear hb2 hcl hfr
  go_wp2_with fail
  refine (BC.out _ _ _ HCL.out).mono ?_
  rintro _ w3 ⟨rfl, hb3⟩
  have HZ3 : Hid (Blk w3 w.heap.size #[.string ⟨#[]⟩, .string ⟨#[]⟩, .int .i64 0, .int .i64 0, .int .i64 0] 35) := Lib.hid ((hb3.block _ HZ2.out.lt).trans HZ2.out)
  have HB3 : Hid (Below w.heap.size w w3) := Lib.hid (HB2.out.trans (hb3.mono HB2.out.size))
  obtain ⟨b, off, hA, hlt, c0, c1, c2, c3, c4⟩ := (HCL.out.below hb3).get j hj
  have hne : b ≠ w.heap.size := HFR.out _ hA
  have hne2 : w.heap.size ≠ b := fun e => hne e.symm
  obtain ⟨⟨ck, cv, co, cz, cc⟩, hx⟩ : ∃ x, l[j] = x := ⟨_, rfl⟩
  have HC : Hid (l[j].v = .agg #[.string ck, .string cv, .int .i64 co, .int .i64 cz, .int .i64 cc]) := Lib.hid (by rw [hx]; rfl)
  simp only [hx] at c0 c1 c2 c3 c4
  have z0 : w3.cell? ⟨w.heap.size, 0, none⟩ = some (.string ⟨#[]⟩) := HZ3.out.cell 0
  have g0 := HZ3.out.free 0
  have z1 : w3.cell? ⟨w.heap.size, 1, none⟩ = some (.string ⟨#[]⟩) := HZ3.out.cell 1
  have g1 := HZ3.out.free 1
  have z2 : w3.cell? ⟨w.heap.size, 2, none⟩ = some (.int .i64 0) := HZ3.out.cell 2
  have g2 := HZ3.out.free 2
  have z3 : w3.cell? ⟨w.heap.size, 3, none⟩ = some (.int .i64 0) := HZ3.out.cell 3
  have g3 := HZ3.out.free 3
  have z4 : w3.cell? ⟨w.heap.size, 4, none⟩ = some (.int .i64 0) := HZ3.out.cell 4
  have g4 := HZ3.out.free 4
  have zlt := HZ3.out.lt
  subst hA
  clear hx hb3
  go_wp2
  go_region
  all_goals
    go_wp2
    obtain ⟨hS, hB⟩ := stored5c HZ3.out.drew HB3.out.drew (.string ck) (.string cv) (.int .i64 co) (.int .i64 cz) (.int .i64 cc)
    refine bodyPost_ret (results_mid rfl _ _ w.heap.size 35 _ (0, 0) _ rfl hS Try.underlying35 rfl (by kernel_rfl)) rfl ⟨?_, hB⟩
    rw [HC.out]
    rfl
set_option maxRecDepth 100000 in
set_option maxHeartbeats 6400000 in
theorem lseek_end (w : World) (s key : ByteArray) (l : List CV) (DC : Hid (∀ w, Calls Try.prog 17 #[.bool true, .string s] w fun e w' => ∃ V, e = .returned (.tuple #[V, .int .i64 0]) ∧ CellsAt w' V l ∧ Fresh w.heap.size V ∧ Below w.heap.size w w')) (BC : Hid (∀ w A cap, CellsAt w (.slice A l.length cap) l → Calls Try.prog 38 #[.slice A l.length cap, .string key, .func (.func 39) #[] #[]] w fun e w' => e = .returned (.tuple #[.int .i64 (l.length), .bool false]) ∧ Below w.heap.size w w')) : Calls Try.prog 20 #[.bool true, .string s, .string key] w fun e w' => e = .returned (.tuple #[.int .i64 l.length, CV.none.v, .bool false]) ∧ Below w.heap.size w w' := by
  have hz := zeroC
  have hZ0 : Hid (Blk (w.alloc (.cells #[.string ⟨#[]⟩, .string ⟨#[]⟩, .int .i64 0, .int .i64 0, .int .i64 0] 35)) w.heap.size #[.string ⟨#[]⟩, .string ⟨#[]⟩, .int .i64 0, .int .i64 0, .int .i64 0] 35) := Lib.hid (Blk.new w _ _)
  have hB0 : Hid (Below w.heap.size w (w.alloc (.cells #[.string ⟨#[]⟩, .string ⟨#[]⟩, .int .i64 0, .int .i64 0, .int .i64 0] 35))) := Lib.hid ((Below.refl _ w).alloc (Nat.le_refl _) _)
  have e1 : ((l.length : Int) == (l.length : Int)) = true := by simp
  go_enter Try.func20, Try.ntmps20
  go_wp2_with fail
  refine (DC.out _).mono ?_
  rintro _ w2 ⟨V, rfl, hcl, hfr, hb2⟩
  have HZ2 : Hid (Blk w2 w.heap.size #[.string ⟨#[]⟩, .string ⟨#[]⟩, .int .i64 0, .int .i64 0, .int .i64 0] 35) := Lib.hid ((hb2.block _ hZ0.out.lt).trans hZ0.out)
  have HB2 : Hid (Below w.heap.size w w2) := Lib.hid (hB0.out.trans (hb2.mono hB0.out.size))
  obtain ⟨A, cap, rfl, _, _⟩ := hcl.form
  have HCL := Lib.hid hcl
  have HFR : Hid (∀ p, A = some p → p.block ≠ w.heap.size) := Lib.hid (fun p hp => by have := hfr p _ _ (by rw [hp]); simp at this; omega)
  clear hb2 hcl hfr
  go_wp2_with fail
  refine (BC.out _ _ _ HCL.out).mono ?_
  rintro _ w3 ⟨rfl, hb3⟩
  have HZ3 : Hid (Blk w3 w.heap.size #[.string ⟨#[]⟩, .string ⟨#[]⟩, .int .i64 0, .int .i64 0, .int .i64 0] 35) := Lib.hid ((hb3.block _ HZ2.out.lt).trans HZ2.out)
  have HB3 : Hid (Below w.heap.size w w3) := Lib.hid (HB2.out.trans (hb3.mono HB2.out.size))
  have z0 : w3.cell? ⟨w.heap.size, 0, none⟩ = some (.string ⟨#[]⟩) := HZ3.out.cell 0
  have g0 := HZ3.out.free 0
  have z1 : w3.cell? ⟨w.heap.size, 1, none⟩ = some (.string ⟨#[]⟩) := HZ3.out.cell 1
  have g1 := HZ3.out.free 1
  have z2 : w3.cell? ⟨w.heap.size, 2, none⟩ = some (.int .i64 0) := HZ3.out.cell 2
  have g2 := HZ3.out.free 2
  have z3 : w3.cell? ⟨w.heap.size, 3, none⟩ = some (.int .i64 0) := HZ3.out.cell 3
  have g3 := HZ3.out.free 3
  have z4 : w3.cell? ⟨w.heap.size, 4, none⟩ = some (.int .i64 0) := HZ3.out.cell 4
  have g4 := HZ3.out.free 4
  have zlt := HZ3.out.lt
  clear hb3
  go_wp2
  obtain ⟨hS, hB⟩ := stored5c HZ3.out HB3.out (.string ⟨#[]⟩) (.string ⟨#[]⟩) (.int .i64 0) (.int .i64 0) (.int .i64 0)
  refine bodyPost_ret (results_mid rfl _ _ w.heap.size 35 _ (0, 0) _ rfl hS Try.underlying35 rfl (by kernel_rfl)) rfl ⟨rfl, hB⟩
theorem lseek_ok (w : World) (leaf : Bool) (s key : ByteArray) : Calls Try.prog 20 #[.bool leaf, .string s, .string key] w fun e w' => e = .returned (.tuple #[.int .i64 (Node.seekV leaf s key).1, (Node.seekV leaf s key).2.1.v, .bool (Node.seekV leaf s key).2.2]) ∧ Below w.heap.size w w' := by
  have DC := fun w => ldec_ok w leaf s
  cases hd : Node.dec leaf s with
  | none =>
    rw [hd] at DC
    have e : Node.seekV leaf s key = (0, CV.none, false) := by unfold Node.seekV; rw [hd]
    rw [e]
    exact lseek_none w leaf s key (Lib.hid (fun w => (DC w).mono fun _ _ ⟨V, he, _, _, hb⟩ => ⟨V, he, hb⟩))
  | some l =>
    rw [hd] at DC
    have e : Node.seekV leaf s key = (((Node.seekI leaf l key : Nat) : Int), Node.cellAt l (Node.seekI leaf l key), decide (Node.seekI leaf l key < l.length) && decide ((Node.cellAt l (Node.seekI leaf l key)).key = key)) := by unfold Node.seekV; rw [hd]
    rw [e]
    have DC2 : Hid (∀ w, Calls Try.prog 17 #[.bool leaf, .string s] w fun e w' => ∃ V, e = .returned (.tuple #[V, .int .i64 0]) ∧ CellsAt w' V l ∧ Fresh w.heap.size V ∧ Below w.heap.size w w') := Lib.hid DC
    have hfit := Node.dec_fits hd
    have hl6 := (Node.fits_bnd hfit).1
    have hright : Node.right leaf l = true := by unfold Node.fits at hfit; simp only [Bool.and_eq_true] at hfit; exact hfit.1
    have hrise : Node.rises l = true := by unfold Node.right at hright; simp only [Bool.and_eq_true] at hright; exact hright.1.2
    have BC : ∀ w A cap, CellsAt w (.slice A l.length cap) l → Calls Try.prog 38 #[.slice A l.length cap, .string key, .func (.func 39) #[] #[]] w fun e w' => e = .returned (.tuple #[.int .i64 (Node.seekAt key l : Nat), .bool (Node.there key l)]) ∧ Below w.heap.size w w' := fun w A cap hc => lbs_ok w A cap key l hc hl6 hrise
    have hle := Node.seekAt_le key l
    cases leaf
    · have hpos := Node.branch_pos hfit
      by_cases ht : Node.there key l = true
      · have ht2 := ht
        unfold Node.there at ht2
        simp only [Bool.and_eq_true, decide_eq_true_eq] at ht2
        obtain ⟨h1, h2⟩ := ht2
        rw [Node.cellAt_eq l _ h1] at h2
        have hI : Node.seekI false l key = Node.seekAt key l := by
          show Node.lastLe key l l.length = _
          exact Node.lastLe_is key l _ l.length h1 (Nat.le_refl _) (fun _ => by omega) (fun t h hlt => Node.behind key l hrise t h hlt)
        have hk : l[Node.seekAt key l].key = key := by
          have := Node.cmpK_zero l[Node.seekAt key l] key
          rw [decide_eq_true h2] at this
          exact of_decide_eq_true this.symm
        simp only [ht] at BC
        rw [hI, Node.cellAt_eq l _ h1, decide_eq_true h1, decide_eq_true hk]
        exact lseek_same w s key l _ h1 DC2 (Lib.hid BC)
      · have hf : Node.there key l = false := by simpa using ht
        have h0 : cmpL (l[0]'hpos).key.data.toList key.data.toList ≤ 0 := by
          have hfo : Node.firstOk false l = true := by unfold Node.right at hright; simp only [Bool.and_eq_true] at hright; exact hright.2
          rw [Node.firstOk_at l hpos] at hfo
          have : (l[0]'hpos).key.data.toList = [] := CV.size_zero.1 (of_decide_eq_true hfo)
          rw [this]
          cases key.data.toList <;> simp [cmpL]
        have hge : 0 < Node.seekAt key l := by
          rcases Nat.eq_zero_or_pos (Node.seekAt key l) with hz | hz
          · exfalso
            have h1 : Node.seekAt key l < l.length := by omega
            have h2 := Node.at_place key l h1
            apply ht
            unfold Node.there
            rw [Node.cellAt_eq l _ h1, decide_eq_true h1, Bool.true_and, decide_eq_true_eq]
            simp only [hz] at h2 ⊢
            unfold Node.cmpK at h2 ⊢
            omega
          · exact hz
        obtain ⟨j, hj⟩ : ∃ j, Node.seekAt key l = j + 1 := ⟨Node.seekAt key l - 1, by omega⟩
        have hjl : j < l.length := by omega
        have hlt := Node.before key l j hjl (by omega)
        have hI : Node.seekI false l key = j := by
          show Node.lastLe key l l.length = _
          refine Node.lastLe_is key l _ l.length hjl (Nat.le_refl _) (fun _ => by omega) (fun t h hlt2 => ?_)
          by_cases he : t = j + 1
          · subst he
            have h1 : Node.seekAt key l < l.length := by omega
            have h2 := Node.at_place key l h1
            have h3 : Node.cmpK l[Node.seekAt key l] key ≠ 0 := fun hx => ht (by
              unfold Node.there
              rw [Node.cellAt_eq l _ h1, decide_eq_true h1, Bool.true_and, decide_eq_true_eq]
              exact hx)
            simp only [hj] at h2 h3
            omega
          · exact Node.behind key l hrise t h (by omega)
        have hk : ¬ l[j].key = key := fun hx => by
          have := Node.cmpK_zero l[j] key
          rw [decide_eq_true hx] at this
          have := of_decide_eq_true this
          omega
        simp only [hf, hj] at BC
        rw [hI, Node.cellAt_eq l _ hjl, decide_eq_true hjl, decide_eq_false hk]
        exact lseek_down w s key l j hjl hl6 DC2 (Lib.hid BC)
    · have hI : Node.seekI true l key = Node.seekAt key l := rfl
      rw [hI]
      by_cases h1 : Node.seekAt key l < l.length
      · have hq : Node.there key l = (decide (Node.seekAt key l < l.length) && decide ((l[Node.seekAt key l]).key = key)) := by
          unfold Node.there
          rw [Node.cellAt_eq l _ h1, Node.cmpK_zero]
        simp only [hq] at BC
        rw [Node.cellAt_eq l _ h1]
        exact lseek_leaf w s key l _ h1 _ DC2 (Lib.hid BC)
      · have he : Node.seekAt key l = l.length := by omega
        have hq : Node.there key l = false := by
          unfold Node.there
          rw [decide_eq_false h1]
          rfl
        have hcn : Node.cellAt l l.length = CV.none := by unfold Node.cellAt; rw [List.getD_eq_getElem?_getD, List.getElem?_eq_none (Nat.le_refl _)]; rfl
        simp only [hq, he] at BC
        rw [he, hcn, decide_eq_false (Nat.lt_irrefl _)]
        exact lseek_end w s key l DC2 (Lib.hid BC)
end Go.Proofs.Ytegmffeokfahjaa
