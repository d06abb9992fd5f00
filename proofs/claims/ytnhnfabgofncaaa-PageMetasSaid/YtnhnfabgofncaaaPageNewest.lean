/-
  Contract of the reference's Newest (rollbookref04). No conditions.
-/
import Derived.Test.YtnhnfabgofncaaaPageUnpackM
namespace Go.Proofs.Ytnhnfabgofncaaa
open Go.RowKit
theorem stored5 {w w4 : World} {z0 z1 z2 z3 z4 : Value} {t : TypeId} (hZ : Blk w4 w.heap.size #[z0, z1, z2, z3, z4] t) (hB : Below w.heap.size w w4) (v0 v1 v2 v3 v4 : Value) :
    Blk (((((w4.setCell ⟨w.heap.size, 0, none⟩ v0).setCell ⟨w.heap.size, 1, none⟩ v1).setCell ⟨w.heap.size, 2, none⟩ v2).setCell ⟨w.heap.size, 3, none⟩ v3).setCell ⟨w.heap.size, 4, none⟩ v4) w.heap.size #[v0, v1, v2, v3, v4] t ∧ Below w.heap.size w (((((w4.setCell ⟨w.heap.size, 0, none⟩ v0).setCell ⟨w.heap.size, 1, none⟩ v1).setCell ⟨w.heap.size, 2, none⟩ v2).setCell ⟨w.heap.size, 3, none⟩ v3).setCell ⟨w.heap.size, 4, none⟩ v4) :=
  ⟨(((((hZ.set 0 v0).set 1 v1).set 2 v2).set 3 v3).set 4 v4), (((((hB.setCell (p := ⟨w.heap.size, 0, none⟩) (Nat.le_refl _) v0).setCell (p := ⟨w.heap.size, 1, none⟩) (Nat.le_refl _) v1).setCell (p := ⟨w.heap.size, 2, none⟩) (Nat.le_refl _) v2).setCell (p := ⟨w.heap.size, 3, none⟩) (Nat.le_refl _) v3).setCell (p := ⟨w.heap.size, 4, none⟩) (Nat.le_refl _) v4)⟩
set_option maxRecDepth 4000 in
set_option maxHeartbeats 800000 in
theorem rnewest_yy (w : World) (a b : ByteArray) (xt xr xf xp xl yt yr yf yp yl e f : Int)
    (XC : ∀ w, Hid (Calls Try.prog 19 #[.string a] w fun e' w' => e' = .returned (.tuple #[.agg #[.int .i64 xt, .int .i64 xr, .int .i64 xf, .int .i64 xp, .int .i64 xl], .int .i64 e]) ∧ Below w.heap.size w w'))
    (YC : ∀ w, Hid (Calls Try.prog 19 #[.string b] w fun e' w' => e' = .returned (.tuple #[.agg #[.int .i64 yt, .int .i64 yr, .int .i64 yf, .int .i64 yp, .int .i64 yl], .int .i64 f]) ∧ Below w.heap.size w w'))
    (d1 : (e == 0) = true) (d2 : (f == 0) = true) (d3 : decide (xt < yt) = true) :
    Calls Try.prog 24 #[.string a, .string b] w fun e' w' => e' = .returned (.tuple #[.agg #[.int .i64 yt, .int .i64 yr, .int .i64 yf, .int .i64 yp, .int .i64 yl], .int .i64 1, .int .i64 0]) ∧ Below w.heap.size w w' := by
  have hz : ∀ w, (zeroValue 33).run Try.prog w = .ok (.agg #[.int .i64 0, .int .i64 0, .int .i64 0, .int .i64 0, .int .i64 0]) w := fun w => by kernel_rfl
  go_enter Try.func24, Try.ntmps24
  go_wp2_with fail
  refine (XC _).out.mono ?_
  rintro _ w2 ⟨rfl, hb2⟩
  go_wp2_with fail
  refine (YC _).out.mono ?_
  rintro _ w3 ⟨rfl, hb3⟩
  have n2 := hb2.size
  have n3 := hb3.size
  rw [show (w.alloc (.cells #[.int .i64 0, .int .i64 0, .int .i64 0, .int .i64 0, .int .i64 0] 33)).heap.size = w.heap.size + 1 by simp] at n2
  rw [show (w2.alloc (.cells #[.int .i64 xt, .int .i64 xr, .int .i64 xf, .int .i64 xp, .int .i64 xl] 33)).heap.size = w2.heap.size + 1 by simp] at n3
  have hZ2 : Blk w2 w.heap.size #[.int .i64 0, .int .i64 0, .int .i64 0, .int .i64 0, .int .i64 0] 33 := (hb2.block _ (by simp)).trans (heap_alloc_new w _)
  have hZ : Blk w3 w.heap.size #[.int .i64 0, .int .i64 0, .int .i64 0, .int .i64 0, .int .i64 0] 33 := (hb3.block _ (by simp; omega)).trans (hZ2.alloc (.cells #[.int .i64 xt, .int .i64 xr, .int .i64 xf, .int .i64 xp, .int .i64 xl] 33))
  have hX : Blk w3 w2.heap.size #[.int .i64 xt, .int .i64 xr, .int .i64 xf, .int .i64 xp, .int .i64 xl] 33 := (hb3.block _ (by simp)).trans (heap_alloc_new w2 _)
  have B2 : Below w.heap.size w w2 := ((Below.refl _ w).alloc (Nat.le_refl _) (.cells #[.int .i64 0, .int .i64 0, .int .i64 0, .int .i64 0, .int .i64 0] 33)).trans (hb2.mono (by simp))
  have B3 : Below w.heap.size w w3 := (B2.alloc B2.size (.cells #[.int .i64 xt, .int .i64 xr, .int .i64 xf, .int .i64 xp, .int .i64 xl] 33)).trans (hb3.mono (by simp; omega))
  have u0 : w3.cell? ⟨w.heap.size, 0, none⟩ = some (.int .i64 0) := hZ.cell 0
  have v0 : w3.cell? ⟨w2.heap.size, 0, none⟩ = some (.int .i64 xt) := hX.cell 0
  have m0 := hZ.free 0
  have u1 : w3.cell? ⟨w.heap.size, 1, none⟩ = some (.int .i64 0) := hZ.cell 1
  have v1 : w3.cell? ⟨w2.heap.size, 1, none⟩ = some (.int .i64 xr) := hX.cell 1
  have m1 := hZ.free 1
  have u2 : w3.cell? ⟨w.heap.size, 2, none⟩ = some (.int .i64 0) := hZ.cell 2
  have v2 : w3.cell? ⟨w2.heap.size, 2, none⟩ = some (.int .i64 xf) := hX.cell 2
  have m2 := hZ.free 2
  have u3 : w3.cell? ⟨w.heap.size, 3, none⟩ = some (.int .i64 0) := hZ.cell 3
  have v3 : w3.cell? ⟨w2.heap.size, 3, none⟩ = some (.int .i64 xp) := hX.cell 3
  have m3 := hZ.free 3
  have u4 : w3.cell? ⟨w.heap.size, 4, none⟩ = some (.int .i64 0) := hZ.cell 4
  have v4 : w3.cell? ⟨w2.heap.size, 4, none⟩ = some (.int .i64 xl) := hX.cell 4
  have m4 := hZ.free 4
  have l2 : w2.heap.size < w3.heap.size := by omega
  have l1 : w.heap.size < w3.heap.size := by omega
  have HB := Lib.hid B3
  have HZ := Lib.hid hZ
  have l3 : w.heap.size < w3.heap.size + 1 := by omega
  clear n2 n3 hZ2 hZ hX B2 B3 hb2 hb3
  go_wp2
  obtain ⟨hS, hB⟩ := stored5 HZ.out HB.out (.int .i64 yt) (.int .i64 yr) (.int .i64 yf) (.int .i64 yp) (.int .i64 yl)
  refine bodyPost_ret (results_cell3 rfl _ _ w.heap.size 33 _ (0, 0) _ rfl (hS.alloc (.cells #[.int .i64 yt, .int .i64 yr, .int .i64 yf, .int .i64 yp, .int .i64 yl] 33)) Try.underlying33 rfl (by kernel_rfl)) rfl ⟨by rfl, hB.alloc hB.size (.cells #[.int .i64 yt, .int .i64 yr, .int .i64 yf, .int .i64 yp, .int .i64 yl] 33)⟩
set_option maxRecDepth 4000 in
set_option maxHeartbeats 800000 in
theorem rnewest_xy (w : World) (a b : ByteArray) (xt xr xf xp xl yt yr yf yp yl e f : Int)
    (XC : ∀ w, Hid (Calls Try.prog 19 #[.string a] w fun e' w' => e' = .returned (.tuple #[.agg #[.int .i64 xt, .int .i64 xr, .int .i64 xf, .int .i64 xp, .int .i64 xl], .int .i64 e]) ∧ Below w.heap.size w w'))
    (YC : ∀ w, Hid (Calls Try.prog 19 #[.string b] w fun e' w' => e' = .returned (.tuple #[.agg #[.int .i64 yt, .int .i64 yr, .int .i64 yf, .int .i64 yp, .int .i64 yl], .int .i64 f]) ∧ Below w.heap.size w w'))
    (d1 : (e == 0) = true) (d2 : (f == 0) = true) (d3 : decide (xt < yt) = false) :
    Calls Try.prog 24 #[.string a, .string b] w fun e' w' => e' = .returned (.tuple #[.agg #[.int .i64 xt, .int .i64 xr, .int .i64 xf, .int .i64 xp, .int .i64 xl], .int .i64 0, .int .i64 0]) ∧ Below w.heap.size w w' := by
  have hz : ∀ w, (zeroValue 33).run Try.prog w = .ok (.agg #[.int .i64 0, .int .i64 0, .int .i64 0, .int .i64 0, .int .i64 0]) w := fun w => by kernel_rfl
  go_enter Try.func24, Try.ntmps24
  go_wp2_with fail
  refine (XC _).out.mono ?_
  rintro _ w2 ⟨rfl, hb2⟩
  go_wp2_with fail
  refine (YC _).out.mono ?_
  rintro _ w3 ⟨rfl, hb3⟩
  have n2 := hb2.size
  have n3 := hb3.size
  rw [show (w.alloc (.cells #[.int .i64 0, .int .i64 0, .int .i64 0, .int .i64 0, .int .i64 0] 33)).heap.size = w.heap.size + 1 by simp] at n2
  rw [show (w2.alloc (.cells #[.int .i64 xt, .int .i64 xr, .int .i64 xf, .int .i64 xp, .int .i64 xl] 33)).heap.size = w2.heap.size + 1 by simp] at n3
  have hZ2 : Blk w2 w.heap.size #[.int .i64 0, .int .i64 0, .int .i64 0, .int .i64 0, .int .i64 0] 33 := (hb2.block _ (by simp)).trans (heap_alloc_new w _)
  have hZ : Blk w3 w.heap.size #[.int .i64 0, .int .i64 0, .int .i64 0, .int .i64 0, .int .i64 0] 33 := (hb3.block _ (by simp; omega)).trans (hZ2.alloc (.cells #[.int .i64 xt, .int .i64 xr, .int .i64 xf, .int .i64 xp, .int .i64 xl] 33))
  have hX : Blk w3 w2.heap.size #[.int .i64 xt, .int .i64 xr, .int .i64 xf, .int .i64 xp, .int .i64 xl] 33 := (hb3.block _ (by simp)).trans (heap_alloc_new w2 _)
  have B2 : Below w.heap.size w w2 := ((Below.refl _ w).alloc (Nat.le_refl _) (.cells #[.int .i64 0, .int .i64 0, .int .i64 0, .int .i64 0, .int .i64 0] 33)).trans (hb2.mono (by simp))
  have B3 : Below w.heap.size w w3 := (B2.alloc B2.size (.cells #[.int .i64 xt, .int .i64 xr, .int .i64 xf, .int .i64 xp, .int .i64 xl] 33)).trans (hb3.mono (by simp; omega))
  have u0 : w3.cell? ⟨w.heap.size, 0, none⟩ = some (.int .i64 0) := hZ.cell 0
  have v0 : w3.cell? ⟨w2.heap.size, 0, none⟩ = some (.int .i64 xt) := hX.cell 0
  have m0 := hZ.free 0
  have u1 : w3.cell? ⟨w.heap.size, 1, none⟩ = some (.int .i64 0) := hZ.cell 1
  have v1 : w3.cell? ⟨w2.heap.size, 1, none⟩ = some (.int .i64 xr) := hX.cell 1
  have m1 := hZ.free 1
  have u2 : w3.cell? ⟨w.heap.size, 2, none⟩ = some (.int .i64 0) := hZ.cell 2
  have v2 : w3.cell? ⟨w2.heap.size, 2, none⟩ = some (.int .i64 xf) := hX.cell 2
  have m2 := hZ.free 2
  have u3 : w3.cell? ⟨w.heap.size, 3, none⟩ = some (.int .i64 0) := hZ.cell 3
  have v3 : w3.cell? ⟨w2.heap.size, 3, none⟩ = some (.int .i64 xp) := hX.cell 3
  have m3 := hZ.free 3
  have u4 : w3.cell? ⟨w.heap.size, 4, none⟩ = some (.int .i64 0) := hZ.cell 4
  have v4 : w3.cell? ⟨w2.heap.size, 4, none⟩ = some (.int .i64 xl) := hX.cell 4
  have m4 := hZ.free 4
  have l2 : w2.heap.size < w3.heap.size := by omega
  have l1 : w.heap.size < w3.heap.size := by omega
  have HB := Lib.hid B3
  have HZ := Lib.hid hZ
  have l3 : w.heap.size < w3.heap.size + 1 := by omega
  clear n2 n3 hZ2 hZ hX B2 B3 hb2 hb3
  go_wp2
  obtain ⟨hS, hB⟩ := stored5 HZ.out HB.out (.int .i64 xt) (.int .i64 xr) (.int .i64 xf) (.int .i64 xp) (.int .i64 xl)
  refine bodyPost_ret (results_cell3 rfl _ _ w.heap.size 33 _ (0, 0) _ rfl (hS.alloc (.cells #[.int .i64 yt, .int .i64 yr, .int .i64 yf, .int .i64 yp, .int .i64 yl] 33)) Try.underlying33 rfl (by kernel_rfl)) rfl ⟨by rfl, hB.alloc hB.size (.cells #[.int .i64 yt, .int .i64 yr, .int .i64 yf, .int .i64 yp, .int .i64 yl] 33)⟩
set_option maxRecDepth 4000 in
set_option maxHeartbeats 800000 in
theorem rnewest_x (w : World) (a b : ByteArray) (xt xr xf xp xl yt yr yf yp yl e f : Int)
    (XC : ∀ w, Hid (Calls Try.prog 19 #[.string a] w fun e' w' => e' = .returned (.tuple #[.agg #[.int .i64 xt, .int .i64 xr, .int .i64 xf, .int .i64 xp, .int .i64 xl], .int .i64 e]) ∧ Below w.heap.size w w'))
    (YC : ∀ w, Hid (Calls Try.prog 19 #[.string b] w fun e' w' => e' = .returned (.tuple #[.agg #[.int .i64 yt, .int .i64 yr, .int .i64 yf, .int .i64 yp, .int .i64 yl], .int .i64 f]) ∧ Below w.heap.size w w'))
    (d1 : (e == 0) = true) (d2 : (f == 0) = false) :
    Calls Try.prog 24 #[.string a, .string b] w fun e' w' => e' = .returned (.tuple #[.agg #[.int .i64 xt, .int .i64 xr, .int .i64 xf, .int .i64 xp, .int .i64 xl], .int .i64 0, .int .i64 0]) ∧ Below w.heap.size w w' := by
  have hz : ∀ w, (zeroValue 33).run Try.prog w = .ok (.agg #[.int .i64 0, .int .i64 0, .int .i64 0, .int .i64 0, .int .i64 0]) w := fun w => by kernel_rfl
  go_enter Try.func24, Try.ntmps24
  go_wp2_with fail
  refine (XC _).out.mono ?_
  rintro _ w2 ⟨rfl, hb2⟩
  go_wp2_with fail
  refine (YC _).out.mono ?_
  rintro _ w3 ⟨rfl, hb3⟩
  have n2 := hb2.size
  have n3 := hb3.size
  rw [show (w.alloc (.cells #[.int .i64 0, .int .i64 0, .int .i64 0, .int .i64 0, .int .i64 0] 33)).heap.size = w.heap.size + 1 by simp] at n2
  rw [show (w2.alloc (.cells #[.int .i64 xt, .int .i64 xr, .int .i64 xf, .int .i64 xp, .int .i64 xl] 33)).heap.size = w2.heap.size + 1 by simp] at n3
  have hZ2 : Blk w2 w.heap.size #[.int .i64 0, .int .i64 0, .int .i64 0, .int .i64 0, .int .i64 0] 33 := (hb2.block _ (by simp)).trans (heap_alloc_new w _)
  have hZ : Blk w3 w.heap.size #[.int .i64 0, .int .i64 0, .int .i64 0, .int .i64 0, .int .i64 0] 33 := (hb3.block _ (by simp; omega)).trans (hZ2.alloc (.cells #[.int .i64 xt, .int .i64 xr, .int .i64 xf, .int .i64 xp, .int .i64 xl] 33))
  have hX : Blk w3 w2.heap.size #[.int .i64 xt, .int .i64 xr, .int .i64 xf, .int .i64 xp, .int .i64 xl] 33 := (hb3.block _ (by simp)).trans (heap_alloc_new w2 _)
  have B2 : Below w.heap.size w w2 := ((Below.refl _ w).alloc (Nat.le_refl _) (.cells #[.int .i64 0, .int .i64 0, .int .i64 0, .int .i64 0, .int .i64 0] 33)).trans (hb2.mono (by simp))
  have B3 : Below w.heap.size w w3 := (B2.alloc B2.size (.cells #[.int .i64 xt, .int .i64 xr, .int .i64 xf, .int .i64 xp, .int .i64 xl] 33)).trans (hb3.mono (by simp; omega))
  have u0 : w3.cell? ⟨w.heap.size, 0, none⟩ = some (.int .i64 0) := hZ.cell 0
  have v0 : w3.cell? ⟨w2.heap.size, 0, none⟩ = some (.int .i64 xt) := hX.cell 0
  have m0 := hZ.free 0
  have u1 : w3.cell? ⟨w.heap.size, 1, none⟩ = some (.int .i64 0) := hZ.cell 1
  have v1 : w3.cell? ⟨w2.heap.size, 1, none⟩ = some (.int .i64 xr) := hX.cell 1
  have m1 := hZ.free 1
  have u2 : w3.cell? ⟨w.heap.size, 2, none⟩ = some (.int .i64 0) := hZ.cell 2
  have v2 : w3.cell? ⟨w2.heap.size, 2, none⟩ = some (.int .i64 xf) := hX.cell 2
  have m2 := hZ.free 2
  have u3 : w3.cell? ⟨w.heap.size, 3, none⟩ = some (.int .i64 0) := hZ.cell 3
  have v3 : w3.cell? ⟨w2.heap.size, 3, none⟩ = some (.int .i64 xp) := hX.cell 3
  have m3 := hZ.free 3
  have u4 : w3.cell? ⟨w.heap.size, 4, none⟩ = some (.int .i64 0) := hZ.cell 4
  have v4 : w3.cell? ⟨w2.heap.size, 4, none⟩ = some (.int .i64 xl) := hX.cell 4
  have m4 := hZ.free 4
  have l2 : w2.heap.size < w3.heap.size := by omega
  have l1 : w.heap.size < w3.heap.size := by omega
  have HB := Lib.hid B3
  have HZ := Lib.hid hZ
  have l3 : w.heap.size < w3.heap.size + 1 := by omega
  clear n2 n3 hZ2 hZ hX B2 B3 hb2 hb3
  go_wp2
  obtain ⟨hS, hB⟩ := stored5 HZ.out HB.out (.int .i64 xt) (.int .i64 xr) (.int .i64 xf) (.int .i64 xp) (.int .i64 xl)
  refine bodyPost_ret (results_cell3 rfl _ _ w.heap.size 33 _ (0, 0) _ rfl (hS.alloc (.cells #[.int .i64 yt, .int .i64 yr, .int .i64 yf, .int .i64 yp, .int .i64 yl] 33)) Try.underlying33 rfl (by kernel_rfl)) rfl ⟨by rfl, hB.alloc hB.size (.cells #[.int .i64 yt, .int .i64 yr, .int .i64 yf, .int .i64 yp, .int .i64 yl] 33)⟩
set_option maxRecDepth 4000 in
set_option maxHeartbeats 800000 in
theorem rnewest_y (w : World) (a b : ByteArray) (xt xr xf xp xl yt yr yf yp yl e f : Int)
    (XC : ∀ w, Hid (Calls Try.prog 19 #[.string a] w fun e' w' => e' = .returned (.tuple #[.agg #[.int .i64 xt, .int .i64 xr, .int .i64 xf, .int .i64 xp, .int .i64 xl], .int .i64 e]) ∧ Below w.heap.size w w'))
    (YC : ∀ w, Hid (Calls Try.prog 19 #[.string b] w fun e' w' => e' = .returned (.tuple #[.agg #[.int .i64 yt, .int .i64 yr, .int .i64 yf, .int .i64 yp, .int .i64 yl], .int .i64 f]) ∧ Below w.heap.size w w'))
    (d1 : (e == 0) = false) (d2 : (f == 0) = true) :
    Calls Try.prog 24 #[.string a, .string b] w fun e' w' => e' = .returned (.tuple #[.agg #[.int .i64 yt, .int .i64 yr, .int .i64 yf, .int .i64 yp, .int .i64 yl], .int .i64 1, .int .i64 0]) ∧ Below w.heap.size w w' := by
  have hz : ∀ w, (zeroValue 33).run Try.prog w = .ok (.agg #[.int .i64 0, .int .i64 0, .int .i64 0, .int .i64 0, .int .i64 0]) w := fun w => by kernel_rfl
  go_enter Try.func24, Try.ntmps24
  go_wp2_with fail
  refine (XC _).out.mono ?_
  rintro _ w2 ⟨rfl, hb2⟩
  go_wp2_with fail
  refine (YC _).out.mono ?_
  rintro _ w3 ⟨rfl, hb3⟩
  have n2 := hb2.size
  have n3 := hb3.size
  rw [show (w.alloc (.cells #[.int .i64 0, .int .i64 0, .int .i64 0, .int .i64 0, .int .i64 0] 33)).heap.size = w.heap.size + 1 by simp] at n2
  rw [show (w2.alloc (.cells #[.int .i64 xt, .int .i64 xr, .int .i64 xf, .int .i64 xp, .int .i64 xl] 33)).heap.size = w2.heap.size + 1 by simp] at n3
  have hZ2 : Blk w2 w.heap.size #[.int .i64 0, .int .i64 0, .int .i64 0, .int .i64 0, .int .i64 0] 33 := (hb2.block _ (by simp)).trans (heap_alloc_new w _)
  have hZ : Blk w3 w.heap.size #[.int .i64 0, .int .i64 0, .int .i64 0, .int .i64 0, .int .i64 0] 33 := (hb3.block _ (by simp; omega)).trans (hZ2.alloc (.cells #[.int .i64 xt, .int .i64 xr, .int .i64 xf, .int .i64 xp, .int .i64 xl] 33))
  have hX : Blk w3 w2.heap.size #[.int .i64 xt, .int .i64 xr, .int .i64 xf, .int .i64 xp, .int .i64 xl] 33 := (hb3.block _ (by simp)).trans (heap_alloc_new w2 _)
  have B2 : Below w.heap.size w w2 := ((Below.refl _ w).alloc (Nat.le_refl _) (.cells #[.int .i64 0, .int .i64 0, .int .i64 0, .int .i64 0, .int .i64 0] 33)).trans (hb2.mono (by simp))
  have B3 : Below w.heap.size w w3 := (B2.alloc B2.size (.cells #[.int .i64 xt, .int .i64 xr, .int .i64 xf, .int .i64 xp, .int .i64 xl] 33)).trans (hb3.mono (by simp; omega))
  have u0 : w3.cell? ⟨w.heap.size, 0, none⟩ = some (.int .i64 0) := hZ.cell 0
  have v0 : w3.cell? ⟨w2.heap.size, 0, none⟩ = some (.int .i64 xt) := hX.cell 0
  have m0 := hZ.free 0
  have u1 : w3.cell? ⟨w.heap.size, 1, none⟩ = some (.int .i64 0) := hZ.cell 1
  have v1 : w3.cell? ⟨w2.heap.size, 1, none⟩ = some (.int .i64 xr) := hX.cell 1
  have m1 := hZ.free 1
  have u2 : w3.cell? ⟨w.heap.size, 2, none⟩ = some (.int .i64 0) := hZ.cell 2
  have v2 : w3.cell? ⟨w2.heap.size, 2, none⟩ = some (.int .i64 xf) := hX.cell 2
  have m2 := hZ.free 2
  have u3 : w3.cell? ⟨w.heap.size, 3, none⟩ = some (.int .i64 0) := hZ.cell 3
  have v3 : w3.cell? ⟨w2.heap.size, 3, none⟩ = some (.int .i64 xp) := hX.cell 3
  have m3 := hZ.free 3
  have u4 : w3.cell? ⟨w.heap.size, 4, none⟩ = some (.int .i64 0) := hZ.cell 4
  have v4 : w3.cell? ⟨w2.heap.size, 4, none⟩ = some (.int .i64 xl) := hX.cell 4
  have m4 := hZ.free 4
  have l2 : w2.heap.size < w3.heap.size := by omega
  have l1 : w.heap.size < w3.heap.size := by omega
  have HB := Lib.hid B3
  have HZ := Lib.hid hZ
  have l3 : w.heap.size < w3.heap.size + 1 := by omega
  clear n2 n3 hZ2 hZ hX B2 B3 hb2 hb3
  go_wp2
  obtain ⟨hS, hB⟩ := stored5 HZ.out HB.out (.int .i64 yt) (.int .i64 yr) (.int .i64 yf) (.int .i64 yp) (.int .i64 yl)
  refine bodyPost_ret (results_cell3 rfl _ _ w.heap.size 33 _ (0, 0) _ rfl (hS.alloc (.cells #[.int .i64 yt, .int .i64 yr, .int .i64 yf, .int .i64 yp, .int .i64 yl] 33)) Try.underlying33 rfl (by kernel_rfl)) rfl ⟨by rfl, hB.alloc hB.size (.cells #[.int .i64 yt, .int .i64 yr, .int .i64 yf, .int .i64 yp, .int .i64 yl] 33)⟩
set_option maxRecDepth 4000 in
set_option maxHeartbeats 800000 in
theorem rnewest_no (w : World) (a b : ByteArray) (xt xr xf xp xl yt yr yf yp yl e f : Int)
    (XC : ∀ w, Hid (Calls Try.prog 19 #[.string a] w fun e' w' => e' = .returned (.tuple #[.agg #[.int .i64 xt, .int .i64 xr, .int .i64 xf, .int .i64 xp, .int .i64 xl], .int .i64 e]) ∧ Below w.heap.size w w'))
    (YC : ∀ w, Hid (Calls Try.prog 19 #[.string b] w fun e' w' => e' = .returned (.tuple #[.agg #[.int .i64 yt, .int .i64 yr, .int .i64 yf, .int .i64 yp, .int .i64 yl], .int .i64 f]) ∧ Below w.heap.size w w'))
    (d1 : (e == 0) = false) (d2 : (f == 0) = false) :
    Calls Try.prog 24 #[.string a, .string b] w fun e' w' => e' = .returned (.tuple #[.agg #[.int .i64 0, .int .i64 0, .int .i64 0, .int .i64 0, .int .i64 0], .int .i64 0, .int .i64 4]) ∧ Below w.heap.size w w' := by
  have hz : ∀ w, (zeroValue 33).run Try.prog w = .ok (.agg #[.int .i64 0, .int .i64 0, .int .i64 0, .int .i64 0, .int .i64 0]) w := fun w => by kernel_rfl
  go_enter Try.func24, Try.ntmps24
  go_wp2_with fail
  refine (XC _).out.mono ?_
  rintro _ w2 ⟨rfl, hb2⟩
  go_wp2_with fail
  refine (YC _).out.mono ?_
  rintro _ w3 ⟨rfl, hb3⟩
  have n2 := hb2.size
  have n3 := hb3.size
  rw [show (w.alloc (.cells #[.int .i64 0, .int .i64 0, .int .i64 0, .int .i64 0, .int .i64 0] 33)).heap.size = w.heap.size + 1 by simp] at n2
  rw [show (w2.alloc (.cells #[.int .i64 xt, .int .i64 xr, .int .i64 xf, .int .i64 xp, .int .i64 xl] 33)).heap.size = w2.heap.size + 1 by simp] at n3
  have hZ2 : Blk w2 w.heap.size #[.int .i64 0, .int .i64 0, .int .i64 0, .int .i64 0, .int .i64 0] 33 := (hb2.block _ (by simp)).trans (heap_alloc_new w _)
  have hZ : Blk w3 w.heap.size #[.int .i64 0, .int .i64 0, .int .i64 0, .int .i64 0, .int .i64 0] 33 := (hb3.block _ (by simp; omega)).trans (hZ2.alloc (.cells #[.int .i64 xt, .int .i64 xr, .int .i64 xf, .int .i64 xp, .int .i64 xl] 33))
  have hX : Blk w3 w2.heap.size #[.int .i64 xt, .int .i64 xr, .int .i64 xf, .int .i64 xp, .int .i64 xl] 33 := (hb3.block _ (by simp)).trans (heap_alloc_new w2 _)
  have B2 : Below w.heap.size w w2 := ((Below.refl _ w).alloc (Nat.le_refl _) (.cells #[.int .i64 0, .int .i64 0, .int .i64 0, .int .i64 0, .int .i64 0] 33)).trans (hb2.mono (by simp))
  have B3 : Below w.heap.size w w3 := (B2.alloc B2.size (.cells #[.int .i64 xt, .int .i64 xr, .int .i64 xf, .int .i64 xp, .int .i64 xl] 33)).trans (hb3.mono (by simp; omega))
  have u0 : w3.cell? ⟨w.heap.size, 0, none⟩ = some (.int .i64 0) := hZ.cell 0
  have v0 : w3.cell? ⟨w2.heap.size, 0, none⟩ = some (.int .i64 xt) := hX.cell 0
  have m0 := hZ.free 0
  have u1 : w3.cell? ⟨w.heap.size, 1, none⟩ = some (.int .i64 0) := hZ.cell 1
  have v1 : w3.cell? ⟨w2.heap.size, 1, none⟩ = some (.int .i64 xr) := hX.cell 1
  have m1 := hZ.free 1
  have u2 : w3.cell? ⟨w.heap.size, 2, none⟩ = some (.int .i64 0) := hZ.cell 2
  have v2 : w3.cell? ⟨w2.heap.size, 2, none⟩ = some (.int .i64 xf) := hX.cell 2
  have m2 := hZ.free 2
  have u3 : w3.cell? ⟨w.heap.size, 3, none⟩ = some (.int .i64 0) := hZ.cell 3
  have v3 : w3.cell? ⟨w2.heap.size, 3, none⟩ = some (.int .i64 xp) := hX.cell 3
  have m3 := hZ.free 3
  have u4 : w3.cell? ⟨w.heap.size, 4, none⟩ = some (.int .i64 0) := hZ.cell 4
  have v4 : w3.cell? ⟨w2.heap.size, 4, none⟩ = some (.int .i64 xl) := hX.cell 4
  have m4 := hZ.free 4
  have l2 : w2.heap.size < w3.heap.size := by omega
  have l1 : w.heap.size < w3.heap.size := by omega
  have HB := Lib.hid B3
  have HZ := Lib.hid hZ
  have l3 : w.heap.size < w3.heap.size + 1 := by omega
  clear n2 n3 hZ2 hZ hX B2 B3 hb2 hb3
  go_wp2
  obtain ⟨hS, hB⟩ := stored5 HZ.out HB.out (.int .i64 0) (.int .i64 0) (.int .i64 0) (.int .i64 0) (.int .i64 0)
  refine bodyPost_ret (results_cell3 rfl _ _ w.heap.size 33 _ (0, 0) _ rfl (hS.alloc (.cells #[.int .i64 yt, .int .i64 yr, .int .i64 yf, .int .i64 yp, .int .i64 yl] 33)) Try.underlying33 rfl (by kernel_rfl)) rfl ⟨by rfl, hB.alloc hB.size (.cells #[.int .i64 yt, .int .i64 yr, .int .i64 yf, .int .i64 yp, .int .i64 yl] 33)⟩
theorem rnewest_ok (w : World) (a b : ByteArray) : Calls Try.prog 24 #[.string a, .string b] w fun e w' => e = .returned (.tuple #[(newestM a b).val, .int .i64 (newestI a b), .int .i64 (newestE a b)]) ∧ Below w.heap.size w w' := by
  have XC := fun w => Lib.hid (runpackM_ok w a)
  have YC := fun w => Lib.hid (runpackM_ok w b)
  cases ha : Page.readM a.data.toList with
  | none =>
    obtain ⟨x1, x2⟩ := runpackM_not a ha
    simp only [x1, x2] at XC
    cases hb : Page.readM b.data.toList with
    | none =>
      obtain ⟨y1, y2⟩ := runpackM_not b hb
      simp only [y1, y2] at YC
      have hn : Page.newest a.data.toList b.data.toList = none := by unfold Page.newest; rw [ha, hb]
      have e1 : newestM a b = MV.none ∧ newestI a b = 0 ∧ newestE a b = 4 := by unfold newestM newestI newestE; rw [hn]; exact ⟨rfl, rfl, rfl⟩
      rw [e1.1, e1.2.1, e1.2.2]
      exact rnewest_no w a b _ _ _ _ _ _ _ _ _ _ _ _ XC YC rfl rfl
    | some q =>
      have y1 : unpackM b = ofME q ∧ unpackME b = 0 := by unfold unpackM unpackME; rw [hb]; exact ⟨rfl, rfl⟩
      simp only [y1.1, y1.2] at YC
      have hn : Page.newest a.data.toList b.data.toList = some (q, 1) := by unfold Page.newest; rw [ha, hb]
      have e1 : newestM a b = ofME q ∧ newestI a b = 1 ∧ newestE a b = 0 := by unfold newestM newestI newestE; rw [hn]; exact ⟨rfl, rfl, rfl⟩
      rw [e1.1, e1.2.1, e1.2.2]
      exact rnewest_y w a b _ _ _ _ _ _ _ _ _ _ _ _ XC YC rfl rfl
  | some p =>
    have x1 : unpackM a = ofME p ∧ unpackME a = 0 := by unfold unpackM unpackME; rw [ha]; exact ⟨rfl, rfl⟩
    simp only [x1.1, x1.2] at XC
    cases hb : Page.readM b.data.toList with
    | none =>
      obtain ⟨y1, y2⟩ := runpackM_not b hb
      simp only [y1, y2] at YC
      have hn : Page.newest a.data.toList b.data.toList = some (p, 0) := by unfold Page.newest; rw [ha, hb]
      have e1 : newestM a b = ofME p ∧ newestI a b = 0 ∧ newestE a b = 0 := by unfold newestM newestI newestE; rw [hn]; exact ⟨rfl, rfl, rfl⟩
      rw [e1.1, e1.2.1, e1.2.2]
      exact rnewest_x w a b _ _ _ _ _ _ _ _ _ _ _ _ XC YC rfl rfl
    | some q =>
      have y1 : unpackM b = ofME q ∧ unpackME b = 0 := by unfold unpackM unpackME; rw [hb]; exact ⟨rfl, rfl⟩
      simp only [y1.1, y1.2] at YC
      by_cases hlt : p.txn < q.txn
      · have hn : Page.newest a.data.toList b.data.toList = some (q, 1) := by unfold Page.newest; rw [ha, hb]; simp only [if_pos hlt]
        have e1 : newestM a b = ofME q ∧ newestI a b = 1 ∧ newestE a b = 0 := by unfold newestM newestI newestE; rw [hn]; exact ⟨rfl, rfl, rfl⟩
        rw [e1.1, e1.2.1, e1.2.2]
        exact rnewest_yy w a b _ _ _ _ _ _ _ _ _ _ _ _ XC YC rfl rfl (decide_eq_true (by show (p.txn : Int) < q.txn; omega))
      · have hn : Page.newest a.data.toList b.data.toList = some (p, 0) := by unfold Page.newest; rw [ha, hb]; simp only [if_neg hlt]
        have e1 : newestM a b = ofME p ∧ newestI a b = 0 ∧ newestE a b = 0 := by unfold newestM newestI newestE; rw [hn]; exact ⟨rfl, rfl, rfl⟩
        rw [e1.1, e1.2.1, e1.2.2]
        exact rnewest_xy w a b _ _ _ _ _ _ _ _ _ _ _ _ XC YC rfl rfl (decide_eq_false (by show ¬ (p.txn : Int) < q.txn; omega))
/-- the reference's functions answer so -/
theorem refPage : PageKit 12 10 14 22 20 19 24 where
  right := rright_ok
  pack := fun w p _ => rpack_ok w p
  unpack := fun w s _ => runpack_ok w s
  rightM := rrightM_ok
  packM := rpackM_ok
  unpackM := fun w s _ => runpackM_ok w s
  newest := fun w a b _ _ => rnewest_ok w a b
end Go.Proofs.Ytnhnfabgofncaaa
