/-
  P4.2 (of two texts the newest meta), of any functions that answer as the list says: the statement's function returns true at every two texts. No conditions but those typed.
-/
import Derived.Test.YtnhnfabgofncaaaPageMetasW
namespace Go.Proofs.Ytnhnfabgofncaaa
open Go.RowKit
set_option maxRecDepth 8000 in
set_option maxHeartbeats 1600000 in
theorem newest_xy (K : PageKit 11 9 13 21 17 18 23) (w : World) (a b : ByteArray) (mt mr mf mp ml xt xr xf xp xl yt yr yf yp yl i e g h : Int)
    (NC : ∀ w, Hid (Calls Try.prog 23 #[.string a, .string b] w fun e' w' => e' = .returned (.tuple #[.agg #[.int .i64 mt, .int .i64 mr, .int .i64 mf, .int .i64 mp, .int .i64 ml], .int .i64 i, .int .i64 e]) ∧ Below w.heap.size w w'))
    (RC : ∀ w, Hid (Calls Try.prog 24 #[.string a, .string b] w fun e' w' => e' = .returned (.tuple #[.agg #[.int .i64 mt, .int .i64 mr, .int .i64 mf, .int .i64 mp, .int .i64 ml], .int .i64 i, .int .i64 e]) ∧ Below w.heap.size w w'))
    (XC : ∀ w, Hid (Calls Try.prog 18 #[.string a] w fun e' w' => e' = .returned (.tuple #[.agg #[.int .i64 xt, .int .i64 xr, .int .i64 xf, .int .i64 xp, .int .i64 xl], .int .i64 g]) ∧ Below w.heap.size w w'))
    (YC : ∀ w, Hid (Calls Try.prog 18 #[.string b] w fun e' w' => e' = .returned (.tuple #[.agg #[.int .i64 yt, .int .i64 yr, .int .i64 yf, .int .i64 yp, .int .i64 yl], .int .i64 h]) ∧ Below w.heap.size w w'))
    (n1 : decide ((2000 : Int) < (a.size : Int)) = false) (n2 : decide ((2000 : Int) < (b.size : Int)) = false) (d1 : (e == 0) = true) (d2 : (g == 0) = true) (d3 : (h == 0) = true) (d4 : decide (xt ≤ mt) = true) (d5 : decide (yt ≤ mt) = true) :
    Calls Try.prog 7 #[.string a, .string b] w fun e' w' => e' = .returned (.bool true) ∧ Below w.heap.size w w' := by
  have AW := fun w => Lib.hid (pawake_ok K w)
  have d6 : (g != 0) = false := by simp only [bne, d2]; rfl
  have d7 : (h != 0) = false := by simp only [bne, d3]; rfl
  go_enter Try.func7, Try.ntmps7
  go_wp2_with fail
  refine (AW _).out.mono ?_
  rintro _ w1 ⟨rfl, hb1⟩
  go_wp2_with fail
  refine (NC _).out.mono ?_
  rintro _ w2 ⟨rfl, hb2⟩
  go_wp2_with fail
  refine (RC _).out.mono ?_
  rintro _ w3 ⟨rfl, hb3⟩
  obtain ⟨l23, b23, _⟩ := kept5 hb3
  have B2 := hb1.trans (hb2.mono hb1.size)
  have B3 := B2.trans (b23.mono B2.size)
  have M3 : Blk w3 w2.heap.size #[.int .i64 mt, .int .i64 mr, .int .i64 mf, .int .i64 mp, .int .i64 ml] 33 := (hb3.block _ (by simp)).trans (heap_alloc_new w2 _)
  have c0 : w3.cell? ⟨w2.heap.size, 0, none⟩ = some (.int .i64 mt) := (M3).cell 0
  have c1 : w3.cell? ⟨w2.heap.size, 1, none⟩ = some (.int .i64 mr) := (M3).cell 1
  have c2 : w3.cell? ⟨w2.heap.size, 2, none⟩ = some (.int .i64 mf) := (M3).cell 2
  have c3 : w3.cell? ⟨w2.heap.size, 3, none⟩ = some (.int .i64 mp) := (M3).cell 3
  have c4 : w3.cell? ⟨w2.heap.size, 4, none⟩ = some (.int .i64 ml) := (M3).cell 4
  go_wp2_with fail
  refine (XC _).out.mono ?_
  rintro _ w4 ⟨rfl, hb4⟩
  obtain ⟨l34, b34, _⟩ := kept5 hb4
  have B4 := B3.trans (b34.mono B3.size)
  have M4 : Blk w4 w2.heap.size #[.int .i64 mt, .int .i64 mr, .int .i64 mf, .int .i64 mp, .int .i64 ml] 33 := (hb4.block _ (by simp; omega)).trans (M3.alloc _)
  go_wp2_with fail
  refine (YC _).out.mono ?_
  rintro _ w5 ⟨rfl, hb5⟩
  obtain ⟨l45, b45, _⟩ := kept5 hb5
  have B5 := B4.trans (b45.mono B4.size)
  have M5 : Blk w5 w2.heap.size #[.int .i64 mt, .int .i64 mr, .int .i64 mf, .int .i64 mp, .int .i64 ml] 33 := (hb5.block _ (by simp; omega)).trans (M4.alloc _)
  have X5 : Blk w5 w4.heap.size #[.int .i64 xt, .int .i64 xr, .int .i64 xf, .int .i64 xp, .int .i64 xl] 33 := (hb5.block _ (by simp)).trans (heap_alloc_new w4 _)
  have l25 := M5.lt
  clear c0 c1 c2 c3 c4
  have c0 : w5.cell? ⟨w2.heap.size, 0, none⟩ = some (.int .i64 mt) := M5.cell 0
  have x0 : w5.cell? ⟨w4.heap.size, 0, none⟩ = some (.int .i64 xt) := X5.cell 0
  have HB := Lib.hid (B5.alloc B5.size (.cells #[.int .i64 yt, .int .i64 yr, .int .i64 yf, .int .i64 yp, .int .i64 yl] 33))
  clear M3 M4 M5 X5 B2 B3 B4 B5 hb1 hb2 hb3 hb4 hb5 b23 b34 b45
  go_wp2
  go_ret
  exact ⟨rfl, HB.out⟩
set_option maxRecDepth 8000 in
set_option maxHeartbeats 1600000 in
theorem newest_x (K : PageKit 11 9 13 21 17 18 23) (w : World) (a b : ByteArray) (mt mr mf mp ml xt xr xf xp xl yt yr yf yp yl i e g h : Int)
    (NC : ∀ w, Hid (Calls Try.prog 23 #[.string a, .string b] w fun e' w' => e' = .returned (.tuple #[.agg #[.int .i64 mt, .int .i64 mr, .int .i64 mf, .int .i64 mp, .int .i64 ml], .int .i64 i, .int .i64 e]) ∧ Below w.heap.size w w'))
    (RC : ∀ w, Hid (Calls Try.prog 24 #[.string a, .string b] w fun e' w' => e' = .returned (.tuple #[.agg #[.int .i64 mt, .int .i64 mr, .int .i64 mf, .int .i64 mp, .int .i64 ml], .int .i64 i, .int .i64 e]) ∧ Below w.heap.size w w'))
    (XC : ∀ w, Hid (Calls Try.prog 18 #[.string a] w fun e' w' => e' = .returned (.tuple #[.agg #[.int .i64 xt, .int .i64 xr, .int .i64 xf, .int .i64 xp, .int .i64 xl], .int .i64 g]) ∧ Below w.heap.size w w'))
    (YC : ∀ w, Hid (Calls Try.prog 18 #[.string b] w fun e' w' => e' = .returned (.tuple #[.agg #[.int .i64 yt, .int .i64 yr, .int .i64 yf, .int .i64 yp, .int .i64 yl], .int .i64 h]) ∧ Below w.heap.size w w'))
    (n1 : decide ((2000 : Int) < (a.size : Int)) = false) (n2 : decide ((2000 : Int) < (b.size : Int)) = false) (d1 : (e == 0) = true) (d2 : (g == 0) = true) (d3 : (h == 0) = false) (d4 : decide (xt ≤ mt) = true) :
    Calls Try.prog 7 #[.string a, .string b] w fun e' w' => e' = .returned (.bool true) ∧ Below w.heap.size w w' := by
  have AW := fun w => Lib.hid (pawake_ok K w)
  have d6 : (g != 0) = false := by simp only [bne, d2]; rfl
  have d7 : (h != 0) = true := by simp only [bne, d3]; rfl
  go_enter Try.func7, Try.ntmps7
  go_wp2_with fail
  refine (AW _).out.mono ?_
  rintro _ w1 ⟨rfl, hb1⟩
  go_wp2_with fail
  refine (NC _).out.mono ?_
  rintro _ w2 ⟨rfl, hb2⟩
  go_wp2_with fail
  refine (RC _).out.mono ?_
  rintro _ w3 ⟨rfl, hb3⟩
  obtain ⟨l23, b23, _⟩ := kept5 hb3
  have B2 := hb1.trans (hb2.mono hb1.size)
  have B3 := B2.trans (b23.mono B2.size)
  have M3 : Blk w3 w2.heap.size #[.int .i64 mt, .int .i64 mr, .int .i64 mf, .int .i64 mp, .int .i64 ml] 33 := (hb3.block _ (by simp)).trans (heap_alloc_new w2 _)
  have c0 : w3.cell? ⟨w2.heap.size, 0, none⟩ = some (.int .i64 mt) := (M3).cell 0
  have c1 : w3.cell? ⟨w2.heap.size, 1, none⟩ = some (.int .i64 mr) := (M3).cell 1
  have c2 : w3.cell? ⟨w2.heap.size, 2, none⟩ = some (.int .i64 mf) := (M3).cell 2
  have c3 : w3.cell? ⟨w2.heap.size, 3, none⟩ = some (.int .i64 mp) := (M3).cell 3
  have c4 : w3.cell? ⟨w2.heap.size, 4, none⟩ = some (.int .i64 ml) := (M3).cell 4
  go_wp2_with fail
  refine (XC _).out.mono ?_
  rintro _ w4 ⟨rfl, hb4⟩
  obtain ⟨l34, b34, _⟩ := kept5 hb4
  have B4 := B3.trans (b34.mono B3.size)
  have M4 : Blk w4 w2.heap.size #[.int .i64 mt, .int .i64 mr, .int .i64 mf, .int .i64 mp, .int .i64 ml] 33 := (hb4.block _ (by simp; omega)).trans (M3.alloc _)
  go_wp2_with fail
  refine (YC _).out.mono ?_
  rintro _ w5 ⟨rfl, hb5⟩
  obtain ⟨l45, b45, _⟩ := kept5 hb5
  have B5 := B4.trans (b45.mono B4.size)
  have M5 : Blk w5 w2.heap.size #[.int .i64 mt, .int .i64 mr, .int .i64 mf, .int .i64 mp, .int .i64 ml] 33 := (hb5.block _ (by simp; omega)).trans (M4.alloc _)
  have X5 : Blk w5 w4.heap.size #[.int .i64 xt, .int .i64 xr, .int .i64 xf, .int .i64 xp, .int .i64 xl] 33 := (hb5.block _ (by simp)).trans (heap_alloc_new w4 _)
  have l25 := M5.lt
  clear c0 c1 c2 c3 c4
  have c0 : w5.cell? ⟨w2.heap.size, 0, none⟩ = some (.int .i64 mt) := M5.cell 0
  have x0 : w5.cell? ⟨w4.heap.size, 0, none⟩ = some (.int .i64 xt) := X5.cell 0
  have HB := Lib.hid (B5.alloc B5.size (.cells #[.int .i64 yt, .int .i64 yr, .int .i64 yf, .int .i64 yp, .int .i64 yl] 33))
  clear M3 M4 M5 X5 B2 B3 B4 B5 hb1 hb2 hb3 hb4 hb5 b23 b34 b45
  go_wp2
  go_ret
  exact ⟨rfl, HB.out⟩
set_option maxRecDepth 8000 in
set_option maxHeartbeats 1600000 in
theorem newest_y (K : PageKit 11 9 13 21 17 18 23) (w : World) (a b : ByteArray) (mt mr mf mp ml xt xr xf xp xl yt yr yf yp yl i e g h : Int)
    (NC : ∀ w, Hid (Calls Try.prog 23 #[.string a, .string b] w fun e' w' => e' = .returned (.tuple #[.agg #[.int .i64 mt, .int .i64 mr, .int .i64 mf, .int .i64 mp, .int .i64 ml], .int .i64 i, .int .i64 e]) ∧ Below w.heap.size w w'))
    (RC : ∀ w, Hid (Calls Try.prog 24 #[.string a, .string b] w fun e' w' => e' = .returned (.tuple #[.agg #[.int .i64 mt, .int .i64 mr, .int .i64 mf, .int .i64 mp, .int .i64 ml], .int .i64 i, .int .i64 e]) ∧ Below w.heap.size w w'))
    (XC : ∀ w, Hid (Calls Try.prog 18 #[.string a] w fun e' w' => e' = .returned (.tuple #[.agg #[.int .i64 xt, .int .i64 xr, .int .i64 xf, .int .i64 xp, .int .i64 xl], .int .i64 g]) ∧ Below w.heap.size w w'))
    (YC : ∀ w, Hid (Calls Try.prog 18 #[.string b] w fun e' w' => e' = .returned (.tuple #[.agg #[.int .i64 yt, .int .i64 yr, .int .i64 yf, .int .i64 yp, .int .i64 yl], .int .i64 h]) ∧ Below w.heap.size w w'))
    (n1 : decide ((2000 : Int) < (a.size : Int)) = false) (n2 : decide ((2000 : Int) < (b.size : Int)) = false) (d1 : (e == 0) = true) (d2 : (g == 0) = false) (d3 : (h == 0) = true) (d5 : decide (yt ≤ mt) = true) :
    Calls Try.prog 7 #[.string a, .string b] w fun e' w' => e' = .returned (.bool true) ∧ Below w.heap.size w w' := by
  have AW := fun w => Lib.hid (pawake_ok K w)
  have d6 : (g != 0) = true := by simp only [bne, d2]; rfl
  have d7 : (h != 0) = false := by simp only [bne, d3]; rfl
  go_enter Try.func7, Try.ntmps7
  go_wp2_with fail
  refine (AW _).out.mono ?_
  rintro _ w1 ⟨rfl, hb1⟩
  go_wp2_with fail
  refine (NC _).out.mono ?_
  rintro _ w2 ⟨rfl, hb2⟩
  go_wp2_with fail
  refine (RC _).out.mono ?_
  rintro _ w3 ⟨rfl, hb3⟩
  obtain ⟨l23, b23, _⟩ := kept5 hb3
  have B2 := hb1.trans (hb2.mono hb1.size)
  have B3 := B2.trans (b23.mono B2.size)
  have M3 : Blk w3 w2.heap.size #[.int .i64 mt, .int .i64 mr, .int .i64 mf, .int .i64 mp, .int .i64 ml] 33 := (hb3.block _ (by simp)).trans (heap_alloc_new w2 _)
  have c0 : w3.cell? ⟨w2.heap.size, 0, none⟩ = some (.int .i64 mt) := (M3).cell 0
  have c1 : w3.cell? ⟨w2.heap.size, 1, none⟩ = some (.int .i64 mr) := (M3).cell 1
  have c2 : w3.cell? ⟨w2.heap.size, 2, none⟩ = some (.int .i64 mf) := (M3).cell 2
  have c3 : w3.cell? ⟨w2.heap.size, 3, none⟩ = some (.int .i64 mp) := (M3).cell 3
  have c4 : w3.cell? ⟨w2.heap.size, 4, none⟩ = some (.int .i64 ml) := (M3).cell 4
  go_wp2_with fail
  refine (XC _).out.mono ?_
  rintro _ w4 ⟨rfl, hb4⟩
  obtain ⟨l34, b34, _⟩ := kept5 hb4
  have B4 := B3.trans (b34.mono B3.size)
  have M4 : Blk w4 w2.heap.size #[.int .i64 mt, .int .i64 mr, .int .i64 mf, .int .i64 mp, .int .i64 ml] 33 := (hb4.block _ (by simp; omega)).trans (M3.alloc _)
  go_wp2_with fail
  refine (YC _).out.mono ?_
  rintro _ w5 ⟨rfl, hb5⟩
  obtain ⟨l45, b45, _⟩ := kept5 hb5
  have B5 := B4.trans (b45.mono B4.size)
  have M5 : Blk w5 w2.heap.size #[.int .i64 mt, .int .i64 mr, .int .i64 mf, .int .i64 mp, .int .i64 ml] 33 := (hb5.block _ (by simp; omega)).trans (M4.alloc _)
  have X5 : Blk w5 w4.heap.size #[.int .i64 xt, .int .i64 xr, .int .i64 xf, .int .i64 xp, .int .i64 xl] 33 := (hb5.block _ (by simp)).trans (heap_alloc_new w4 _)
  have l25 := M5.lt
  clear c0 c1 c2 c3 c4
  have c0 : w5.cell? ⟨w2.heap.size, 0, none⟩ = some (.int .i64 mt) := M5.cell 0
  have x0 : w5.cell? ⟨w4.heap.size, 0, none⟩ = some (.int .i64 xt) := X5.cell 0
  have HB := Lib.hid (B5.alloc B5.size (.cells #[.int .i64 yt, .int .i64 yr, .int .i64 yf, .int .i64 yp, .int .i64 yl] 33))
  clear M3 M4 M5 X5 B2 B3 B4 B5 hb1 hb2 hb3 hb4 hb5 b23 b34 b45
  go_wp2
  go_ret
  exact ⟨rfl, HB.out⟩
set_option maxRecDepth 8000 in
set_option maxHeartbeats 1600000 in
theorem newest_no (K : PageKit 11 9 13 21 17 18 23) (w : World) (a b : ByteArray) (mt mr mf mp ml xt xr xf xp xl yt yr yf yp yl i e g h : Int)
    (NC : ∀ w, Hid (Calls Try.prog 23 #[.string a, .string b] w fun e' w' => e' = .returned (.tuple #[.agg #[.int .i64 mt, .int .i64 mr, .int .i64 mf, .int .i64 mp, .int .i64 ml], .int .i64 i, .int .i64 e]) ∧ Below w.heap.size w w'))
    (RC : ∀ w, Hid (Calls Try.prog 24 #[.string a, .string b] w fun e' w' => e' = .returned (.tuple #[.agg #[.int .i64 mt, .int .i64 mr, .int .i64 mf, .int .i64 mp, .int .i64 ml], .int .i64 i, .int .i64 e]) ∧ Below w.heap.size w w'))
    (XC : ∀ w, Hid (Calls Try.prog 18 #[.string a] w fun e' w' => e' = .returned (.tuple #[.agg #[.int .i64 xt, .int .i64 xr, .int .i64 xf, .int .i64 xp, .int .i64 xl], .int .i64 g]) ∧ Below w.heap.size w w'))
    (YC : ∀ w, Hid (Calls Try.prog 18 #[.string b] w fun e' w' => e' = .returned (.tuple #[.agg #[.int .i64 yt, .int .i64 yr, .int .i64 yf, .int .i64 yp, .int .i64 yl], .int .i64 h]) ∧ Below w.heap.size w w'))
    (n1 : decide ((2000 : Int) < (a.size : Int)) = false) (n2 : decide ((2000 : Int) < (b.size : Int)) = false) (d1 : (e == 0) = false) (d2 : (g == 0) = false) (d3 : (h == 0) = false) :
    Calls Try.prog 7 #[.string a, .string b] w fun e' w' => e' = .returned (.bool true) ∧ Below w.heap.size w w' := by
  have AW := fun w => Lib.hid (pawake_ok K w)
  have d6 : (g != 0) = true := by simp only [bne, d2]; rfl
  have d7 : (h != 0) = true := by simp only [bne, d3]; rfl
  go_enter Try.func7, Try.ntmps7
  go_wp2_with fail
  refine (AW _).out.mono ?_
  rintro _ w1 ⟨rfl, hb1⟩
  go_wp2_with fail
  refine (NC _).out.mono ?_
  rintro _ w2 ⟨rfl, hb2⟩
  go_wp2_with fail
  refine (RC _).out.mono ?_
  rintro _ w3 ⟨rfl, hb3⟩
  obtain ⟨l23, b23, _⟩ := kept5 hb3
  have B2 := hb1.trans (hb2.mono hb1.size)
  have B3 := B2.trans (b23.mono B2.size)
  have M3 : Blk w3 w2.heap.size #[.int .i64 mt, .int .i64 mr, .int .i64 mf, .int .i64 mp, .int .i64 ml] 33 := (hb3.block _ (by simp)).trans (heap_alloc_new w2 _)
  have c0 : w3.cell? ⟨w2.heap.size, 0, none⟩ = some (.int .i64 mt) := (M3).cell 0
  have c1 : w3.cell? ⟨w2.heap.size, 1, none⟩ = some (.int .i64 mr) := (M3).cell 1
  have c2 : w3.cell? ⟨w2.heap.size, 2, none⟩ = some (.int .i64 mf) := (M3).cell 2
  have c3 : w3.cell? ⟨w2.heap.size, 3, none⟩ = some (.int .i64 mp) := (M3).cell 3
  have c4 : w3.cell? ⟨w2.heap.size, 4, none⟩ = some (.int .i64 ml) := (M3).cell 4
  go_wp2_with fail
  refine (XC _).out.mono ?_
  rintro _ w4 ⟨rfl, hb4⟩
  obtain ⟨l34, b34, _⟩ := kept5 hb4
  have B4 := B3.trans (b34.mono B3.size)
  have M4 : Blk w4 w2.heap.size #[.int .i64 mt, .int .i64 mr, .int .i64 mf, .int .i64 mp, .int .i64 ml] 33 := (hb4.block _ (by simp; omega)).trans (M3.alloc _)
  go_wp2_with fail
  refine (YC _).out.mono ?_
  rintro _ w5 ⟨rfl, hb5⟩
  obtain ⟨l45, b45, _⟩ := kept5 hb5
  have B5 := B4.trans (b45.mono B4.size)
  have M5 : Blk w5 w2.heap.size #[.int .i64 mt, .int .i64 mr, .int .i64 mf, .int .i64 mp, .int .i64 ml] 33 := (hb5.block _ (by simp; omega)).trans (M4.alloc _)
  have X5 : Blk w5 w4.heap.size #[.int .i64 xt, .int .i64 xr, .int .i64 xf, .int .i64 xp, .int .i64 xl] 33 := (hb5.block _ (by simp)).trans (heap_alloc_new w4 _)
  have l25 := M5.lt
  clear c0 c1 c2 c3 c4
  have c0 : w5.cell? ⟨w2.heap.size, 0, none⟩ = some (.int .i64 mt) := M5.cell 0
  have x0 : w5.cell? ⟨w4.heap.size, 0, none⟩ = some (.int .i64 xt) := X5.cell 0
  have HB := Lib.hid (B5.alloc B5.size (.cells #[.int .i64 yt, .int .i64 yr, .int .i64 yf, .int .i64 yp, .int .i64 yl] 33))
  clear M3 M4 M5 X5 B2 B3 B4 B5 hb1 hb2 hb3 hb4 hb5 b23 b34 b45
  go_wp2
  go_ret
  exact ⟨rfl, HB.out⟩
theorem newest_long (K : PageKit 11 9 13 21 17 18 23) (w : World) (a b : ByteArray) (h : 2000 < a.size ∨ 2000 < b.size) : Calls Try.prog 7 #[.string a, .string b] w fun e' w' => e' = .returned (.bool true) ∧ Below w.heap.size w w' := by
  have AW := fun w => Lib.hid (pawake_ok K w)
  by_cases h1 : 2000 < a.size
  · have n1 : decide ((2000 : Int) < (a.size : Int)) = true := decide_eq_true (by omega)
    clear h h1
    go_enter Try.func7, Try.ntmps7
    go_wp2_with fail
    refine (AW _).out.mono ?_
    rintro _ w1 ⟨rfl, hb1⟩
    go_wp2
    go_ret
    exact ⟨rfl, hb1⟩
  · have n1 : decide ((2000 : Int) < (a.size : Int)) = false := decide_eq_false (by omega)
    have n2 : decide ((2000 : Int) < (b.size : Int)) = true := decide_eq_true (by omega)
    clear h h1
    go_enter Try.func7, Try.ntmps7
    go_wp2_with fail
    refine (AW _).out.mono ?_
    rintro _ w1 ⟨rfl, hb1⟩
    go_wp2
    go_ret
    exact ⟨rfl, hb1⟩
theorem newest_any (K : PageKit 11 9 13 21 17 18 23) (w : World) (a b : ByteArray) : Calls Try.prog 7 #[.string a, .string b] w fun e' w' => e' = .returned (.bool true) ∧ Below w.heap.size w w' := by
  by_cases hl : 2000 < a.size ∨ 2000 < b.size
  · exact newest_long K w a b hl
  · have ha : a.size ≤ 2000 := by omega
    have hb : b.size ≤ 2000 := by omega
    have n1 : decide ((2000 : Int) < (a.size : Int)) = false := decide_eq_false (by omega)
    have n2 : decide ((2000 : Int) < (b.size : Int)) = false := decide_eq_false (by omega)
    have NC := fun w => Lib.hid (K.newest w a b ha hb)
    have RC := fun w => Lib.hid (refPage.newest w a b ha hb)
    have XC := fun w => Lib.hid (K.unpackM w a ha)
    have YC := fun w => Lib.hid (K.unpackM w b hb)
    obtain ⟨t1, t2⟩ := Page.newest_told a.data.toList b.data.toList
    have le : ∀ q m k, Page.newest a.data.toList b.data.toList = some (m, k) → q.txn ≤ m.txn → (ofME q).txn ≤ (newestM a b).txn := by
      intro q m k hn hq
      unfold newestM
      rw [hn]
      show (q.txn : Int) ≤ m.txn
      omega
    cases hx : Page.readM a.data.toList with
    | none =>
      cases hy : Page.readM b.data.toList with
      | none =>
        rw [hx, hy] at t1
        have hn : Page.newest a.data.toList b.data.toList = none := by simpa using t1
        exact newest_no K w a b _ _ _ _ _ _ _ _ _ _ _ _ _ _ _ _ _ _ _ NC RC XC YC n1 n2 (by unfold newestE; rw [hn]; rfl) (by unfold unpackME; rw [hx]; rfl) (by unfold unpackME; rw [hy]; rfl)
      | some q =>
        rw [hx, hy] at t1
        obtain ⟨⟨m, k⟩, hn⟩ := Option.isSome_iff_exists.1 (show (Page.newest a.data.toList b.data.toList).isSome = true by rw [t1]; rfl)
        have hu : unpackM b = ofME q := by unfold unpackM; rw [hy]
        exact newest_y K w a b _ _ _ _ _ _ _ _ _ _ _ _ _ _ _ _ _ _ _ NC RC XC YC n1 n2 (by unfold newestE; rw [hn]; rfl) (by unfold unpackME; rw [hx]; rfl) (by unfold unpackME; rw [hy]; rfl) (decide_eq_true (by rw [hu]; exact le q m k hn ((t2 m k hn).2 q hy)))
    | some p =>
      have hv : unpackM a = ofME p := by unfold unpackM; rw [hx]
      cases hy : Page.readM b.data.toList with
      | none =>
        rw [hx, hy] at t1
        obtain ⟨⟨m, k⟩, hn⟩ := Option.isSome_iff_exists.1 (show (Page.newest a.data.toList b.data.toList).isSome = true by rw [t1]; rfl)
        exact newest_x K w a b _ _ _ _ _ _ _ _ _ _ _ _ _ _ _ _ _ _ _ NC RC XC YC n1 n2 (by unfold newestE; rw [hn]; rfl) (by unfold unpackME; rw [hx]; rfl) (by unfold unpackME; rw [hy]; rfl) (decide_eq_true (by rw [hv]; exact le p m k hn ((t2 m k hn).1 p hx)))
      | some q =>
        rw [hx, hy] at t1
        obtain ⟨⟨m, k⟩, hn⟩ := Option.isSome_iff_exists.1 (show (Page.newest a.data.toList b.data.toList).isSome = true by rw [t1]; rfl)
        have hu : unpackM b = ofME q := by unfold unpackM; rw [hy]
        exact newest_xy K w a b _ _ _ _ _ _ _ _ _ _ _ _ _ _ _ _ _ _ _ NC RC XC YC n1 n2 (by unfold newestE; rw [hn]; rfl) (by unfold unpackME; rw [hx]; rfl) (by unfold unpackME; rw [hy]; rfl) (decide_eq_true (by rw [hv]; exact le p m k hn ((t2 m k hn).1 p hx))) (decide_eq_true (by rw [hu]; exact le q m k hn ((t2 m k hn).2 q hy)))
end Go.Proofs.Ytnhnfabgofncaaa
