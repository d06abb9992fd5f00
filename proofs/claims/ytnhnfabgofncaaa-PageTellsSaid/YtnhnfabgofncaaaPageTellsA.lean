/-
  P4.3 (few turned bytes are found), of any functions that answer as the list says: the walks of the statement's function. No conditions but those typed.
-/
import Derived.Test.YtnhnfabgofncaaaPageTurned
namespace Go.Proofs.Ytnhnfabgofncaaa
open Go.RowKit
set_option maxRecDepth 8000 in
set_option maxHeartbeats 1600000 in
theorem tells_00 (K : PageKit 11 9 13 21 17 18 23) (w : World) (kind no txn : Int) (body : ByteArray) (mt mr mf mp ml at_ : Int) (y : Nat) (e g : Int) (S R : ByteArray)
    (PC : ∀ w, Hid (Calls Try.prog 9 #[.agg #[.int .i64 kind, .int .i64 no, .int .i64 txn, .string body]] w fun e' w' => e' = .returned (.tuple #[.string S, .int .i64 e]) ∧ Below w.heap.size w w'))
    (QC : ∀ w, Hid (Calls Try.prog 17 #[.agg #[.int .i64 mt, .int .i64 mr, .int .i64 mf, .int .i64 mp, .int .i64 ml]] w fun e' w' => e' = .returned (.tuple #[.string R, .int .i64 g]) ∧ Below w.heap.size w w'))
    (n0 : decide ((2000 : Int) < (body.size : Int)) = false) (y0 : ((y : Int) == 0) = false) (d1 : (e == 0) = false) (d3 : (g == 0) = false) :
    Calls Try.prog 5 #[.agg #[.int .i64 kind, .int .i64 no, .int .i64 txn, .string body], .agg #[.int .i64 mt, .int .i64 mr, .int .i64 mf, .int .i64 mp, .int .i64 ml], .int .i64 at_, .int .u32 y] w fun e' w' => e' = .returned (.bool true) ∧ Below w.heap.size w w' := by
  have AW := fun w => Lib.hid (pawake_ok K w)
  obtain ⟨w0, hw0⟩ : ∃ w0, (w.alloc (.cells #[.int .i64 kind, .int .i64 no, .int .i64 txn, .string body] 23)).alloc (.cells #[.int .i64 mt, .int .i64 mr, .int .i64 mf, .int .i64 mp, .int .i64 ml] 33) = w0 := ⟨_, rfl⟩
  have B0 : Below w.heap.size w w0 := by rw [← hw0]; exact ((Below.refl _ w).alloc (Nat.le_refl _) _).alloc (by simp) _
  have P0 : Blk w0 w.heap.size #[.int .i64 kind, .int .i64 no, .int .i64 txn, .string body] 23 := by rw [← hw0]; exact (Blk.new w _ _).alloc _
  have M0 : Blk w0 (w.heap.size + 1) #[.int .i64 mt, .int .i64 mr, .int .i64 mf, .int .i64 mp, .int .i64 ml] 33 := by rw [← hw0]; have := Blk.new (w.alloc (.cells #[.int .i64 kind, .int .i64 no, .int .i64 txn, .string body] 23)) #[.int .i64 mt, .int .i64 mr, .int .i64 mf, .int .i64 mp, .int .i64 ml] 33; simpa using this
  have k0 : w0.cell? ⟨w.heap.size, 3, none⟩ = some (.string body) := P0.cell 3
  go_enter Try.func5, Try.ntmps5
  go_wp2_with fail
  refine (AW _).out.mono ?_
  rintro _ w2 ⟨rfl, hb2⟩
  have P2 : Blk w2 w.heap.size #[.int .i64 kind, .int .i64 no, .int .i64 txn, .string body] 23 := (hb2.block _ P0.lt).trans P0
  have M2 : Blk w2 (w.heap.size + 1) #[.int .i64 mt, .int .i64 mr, .int .i64 mf, .int .i64 mp, .int .i64 ml] 33 := (hb2.block _ M0.lt).trans M0
  have B2 := B0.trans (hb2.mono B0.size)
  have c0 : w2.cell? ⟨w.heap.size, 0, none⟩ = some (.int .i64 kind) := P2.cell 0
  have c1 : w2.cell? ⟨w.heap.size, 1, none⟩ = some (.int .i64 no) := P2.cell 1
  have c2 : w2.cell? ⟨w.heap.size, 2, none⟩ = some (.int .i64 txn) := P2.cell 2
  have c3 : w2.cell? ⟨w.heap.size, 3, none⟩ = some (.string body) := P2.cell 3
  go_wp2_with fail
  refine (PC _).out.mono ?_
  rintro _ w3 ⟨rfl, hb3⟩
  have M3 : Blk w3 (w.heap.size + 1) #[.int .i64 mt, .int .i64 mr, .int .i64 mf, .int .i64 mp, .int .i64 ml] 33 := (hb3.block _ M2.lt).trans M2
  have B3 := B2.trans (hb3.mono B2.size)
  clear c0 c1 c2 c3 k0
  have MM := M3
  have BB := B3
  obtain ⟨wm, hwm⟩ : ∃ wm, w3 = wm := ⟨_, rfl⟩
  subst hwm
  have c0 : w3.cell? ⟨w.heap.size + 1, 0, none⟩ = some (.int .i64 mt) := MM.cell 0
  have c1 : w3.cell? ⟨w.heap.size + 1, 1, none⟩ = some (.int .i64 mr) := MM.cell 1
  have c2 : w3.cell? ⟨w.heap.size + 1, 2, none⟩ = some (.int .i64 mf) := MM.cell 2
  have c3 : w3.cell? ⟨w.heap.size + 1, 3, none⟩ = some (.int .i64 mp) := MM.cell 3
  have c4 : w3.cell? ⟨w.heap.size + 1, 4, none⟩ = some (.int .i64 ml) := MM.cell 4
  go_wp2_with fail
  refine (QC _).out.mono ?_
  rintro _ w6 ⟨rfl, hb6⟩
  have B6 := BB.trans (hb6.mono BB.size)
  clear c0 c1 c2 c3 c4
  go_wp2
  go_ret
  exact ⟨rfl, B6⟩
set_option maxRecDepth 8000 in
set_option maxHeartbeats 1600000 in
theorem tells_01 (K : PageKit 11 9 13 21 17 18 23) (w : World) (kind no txn : Int) (body : ByteArray) (mt mr mf mp ml at_ : Int) (y : Nat) (e g h zt zr zf zp zl : Int) (S R V : ByteArray)
    (PC : ∀ w, Hid (Calls Try.prog 9 #[.agg #[.int .i64 kind, .int .i64 no, .int .i64 txn, .string body]] w fun e' w' => e' = .returned (.tuple #[.string S, .int .i64 e]) ∧ Below w.heap.size w w'))
    (QC : ∀ w, Hid (Calls Try.prog 17 #[.agg #[.int .i64 mt, .int .i64 mr, .int .i64 mf, .int .i64 mp, .int .i64 ml]] w fun e' w' => e' = .returned (.tuple #[.string R, .int .i64 g]) ∧ Below w.heap.size w w'))
    (TD : ∀ w, Hid (Calls Try.prog 15 #[.string R, .int .i64 at_, .int .u32 y] w fun e' w' => e' = .returned (.string V) ∧ Below w.heap.size w w'))
    (UD : ∀ w, Hid (Calls Try.prog 18 #[.string V] w fun e' w' => e' = .returned (.tuple #[.agg #[.int .i64 zt, .int .i64 zr, .int .i64 zf, .int .i64 zp, .int .i64 zl], .int .i64 h]) ∧ Below w.heap.size w w'))
    (n0 : decide ((2000 : Int) < (body.size : Int)) = false) (y0 : ((y : Int) == 0) = false) (d1 : (e == 0) = false) (d3 : (g == 0) = true) (d4 : (h == 4) = true) :
    Calls Try.prog 5 #[.agg #[.int .i64 kind, .int .i64 no, .int .i64 txn, .string body], .agg #[.int .i64 mt, .int .i64 mr, .int .i64 mf, .int .i64 mp, .int .i64 ml], .int .i64 at_, .int .u32 y] w fun e' w' => e' = .returned (.bool true) ∧ Below w.heap.size w w' := by
  have AW := fun w => Lib.hid (pawake_ok K w)
  have d6 : (h != 4) = false := by simp only [bne, d4]; rfl
  obtain ⟨w0, hw0⟩ : ∃ w0, (w.alloc (.cells #[.int .i64 kind, .int .i64 no, .int .i64 txn, .string body] 23)).alloc (.cells #[.int .i64 mt, .int .i64 mr, .int .i64 mf, .int .i64 mp, .int .i64 ml] 33) = w0 := ⟨_, rfl⟩
  have B0 : Below w.heap.size w w0 := by rw [← hw0]; exact ((Below.refl _ w).alloc (Nat.le_refl _) _).alloc (by simp) _
  have P0 : Blk w0 w.heap.size #[.int .i64 kind, .int .i64 no, .int .i64 txn, .string body] 23 := by rw [← hw0]; exact (Blk.new w _ _).alloc _
  have M0 : Blk w0 (w.heap.size + 1) #[.int .i64 mt, .int .i64 mr, .int .i64 mf, .int .i64 mp, .int .i64 ml] 33 := by rw [← hw0]; have := Blk.new (w.alloc (.cells #[.int .i64 kind, .int .i64 no, .int .i64 txn, .string body] 23)) #[.int .i64 mt, .int .i64 mr, .int .i64 mf, .int .i64 mp, .int .i64 ml] 33; simpa using this
  have k0 : w0.cell? ⟨w.heap.size, 3, none⟩ = some (.string body) := P0.cell 3
  go_enter Try.func5, Try.ntmps5
  go_wp2_with fail
  refine (AW _).out.mono ?_
  rintro _ w2 ⟨rfl, hb2⟩
  have P2 : Blk w2 w.heap.size #[.int .i64 kind, .int .i64 no, .int .i64 txn, .string body] 23 := (hb2.block _ P0.lt).trans P0
  have M2 : Blk w2 (w.heap.size + 1) #[.int .i64 mt, .int .i64 mr, .int .i64 mf, .int .i64 mp, .int .i64 ml] 33 := (hb2.block _ M0.lt).trans M0
  have B2 := B0.trans (hb2.mono B0.size)
  have c0 : w2.cell? ⟨w.heap.size, 0, none⟩ = some (.int .i64 kind) := P2.cell 0
  have c1 : w2.cell? ⟨w.heap.size, 1, none⟩ = some (.int .i64 no) := P2.cell 1
  have c2 : w2.cell? ⟨w.heap.size, 2, none⟩ = some (.int .i64 txn) := P2.cell 2
  have c3 : w2.cell? ⟨w.heap.size, 3, none⟩ = some (.string body) := P2.cell 3
  go_wp2_with fail
  refine (PC _).out.mono ?_
  rintro _ w3 ⟨rfl, hb3⟩
  have M3 : Blk w3 (w.heap.size + 1) #[.int .i64 mt, .int .i64 mr, .int .i64 mf, .int .i64 mp, .int .i64 ml] 33 := (hb3.block _ M2.lt).trans M2
  have B3 := B2.trans (hb3.mono B2.size)
  clear c0 c1 c2 c3 k0
  have MM := M3
  have BB := B3
  obtain ⟨wm, hwm⟩ : ∃ wm, w3 = wm := ⟨_, rfl⟩
  subst hwm
  have c0 : w3.cell? ⟨w.heap.size + 1, 0, none⟩ = some (.int .i64 mt) := MM.cell 0
  have c1 : w3.cell? ⟨w.heap.size + 1, 1, none⟩ = some (.int .i64 mr) := MM.cell 1
  have c2 : w3.cell? ⟨w.heap.size + 1, 2, none⟩ = some (.int .i64 mf) := MM.cell 2
  have c3 : w3.cell? ⟨w.heap.size + 1, 3, none⟩ = some (.int .i64 mp) := MM.cell 3
  have c4 : w3.cell? ⟨w.heap.size + 1, 4, none⟩ = some (.int .i64 ml) := MM.cell 4
  go_wp2_with fail
  refine (QC _).out.mono ?_
  rintro _ w6 ⟨rfl, hb6⟩
  have B6 := BB.trans (hb6.mono BB.size)
  clear c0 c1 c2 c3 c4
  go_wp2_with fail
  refine (TD _).out.mono ?_
  rintro _ w7 ⟨rfl, hb7⟩
  have B7 := B6.trans (hb7.mono B6.size)
  go_wp2_with fail
  refine (UD _).out.mono ?_
  rintro _ w8 ⟨rfl, hb8⟩
  have B8 := B7.trans (hb8.mono B7.size)
  go_wp2
  go_ret
  exact ⟨rfl, B8.alloc B8.size _⟩
set_option maxRecDepth 8000 in
set_option maxHeartbeats 1600000 in
theorem tells_02 (K : PageKit 11 9 13 21 17 18 23) (w : World) (kind no txn : Int) (body : ByteArray) (mt mr mf mp ml at_ : Int) (y : Nat) (e g h zt zr zf zp zl : Int) (S R V : ByteArray)
    (PC : ∀ w, Hid (Calls Try.prog 9 #[.agg #[.int .i64 kind, .int .i64 no, .int .i64 txn, .string body]] w fun e' w' => e' = .returned (.tuple #[.string S, .int .i64 e]) ∧ Below w.heap.size w w'))
    (QC : ∀ w, Hid (Calls Try.prog 17 #[.agg #[.int .i64 mt, .int .i64 mr, .int .i64 mf, .int .i64 mp, .int .i64 ml]] w fun e' w' => e' = .returned (.tuple #[.string R, .int .i64 g]) ∧ Below w.heap.size w w'))
    (TD : ∀ w, Hid (Calls Try.prog 15 #[.string R, .int .i64 at_, .int .u32 y] w fun e' w' => e' = .returned (.string V) ∧ Below w.heap.size w w'))
    (UD : ∀ w, Hid (Calls Try.prog 18 #[.string V] w fun e' w' => e' = .returned (.tuple #[.agg #[.int .i64 zt, .int .i64 zr, .int .i64 zf, .int .i64 zp, .int .i64 zl], .int .i64 h]) ∧ Below w.heap.size w w'))
    (MD : ∀ w, Hid (Calls Try.prog 16 #[.string R, .int .i64 at_, .int .u32 y, .int .i64 (32 : Nat)] w fun e' w' => e' = .returned (.bool true) ∧ w = w'))
    (n0 : decide ((2000 : Int) < (body.size : Int)) = false) (y0 : ((y : Int) == 0) = false) (d1 : (e == 0) = false) (d3 : (g == 0) = true) (d4 : (h == 4) = false) :
    Calls Try.prog 5 #[.agg #[.int .i64 kind, .int .i64 no, .int .i64 txn, .string body], .agg #[.int .i64 mt, .int .i64 mr, .int .i64 mf, .int .i64 mp, .int .i64 ml], .int .i64 at_, .int .u32 y] w fun e' w' => e' = .returned (.bool true) ∧ Below w.heap.size w w' := by
  have AW := fun w => Lib.hid (pawake_ok K w)
  have d6 : (h != 4) = true := by simp only [bne, d4]; rfl
  obtain ⟨w0, hw0⟩ : ∃ w0, (w.alloc (.cells #[.int .i64 kind, .int .i64 no, .int .i64 txn, .string body] 23)).alloc (.cells #[.int .i64 mt, .int .i64 mr, .int .i64 mf, .int .i64 mp, .int .i64 ml] 33) = w0 := ⟨_, rfl⟩
  have B0 : Below w.heap.size w w0 := by rw [← hw0]; exact ((Below.refl _ w).alloc (Nat.le_refl _) _).alloc (by simp) _
  have P0 : Blk w0 w.heap.size #[.int .i64 kind, .int .i64 no, .int .i64 txn, .string body] 23 := by rw [← hw0]; exact (Blk.new w _ _).alloc _
  have M0 : Blk w0 (w.heap.size + 1) #[.int .i64 mt, .int .i64 mr, .int .i64 mf, .int .i64 mp, .int .i64 ml] 33 := by rw [← hw0]; have := Blk.new (w.alloc (.cells #[.int .i64 kind, .int .i64 no, .int .i64 txn, .string body] 23)) #[.int .i64 mt, .int .i64 mr, .int .i64 mf, .int .i64 mp, .int .i64 ml] 33; simpa using this
  have k0 : w0.cell? ⟨w.heap.size, 3, none⟩ = some (.string body) := P0.cell 3
  go_enter Try.func5, Try.ntmps5
  go_wp2_with fail
  refine (AW _).out.mono ?_
  rintro _ w2 ⟨rfl, hb2⟩
  have P2 : Blk w2 w.heap.size #[.int .i64 kind, .int .i64 no, .int .i64 txn, .string body] 23 := (hb2.block _ P0.lt).trans P0
  have M2 : Blk w2 (w.heap.size + 1) #[.int .i64 mt, .int .i64 mr, .int .i64 mf, .int .i64 mp, .int .i64 ml] 33 := (hb2.block _ M0.lt).trans M0
  have B2 := B0.trans (hb2.mono B0.size)
  have c0 : w2.cell? ⟨w.heap.size, 0, none⟩ = some (.int .i64 kind) := P2.cell 0
  have c1 : w2.cell? ⟨w.heap.size, 1, none⟩ = some (.int .i64 no) := P2.cell 1
  have c2 : w2.cell? ⟨w.heap.size, 2, none⟩ = some (.int .i64 txn) := P2.cell 2
  have c3 : w2.cell? ⟨w.heap.size, 3, none⟩ = some (.string body) := P2.cell 3
  go_wp2_with fail
  refine (PC _).out.mono ?_
  rintro _ w3 ⟨rfl, hb3⟩
  have M3 : Blk w3 (w.heap.size + 1) #[.int .i64 mt, .int .i64 mr, .int .i64 mf, .int .i64 mp, .int .i64 ml] 33 := (hb3.block _ M2.lt).trans M2
  have B3 := B2.trans (hb3.mono B2.size)
  clear c0 c1 c2 c3 k0
  have MM := M3
  have BB := B3
  obtain ⟨wm, hwm⟩ : ∃ wm, w3 = wm := ⟨_, rfl⟩
  subst hwm
  have c0 : w3.cell? ⟨w.heap.size + 1, 0, none⟩ = some (.int .i64 mt) := MM.cell 0
  have c1 : w3.cell? ⟨w.heap.size + 1, 1, none⟩ = some (.int .i64 mr) := MM.cell 1
  have c2 : w3.cell? ⟨w.heap.size + 1, 2, none⟩ = some (.int .i64 mf) := MM.cell 2
  have c3 : w3.cell? ⟨w.heap.size + 1, 3, none⟩ = some (.int .i64 mp) := MM.cell 3
  have c4 : w3.cell? ⟨w.heap.size + 1, 4, none⟩ = some (.int .i64 ml) := MM.cell 4
  go_wp2_with fail
  refine (QC _).out.mono ?_
  rintro _ w6 ⟨rfl, hb6⟩
  have B6 := BB.trans (hb6.mono BB.size)
  clear c0 c1 c2 c3 c4
  go_wp2_with fail
  refine (TD _).out.mono ?_
  rintro _ w7 ⟨rfl, hb7⟩
  have B7 := B6.trans (hb7.mono B6.size)
  go_wp2_with fail
  refine (UD _).out.mono ?_
  rintro _ w8 ⟨rfl, hb8⟩
  have B8 := B7.trans (hb8.mono B7.size)
  go_wp2_with fail
  refine (MD _).out.mono ?_
  rintro _ _ ⟨rfl, rfl⟩
  go_wp2
  go_ret
  exact ⟨rfl, B8.alloc B8.size _⟩
set_option maxRecDepth 8000 in
set_option maxHeartbeats 1600000 in
theorem tells_10 (K : PageKit 11 9 13 21 17 18 23) (w : World) (kind no txn : Int) (body : ByteArray) (mt mr mf mp ml at_ : Int) (y : Nat) (e g f xk xn xt : Int) (S R T xb : ByteArray)
    (PC : ∀ w, Hid (Calls Try.prog 9 #[.agg #[.int .i64 kind, .int .i64 no, .int .i64 txn, .string body]] w fun e' w' => e' = .returned (.tuple #[.string S, .int .i64 e]) ∧ Below w.heap.size w w'))
    (QC : ∀ w, Hid (Calls Try.prog 17 #[.agg #[.int .i64 mt, .int .i64 mr, .int .i64 mf, .int .i64 mp, .int .i64 ml]] w fun e' w' => e' = .returned (.tuple #[.string R, .int .i64 g]) ∧ Below w.heap.size w w'))
    (TC : ∀ w, Hid (Calls Try.prog 15 #[.string S, .int .i64 at_, .int .u32 y] w fun e' w' => e' = .returned (.string T) ∧ Below w.heap.size w w'))
    (UC : ∀ w, Hid (Calls Try.prog 13 #[.string T] w fun e' w' => e' = .returned (.tuple #[.agg #[.int .i64 xk, .int .i64 xn, .int .i64 xt, .string xb], .int .i64 f]) ∧ Below w.heap.size w w'))
    (n0 : decide ((2000 : Int) < (body.size : Int)) = false) (y0 : ((y : Int) == 0) = false) (d1 : (e == 0) = true) (d2 : (f == 4) = true) (d3 : (g == 0) = false) :
    Calls Try.prog 5 #[.agg #[.int .i64 kind, .int .i64 no, .int .i64 txn, .string body], .agg #[.int .i64 mt, .int .i64 mr, .int .i64 mf, .int .i64 mp, .int .i64 ml], .int .i64 at_, .int .u32 y] w fun e' w' => e' = .returned (.bool true) ∧ Below w.heap.size w w' := by
  have AW := fun w => Lib.hid (pawake_ok K w)
  have d5 : (f != 4) = false := by simp only [bne, d2]; rfl
  obtain ⟨w0, hw0⟩ : ∃ w0, (w.alloc (.cells #[.int .i64 kind, .int .i64 no, .int .i64 txn, .string body] 23)).alloc (.cells #[.int .i64 mt, .int .i64 mr, .int .i64 mf, .int .i64 mp, .int .i64 ml] 33) = w0 := ⟨_, rfl⟩
  have B0 : Below w.heap.size w w0 := by rw [← hw0]; exact ((Below.refl _ w).alloc (Nat.le_refl _) _).alloc (by simp) _
  have P0 : Blk w0 w.heap.size #[.int .i64 kind, .int .i64 no, .int .i64 txn, .string body] 23 := by rw [← hw0]; exact (Blk.new w _ _).alloc _
  have M0 : Blk w0 (w.heap.size + 1) #[.int .i64 mt, .int .i64 mr, .int .i64 mf, .int .i64 mp, .int .i64 ml] 33 := by rw [← hw0]; have := Blk.new (w.alloc (.cells #[.int .i64 kind, .int .i64 no, .int .i64 txn, .string body] 23)) #[.int .i64 mt, .int .i64 mr, .int .i64 mf, .int .i64 mp, .int .i64 ml] 33; simpa using this
  have k0 : w0.cell? ⟨w.heap.size, 3, none⟩ = some (.string body) := P0.cell 3
  go_enter Try.func5, Try.ntmps5
  go_wp2_with fail
  refine (AW _).out.mono ?_
  rintro _ w2 ⟨rfl, hb2⟩
  have P2 : Blk w2 w.heap.size #[.int .i64 kind, .int .i64 no, .int .i64 txn, .string body] 23 := (hb2.block _ P0.lt).trans P0
  have M2 : Blk w2 (w.heap.size + 1) #[.int .i64 mt, .int .i64 mr, .int .i64 mf, .int .i64 mp, .int .i64 ml] 33 := (hb2.block _ M0.lt).trans M0
  have B2 := B0.trans (hb2.mono B0.size)
  have c0 : w2.cell? ⟨w.heap.size, 0, none⟩ = some (.int .i64 kind) := P2.cell 0
  have c1 : w2.cell? ⟨w.heap.size, 1, none⟩ = some (.int .i64 no) := P2.cell 1
  have c2 : w2.cell? ⟨w.heap.size, 2, none⟩ = some (.int .i64 txn) := P2.cell 2
  have c3 : w2.cell? ⟨w.heap.size, 3, none⟩ = some (.string body) := P2.cell 3
  go_wp2_with fail
  refine (PC _).out.mono ?_
  rintro _ w3 ⟨rfl, hb3⟩
  have M3 : Blk w3 (w.heap.size + 1) #[.int .i64 mt, .int .i64 mr, .int .i64 mf, .int .i64 mp, .int .i64 ml] 33 := (hb3.block _ M2.lt).trans M2
  have B3 := B2.trans (hb3.mono B2.size)
  clear c0 c1 c2 c3 k0
  go_wp2_with fail
  refine (TC _).out.mono ?_
  rintro _ w4 ⟨rfl, hb4⟩
  have M4 : Blk w4 (w.heap.size + 1) #[.int .i64 mt, .int .i64 mr, .int .i64 mf, .int .i64 mp, .int .i64 ml] 33 := (hb4.block _ M3.lt).trans M3
  have B4 := B3.trans (hb4.mono B3.size)
  go_wp2_with fail
  refine (UC _).out.mono ?_
  rintro _ w5 ⟨rfl, hb5⟩
  have M5 : Blk w5 (w.heap.size + 1) #[.int .i64 mt, .int .i64 mr, .int .i64 mf, .int .i64 mp, .int .i64 ml] 33 := (hb5.block _ M4.lt).trans M4
  have B5 := B4.trans (hb5.mono B4.size)
  obtain ⟨wm, hwm⟩ : ∃ wm, w5.alloc (.cells #[.int .i64 xk, .int .i64 xn, .int .i64 xt, .string xb] 23) = wm := ⟨_, rfl⟩
  have MM : Blk wm (w.heap.size + 1) #[.int .i64 mt, .int .i64 mr, .int .i64 mf, .int .i64 mp, .int .i64 ml] 33 := by rw [← hwm]; exact M5.alloc _
  have BB : Below w.heap.size w wm := by rw [← hwm]; exact B5.alloc B5.size _
  have c0 : wm.cell? ⟨w.heap.size + 1, 0, none⟩ = some (.int .i64 mt) := MM.cell 0
  have c1 : wm.cell? ⟨w.heap.size + 1, 1, none⟩ = some (.int .i64 mr) := MM.cell 1
  have c2 : wm.cell? ⟨w.heap.size + 1, 2, none⟩ = some (.int .i64 mf) := MM.cell 2
  have c3 : wm.cell? ⟨w.heap.size + 1, 3, none⟩ = some (.int .i64 mp) := MM.cell 3
  have c4 : wm.cell? ⟨w.heap.size + 1, 4, none⟩ = some (.int .i64 ml) := MM.cell 4
  go_wp2_with fail
  refine (QC _).out.mono ?_
  rintro _ w6 ⟨rfl, hb6⟩
  have B6 := BB.trans (hb6.mono BB.size)
  clear c0 c1 c2 c3 c4
  go_wp2
  go_ret
  exact ⟨rfl, B6⟩
set_option maxRecDepth 8000 in
set_option maxHeartbeats 1600000 in
theorem tells_11 (K : PageKit 11 9 13 21 17 18 23) (w : World) (kind no txn : Int) (body : ByteArray) (mt mr mf mp ml at_ : Int) (y : Nat) (e g f xk xn xt h zt zr zf zp zl : Int) (S R T xb V : ByteArray)
    (PC : ∀ w, Hid (Calls Try.prog 9 #[.agg #[.int .i64 kind, .int .i64 no, .int .i64 txn, .string body]] w fun e' w' => e' = .returned (.tuple #[.string S, .int .i64 e]) ∧ Below w.heap.size w w'))
    (QC : ∀ w, Hid (Calls Try.prog 17 #[.agg #[.int .i64 mt, .int .i64 mr, .int .i64 mf, .int .i64 mp, .int .i64 ml]] w fun e' w' => e' = .returned (.tuple #[.string R, .int .i64 g]) ∧ Below w.heap.size w w'))
    (TC : ∀ w, Hid (Calls Try.prog 15 #[.string S, .int .i64 at_, .int .u32 y] w fun e' w' => e' = .returned (.string T) ∧ Below w.heap.size w w'))
    (UC : ∀ w, Hid (Calls Try.prog 13 #[.string T] w fun e' w' => e' = .returned (.tuple #[.agg #[.int .i64 xk, .int .i64 xn, .int .i64 xt, .string xb], .int .i64 f]) ∧ Below w.heap.size w w'))
    (TD : ∀ w, Hid (Calls Try.prog 15 #[.string R, .int .i64 at_, .int .u32 y] w fun e' w' => e' = .returned (.string V) ∧ Below w.heap.size w w'))
    (UD : ∀ w, Hid (Calls Try.prog 18 #[.string V] w fun e' w' => e' = .returned (.tuple #[.agg #[.int .i64 zt, .int .i64 zr, .int .i64 zf, .int .i64 zp, .int .i64 zl], .int .i64 h]) ∧ Below w.heap.size w w'))
    (n0 : decide ((2000 : Int) < (body.size : Int)) = false) (y0 : ((y : Int) == 0) = false) (d1 : (e == 0) = true) (d2 : (f == 4) = true) (d3 : (g == 0) = true) (d4 : (h == 4) = true) :
    Calls Try.prog 5 #[.agg #[.int .i64 kind, .int .i64 no, .int .i64 txn, .string body], .agg #[.int .i64 mt, .int .i64 mr, .int .i64 mf, .int .i64 mp, .int .i64 ml], .int .i64 at_, .int .u32 y] w fun e' w' => e' = .returned (.bool true) ∧ Below w.heap.size w w' := by
  have AW := fun w => Lib.hid (pawake_ok K w)
  have d5 : (f != 4) = false := by simp only [bne, d2]; rfl
  have d6 : (h != 4) = false := by simp only [bne, d4]; rfl
  obtain ⟨w0, hw0⟩ : ∃ w0, (w.alloc (.cells #[.int .i64 kind, .int .i64 no, .int .i64 txn, .string body] 23)).alloc (.cells #[.int .i64 mt, .int .i64 mr, .int .i64 mf, .int .i64 mp, .int .i64 ml] 33) = w0 := ⟨_, rfl⟩
  have B0 : Below w.heap.size w w0 := by rw [← hw0]; exact ((Below.refl _ w).alloc (Nat.le_refl _) _).alloc (by simp) _
  have P0 : Blk w0 w.heap.size #[.int .i64 kind, .int .i64 no, .int .i64 txn, .string body] 23 := by rw [← hw0]; exact (Blk.new w _ _).alloc _
  have M0 : Blk w0 (w.heap.size + 1) #[.int .i64 mt, .int .i64 mr, .int .i64 mf, .int .i64 mp, .int .i64 ml] 33 := by rw [← hw0]; have := Blk.new (w.alloc (.cells #[.int .i64 kind, .int .i64 no, .int .i64 txn, .string body] 23)) #[.int .i64 mt, .int .i64 mr, .int .i64 mf, .int .i64 mp, .int .i64 ml] 33; simpa using this
  have k0 : w0.cell? ⟨w.heap.size, 3, none⟩ = some (.string body) := P0.cell 3
  go_enter Try.func5, Try.ntmps5
  go_wp2_with fail
  refine (AW _).out.mono ?_
  rintro _ w2 ⟨rfl, hb2⟩
  have P2 : Blk w2 w.heap.size #[.int .i64 kind, .int .i64 no, .int .i64 txn, .string body] 23 := (hb2.block _ P0.lt).trans P0
  have M2 : Blk w2 (w.heap.size + 1) #[.int .i64 mt, .int .i64 mr, .int .i64 mf, .int .i64 mp, .int .i64 ml] 33 := (hb2.block _ M0.lt).trans M0
  have B2 := B0.trans (hb2.mono B0.size)
  have c0 : w2.cell? ⟨w.heap.size, 0, none⟩ = some (.int .i64 kind) := P2.cell 0
  have c1 : w2.cell? ⟨w.heap.size, 1, none⟩ = some (.int .i64 no) := P2.cell 1
  have c2 : w2.cell? ⟨w.heap.size, 2, none⟩ = some (.int .i64 txn) := P2.cell 2
  have c3 : w2.cell? ⟨w.heap.size, 3, none⟩ = some (.string body) := P2.cell 3
  go_wp2_with fail
  refine (PC _).out.mono ?_
  rintro _ w3 ⟨rfl, hb3⟩
  have M3 : Blk w3 (w.heap.size + 1) #[.int .i64 mt, .int .i64 mr, .int .i64 mf, .int .i64 mp, .int .i64 ml] 33 := (hb3.block _ M2.lt).trans M2
  have B3 := B2.trans (hb3.mono B2.size)
  clear c0 c1 c2 c3 k0
  go_wp2_with fail
  refine (TC _).out.mono ?_
  rintro _ w4 ⟨rfl, hb4⟩
  have M4 : Blk w4 (w.heap.size + 1) #[.int .i64 mt, .int .i64 mr, .int .i64 mf, .int .i64 mp, .int .i64 ml] 33 := (hb4.block _ M3.lt).trans M3
  have B4 := B3.trans (hb4.mono B3.size)
  go_wp2_with fail
  refine (UC _).out.mono ?_
  rintro _ w5 ⟨rfl, hb5⟩
  have M5 : Blk w5 (w.heap.size + 1) #[.int .i64 mt, .int .i64 mr, .int .i64 mf, .int .i64 mp, .int .i64 ml] 33 := (hb5.block _ M4.lt).trans M4
  have B5 := B4.trans (hb5.mono B4.size)
  obtain ⟨wm, hwm⟩ : ∃ wm, w5.alloc (.cells #[.int .i64 xk, .int .i64 xn, .int .i64 xt, .string xb] 23) = wm := ⟨_, rfl⟩
  have MM : Blk wm (w.heap.size + 1) #[.int .i64 mt, .int .i64 mr, .int .i64 mf, .int .i64 mp, .int .i64 ml] 33 := by rw [← hwm]; exact M5.alloc _
  have BB : Below w.heap.size w wm := by rw [← hwm]; exact B5.alloc B5.size _
  have c0 : wm.cell? ⟨w.heap.size + 1, 0, none⟩ = some (.int .i64 mt) := MM.cell 0
  have c1 : wm.cell? ⟨w.heap.size + 1, 1, none⟩ = some (.int .i64 mr) := MM.cell 1
  have c2 : wm.cell? ⟨w.heap.size + 1, 2, none⟩ = some (.int .i64 mf) := MM.cell 2
  have c3 : wm.cell? ⟨w.heap.size + 1, 3, none⟩ = some (.int .i64 mp) := MM.cell 3
  have c4 : wm.cell? ⟨w.heap.size + 1, 4, none⟩ = some (.int .i64 ml) := MM.cell 4
  go_wp2_with fail
  refine (QC _).out.mono ?_
  rintro _ w6 ⟨rfl, hb6⟩
  have B6 := BB.trans (hb6.mono BB.size)
  clear c0 c1 c2 c3 c4
  go_wp2_with fail
  refine (TD _).out.mono ?_
  rintro _ w7 ⟨rfl, hb7⟩
  have B7 := B6.trans (hb7.mono B6.size)
  go_wp2_with fail
  refine (UD _).out.mono ?_
  rintro _ w8 ⟨rfl, hb8⟩
  have B8 := B7.trans (hb8.mono B7.size)
  go_wp2
  go_ret
  exact ⟨rfl, B8.alloc B8.size _⟩
set_option maxRecDepth 8000 in
set_option maxHeartbeats 1600000 in
theorem tells_12 (K : PageKit 11 9 13 21 17 18 23) (w : World) (kind no txn : Int) (body : ByteArray) (mt mr mf mp ml at_ : Int) (y : Nat) (e g f xk xn xt h zt zr zf zp zl : Int) (S R T xb V : ByteArray)
    (PC : ∀ w, Hid (Calls Try.prog 9 #[.agg #[.int .i64 kind, .int .i64 no, .int .i64 txn, .string body]] w fun e' w' => e' = .returned (.tuple #[.string S, .int .i64 e]) ∧ Below w.heap.size w w'))
    (QC : ∀ w, Hid (Calls Try.prog 17 #[.agg #[.int .i64 mt, .int .i64 mr, .int .i64 mf, .int .i64 mp, .int .i64 ml]] w fun e' w' => e' = .returned (.tuple #[.string R, .int .i64 g]) ∧ Below w.heap.size w w'))
    (TC : ∀ w, Hid (Calls Try.prog 15 #[.string S, .int .i64 at_, .int .u32 y] w fun e' w' => e' = .returned (.string T) ∧ Below w.heap.size w w'))
    (UC : ∀ w, Hid (Calls Try.prog 13 #[.string T] w fun e' w' => e' = .returned (.tuple #[.agg #[.int .i64 xk, .int .i64 xn, .int .i64 xt, .string xb], .int .i64 f]) ∧ Below w.heap.size w w'))
    (TD : ∀ w, Hid (Calls Try.prog 15 #[.string R, .int .i64 at_, .int .u32 y] w fun e' w' => e' = .returned (.string V) ∧ Below w.heap.size w w'))
    (UD : ∀ w, Hid (Calls Try.prog 18 #[.string V] w fun e' w' => e' = .returned (.tuple #[.agg #[.int .i64 zt, .int .i64 zr, .int .i64 zf, .int .i64 zp, .int .i64 zl], .int .i64 h]) ∧ Below w.heap.size w w'))
    (MD : ∀ w, Hid (Calls Try.prog 16 #[.string R, .int .i64 at_, .int .u32 y, .int .i64 (32 : Nat)] w fun e' w' => e' = .returned (.bool true) ∧ w = w'))
    (n0 : decide ((2000 : Int) < (body.size : Int)) = false) (y0 : ((y : Int) == 0) = false) (d1 : (e == 0) = true) (d2 : (f == 4) = true) (d3 : (g == 0) = true) (d4 : (h == 4) = false) :
    Calls Try.prog 5 #[.agg #[.int .i64 kind, .int .i64 no, .int .i64 txn, .string body], .agg #[.int .i64 mt, .int .i64 mr, .int .i64 mf, .int .i64 mp, .int .i64 ml], .int .i64 at_, .int .u32 y] w fun e' w' => e' = .returned (.bool true) ∧ Below w.heap.size w w' := by
  have AW := fun w => Lib.hid (pawake_ok K w)
  have d5 : (f != 4) = false := by simp only [bne, d2]; rfl
  have d6 : (h != 4) = true := by simp only [bne, d4]; rfl
  obtain ⟨w0, hw0⟩ : ∃ w0, (w.alloc (.cells #[.int .i64 kind, .int .i64 no, .int .i64 txn, .string body] 23)).alloc (.cells #[.int .i64 mt, .int .i64 mr, .int .i64 mf, .int .i64 mp, .int .i64 ml] 33) = w0 := ⟨_, rfl⟩
  have B0 : Below w.heap.size w w0 := by rw [← hw0]; exact ((Below.refl _ w).alloc (Nat.le_refl _) _).alloc (by simp) _
  have P0 : Blk w0 w.heap.size #[.int .i64 kind, .int .i64 no, .int .i64 txn, .string body] 23 := by rw [← hw0]; exact (Blk.new w _ _).alloc _
  have M0 : Blk w0 (w.heap.size + 1) #[.int .i64 mt, .int .i64 mr, .int .i64 mf, .int .i64 mp, .int .i64 ml] 33 := by rw [← hw0]; have := Blk.new (w.alloc (.cells #[.int .i64 kind, .int .i64 no, .int .i64 txn, .string body] 23)) #[.int .i64 mt, .int .i64 mr, .int .i64 mf, .int .i64 mp, .int .i64 ml] 33; simpa using this
  have k0 : w0.cell? ⟨w.heap.size, 3, none⟩ = some (.string body) := P0.cell 3
  go_enter Try.func5, Try.ntmps5
  go_wp2_with fail
  refine (AW _).out.mono ?_
  rintro _ w2 ⟨rfl, hb2⟩
  have P2 : Blk w2 w.heap.size #[.int .i64 kind, .int .i64 no, .int .i64 txn, .string body] 23 := (hb2.block _ P0.lt).trans P0
  have M2 : Blk w2 (w.heap.size + 1) #[.int .i64 mt, .int .i64 mr, .int .i64 mf, .int .i64 mp, .int .i64 ml] 33 := (hb2.block _ M0.lt).trans M0
  have B2 := B0.trans (hb2.mono B0.size)
  have c0 : w2.cell? ⟨w.heap.size, 0, none⟩ = some (.int .i64 kind) := P2.cell 0
  have c1 : w2.cell? ⟨w.heap.size, 1, none⟩ = some (.int .i64 no) := P2.cell 1
  have c2 : w2.cell? ⟨w.heap.size, 2, none⟩ = some (.int .i64 txn) := P2.cell 2
  have c3 : w2.cell? ⟨w.heap.size, 3, none⟩ = some (.string body) := P2.cell 3
  go_wp2_with fail
  refine (PC _).out.mono ?_
  rintro _ w3 ⟨rfl, hb3⟩
  have M3 : Blk w3 (w.heap.size + 1) #[.int .i64 mt, .int .i64 mr, .int .i64 mf, .int .i64 mp, .int .i64 ml] 33 := (hb3.block _ M2.lt).trans M2
  have B3 := B2.trans (hb3.mono B2.size)
  clear c0 c1 c2 c3 k0
  go_wp2_with fail
  refine (TC _).out.mono ?_
  rintro _ w4 ⟨rfl, hb4⟩
  have M4 : Blk w4 (w.heap.size + 1) #[.int .i64 mt, .int .i64 mr, .int .i64 mf, .int .i64 mp, .int .i64 ml] 33 := (hb4.block _ M3.lt).trans M3
  have B4 := B3.trans (hb4.mono B3.size)
  go_wp2_with fail
  refine (UC _).out.mono ?_
  rintro _ w5 ⟨rfl, hb5⟩
  have M5 : Blk w5 (w.heap.size + 1) #[.int .i64 mt, .int .i64 mr, .int .i64 mf, .int .i64 mp, .int .i64 ml] 33 := (hb5.block _ M4.lt).trans M4
  have B5 := B4.trans (hb5.mono B4.size)
  obtain ⟨wm, hwm⟩ : ∃ wm, w5.alloc (.cells #[.int .i64 xk, .int .i64 xn, .int .i64 xt, .string xb] 23) = wm := ⟨_, rfl⟩
  have MM : Blk wm (w.heap.size + 1) #[.int .i64 mt, .int .i64 mr, .int .i64 mf, .int .i64 mp, .int .i64 ml] 33 := by rw [← hwm]; exact M5.alloc _
  have BB : Below w.heap.size w wm := by rw [← hwm]; exact B5.alloc B5.size _
  have c0 : wm.cell? ⟨w.heap.size + 1, 0, none⟩ = some (.int .i64 mt) := MM.cell 0
  have c1 : wm.cell? ⟨w.heap.size + 1, 1, none⟩ = some (.int .i64 mr) := MM.cell 1
  have c2 : wm.cell? ⟨w.heap.size + 1, 2, none⟩ = some (.int .i64 mf) := MM.cell 2
  have c3 : wm.cell? ⟨w.heap.size + 1, 3, none⟩ = some (.int .i64 mp) := MM.cell 3
  have c4 : wm.cell? ⟨w.heap.size + 1, 4, none⟩ = some (.int .i64 ml) := MM.cell 4
  go_wp2_with fail
  refine (QC _).out.mono ?_
  rintro _ w6 ⟨rfl, hb6⟩
  have B6 := BB.trans (hb6.mono BB.size)
  clear c0 c1 c2 c3 c4
  go_wp2_with fail
  refine (TD _).out.mono ?_
  rintro _ w7 ⟨rfl, hb7⟩
  have B7 := B6.trans (hb7.mono B6.size)
  go_wp2_with fail
  refine (UD _).out.mono ?_
  rintro _ w8 ⟨rfl, hb8⟩
  have B8 := B7.trans (hb8.mono B7.size)
  go_wp2_with fail
  refine (MD _).out.mono ?_
  rintro _ _ ⟨rfl, rfl⟩
  go_wp2
  go_ret
  exact ⟨rfl, B8.alloc B8.size _⟩
set_option maxRecDepth 8000 in
set_option maxHeartbeats 1600000 in
theorem tells_20 (K : PageKit 11 9 13 21 17 18 23) (w : World) (kind no txn : Int) (body : ByteArray) (mt mr mf mp ml at_ : Int) (y : Nat) (e g f xk xn xt : Int) (S R T xb : ByteArray)
    (PC : ∀ w, Hid (Calls Try.prog 9 #[.agg #[.int .i64 kind, .int .i64 no, .int .i64 txn, .string body]] w fun e' w' => e' = .returned (.tuple #[.string S, .int .i64 e]) ∧ Below w.heap.size w w'))
    (QC : ∀ w, Hid (Calls Try.prog 17 #[.agg #[.int .i64 mt, .int .i64 mr, .int .i64 mf, .int .i64 mp, .int .i64 ml]] w fun e' w' => e' = .returned (.tuple #[.string R, .int .i64 g]) ∧ Below w.heap.size w w'))
    (TC : ∀ w, Hid (Calls Try.prog 15 #[.string S, .int .i64 at_, .int .u32 y] w fun e' w' => e' = .returned (.string T) ∧ Below w.heap.size w w'))
    (UC : ∀ w, Hid (Calls Try.prog 13 #[.string T] w fun e' w' => e' = .returned (.tuple #[.agg #[.int .i64 xk, .int .i64 xn, .int .i64 xt, .string xb], .int .i64 f]) ∧ Below w.heap.size w w'))
    (MC : ∀ w, Hid (Calls Try.prog 16 #[.string S, .int .i64 at_, .int .u32 y, .int .i64 (18 : Nat)] w fun e' w' => e' = .returned (.bool true) ∧ w = w'))
    (n0 : decide ((2000 : Int) < (body.size : Int)) = false) (y0 : ((y : Int) == 0) = false) (d1 : (e == 0) = true) (d2 : (f == 4) = false) (d3 : (g == 0) = false) :
    Calls Try.prog 5 #[.agg #[.int .i64 kind, .int .i64 no, .int .i64 txn, .string body], .agg #[.int .i64 mt, .int .i64 mr, .int .i64 mf, .int .i64 mp, .int .i64 ml], .int .i64 at_, .int .u32 y] w fun e' w' => e' = .returned (.bool true) ∧ Below w.heap.size w w' := by
  have AW := fun w => Lib.hid (pawake_ok K w)
  have d5 : (f != 4) = true := by simp only [bne, d2]; rfl
  obtain ⟨w0, hw0⟩ : ∃ w0, (w.alloc (.cells #[.int .i64 kind, .int .i64 no, .int .i64 txn, .string body] 23)).alloc (.cells #[.int .i64 mt, .int .i64 mr, .int .i64 mf, .int .i64 mp, .int .i64 ml] 33) = w0 := ⟨_, rfl⟩
  have B0 : Below w.heap.size w w0 := by rw [← hw0]; exact ((Below.refl _ w).alloc (Nat.le_refl _) _).alloc (by simp) _
  have P0 : Blk w0 w.heap.size #[.int .i64 kind, .int .i64 no, .int .i64 txn, .string body] 23 := by rw [← hw0]; exact (Blk.new w _ _).alloc _
  have M0 : Blk w0 (w.heap.size + 1) #[.int .i64 mt, .int .i64 mr, .int .i64 mf, .int .i64 mp, .int .i64 ml] 33 := by rw [← hw0]; have := Blk.new (w.alloc (.cells #[.int .i64 kind, .int .i64 no, .int .i64 txn, .string body] 23)) #[.int .i64 mt, .int .i64 mr, .int .i64 mf, .int .i64 mp, .int .i64 ml] 33; simpa using this
  have k0 : w0.cell? ⟨w.heap.size, 3, none⟩ = some (.string body) := P0.cell 3
  go_enter Try.func5, Try.ntmps5
  go_wp2_with fail
  refine (AW _).out.mono ?_
  rintro _ w2 ⟨rfl, hb2⟩
  have P2 : Blk w2 w.heap.size #[.int .i64 kind, .int .i64 no, .int .i64 txn, .string body] 23 := (hb2.block _ P0.lt).trans P0
  have M2 : Blk w2 (w.heap.size + 1) #[.int .i64 mt, .int .i64 mr, .int .i64 mf, .int .i64 mp, .int .i64 ml] 33 := (hb2.block _ M0.lt).trans M0
  have B2 := B0.trans (hb2.mono B0.size)
  have c0 : w2.cell? ⟨w.heap.size, 0, none⟩ = some (.int .i64 kind) := P2.cell 0
  have c1 : w2.cell? ⟨w.heap.size, 1, none⟩ = some (.int .i64 no) := P2.cell 1
  have c2 : w2.cell? ⟨w.heap.size, 2, none⟩ = some (.int .i64 txn) := P2.cell 2
  have c3 : w2.cell? ⟨w.heap.size, 3, none⟩ = some (.string body) := P2.cell 3
  go_wp2_with fail
  refine (PC _).out.mono ?_
  rintro _ w3 ⟨rfl, hb3⟩
  have M3 : Blk w3 (w.heap.size + 1) #[.int .i64 mt, .int .i64 mr, .int .i64 mf, .int .i64 mp, .int .i64 ml] 33 := (hb3.block _ M2.lt).trans M2
  have B3 := B2.trans (hb3.mono B2.size)
  clear c0 c1 c2 c3 k0
  go_wp2_with fail
  refine (TC _).out.mono ?_
  rintro _ w4 ⟨rfl, hb4⟩
  have M4 : Blk w4 (w.heap.size + 1) #[.int .i64 mt, .int .i64 mr, .int .i64 mf, .int .i64 mp, .int .i64 ml] 33 := (hb4.block _ M3.lt).trans M3
  have B4 := B3.trans (hb4.mono B3.size)
  go_wp2_with fail
  refine (UC _).out.mono ?_
  rintro _ w5 ⟨rfl, hb5⟩
  have M5 : Blk w5 (w.heap.size + 1) #[.int .i64 mt, .int .i64 mr, .int .i64 mf, .int .i64 mp, .int .i64 ml] 33 := (hb5.block _ M4.lt).trans M4
  have B5 := B4.trans (hb5.mono B4.size)
  obtain ⟨wm, hwm⟩ : ∃ wm, w5.alloc (.cells #[.int .i64 xk, .int .i64 xn, .int .i64 xt, .string xb] 23) = wm := ⟨_, rfl⟩
  have MM : Blk wm (w.heap.size + 1) #[.int .i64 mt, .int .i64 mr, .int .i64 mf, .int .i64 mp, .int .i64 ml] 33 := by rw [← hwm]; exact M5.alloc _
  have BB : Below w.heap.size w wm := by rw [← hwm]; exact B5.alloc B5.size _
  have c0 : wm.cell? ⟨w.heap.size + 1, 0, none⟩ = some (.int .i64 mt) := MM.cell 0
  have c1 : wm.cell? ⟨w.heap.size + 1, 1, none⟩ = some (.int .i64 mr) := MM.cell 1
  have c2 : wm.cell? ⟨w.heap.size + 1, 2, none⟩ = some (.int .i64 mf) := MM.cell 2
  have c3 : wm.cell? ⟨w.heap.size + 1, 3, none⟩ = some (.int .i64 mp) := MM.cell 3
  have c4 : wm.cell? ⟨w.heap.size + 1, 4, none⟩ = some (.int .i64 ml) := MM.cell 4
  go_wp2_with fail
  refine (MC _).out.mono ?_
  rintro _ _ ⟨rfl, rfl⟩
  go_wp2_with fail
  refine (QC _).out.mono ?_
  rintro _ w6 ⟨rfl, hb6⟩
  have B6 := BB.trans (hb6.mono BB.size)
  clear c0 c1 c2 c3 c4
  go_wp2
  go_ret
  exact ⟨rfl, B6⟩
set_option maxRecDepth 8000 in
set_option maxHeartbeats 1600000 in
theorem tells_21 (K : PageKit 11 9 13 21 17 18 23) (w : World) (kind no txn : Int) (body : ByteArray) (mt mr mf mp ml at_ : Int) (y : Nat) (e g f xk xn xt h zt zr zf zp zl : Int) (S R T xb V : ByteArray)
    (PC : ∀ w, Hid (Calls Try.prog 9 #[.agg #[.int .i64 kind, .int .i64 no, .int .i64 txn, .string body]] w fun e' w' => e' = .returned (.tuple #[.string S, .int .i64 e]) ∧ Below w.heap.size w w'))
    (QC : ∀ w, Hid (Calls Try.prog 17 #[.agg #[.int .i64 mt, .int .i64 mr, .int .i64 mf, .int .i64 mp, .int .i64 ml]] w fun e' w' => e' = .returned (.tuple #[.string R, .int .i64 g]) ∧ Below w.heap.size w w'))
    (TC : ∀ w, Hid (Calls Try.prog 15 #[.string S, .int .i64 at_, .int .u32 y] w fun e' w' => e' = .returned (.string T) ∧ Below w.heap.size w w'))
    (UC : ∀ w, Hid (Calls Try.prog 13 #[.string T] w fun e' w' => e' = .returned (.tuple #[.agg #[.int .i64 xk, .int .i64 xn, .int .i64 xt, .string xb], .int .i64 f]) ∧ Below w.heap.size w w'))
    (MC : ∀ w, Hid (Calls Try.prog 16 #[.string S, .int .i64 at_, .int .u32 y, .int .i64 (18 : Nat)] w fun e' w' => e' = .returned (.bool true) ∧ w = w'))
    (TD : ∀ w, Hid (Calls Try.prog 15 #[.string R, .int .i64 at_, .int .u32 y] w fun e' w' => e' = .returned (.string V) ∧ Below w.heap.size w w'))
    (UD : ∀ w, Hid (Calls Try.prog 18 #[.string V] w fun e' w' => e' = .returned (.tuple #[.agg #[.int .i64 zt, .int .i64 zr, .int .i64 zf, .int .i64 zp, .int .i64 zl], .int .i64 h]) ∧ Below w.heap.size w w'))
    (n0 : decide ((2000 : Int) < (body.size : Int)) = false) (y0 : ((y : Int) == 0) = false) (d1 : (e == 0) = true) (d2 : (f == 4) = false) (d3 : (g == 0) = true) (d4 : (h == 4) = true) :
    Calls Try.prog 5 #[.agg #[.int .i64 kind, .int .i64 no, .int .i64 txn, .string body], .agg #[.int .i64 mt, .int .i64 mr, .int .i64 mf, .int .i64 mp, .int .i64 ml], .int .i64 at_, .int .u32 y] w fun e' w' => e' = .returned (.bool true) ∧ Below w.heap.size w w' := by
  have AW := fun w => Lib.hid (pawake_ok K w)
  have d5 : (f != 4) = true := by simp only [bne, d2]; rfl
  have d6 : (h != 4) = false := by simp only [bne, d4]; rfl
  obtain ⟨w0, hw0⟩ : ∃ w0, (w.alloc (.cells #[.int .i64 kind, .int .i64 no, .int .i64 txn, .string body] 23)).alloc (.cells #[.int .i64 mt, .int .i64 mr, .int .i64 mf, .int .i64 mp, .int .i64 ml] 33) = w0 := ⟨_, rfl⟩
  have B0 : Below w.heap.size w w0 := by rw [← hw0]; exact ((Below.refl _ w).alloc (Nat.le_refl _) _).alloc (by simp) _
  have P0 : Blk w0 w.heap.size #[.int .i64 kind, .int .i64 no, .int .i64 txn, .string body] 23 := by rw [← hw0]; exact (Blk.new w _ _).alloc _
  have M0 : Blk w0 (w.heap.size + 1) #[.int .i64 mt, .int .i64 mr, .int .i64 mf, .int .i64 mp, .int .i64 ml] 33 := by rw [← hw0]; have := Blk.new (w.alloc (.cells #[.int .i64 kind, .int .i64 no, .int .i64 txn, .string body] 23)) #[.int .i64 mt, .int .i64 mr, .int .i64 mf, .int .i64 mp, .int .i64 ml] 33; simpa using this
  have k0 : w0.cell? ⟨w.heap.size, 3, none⟩ = some (.string body) := P0.cell 3
  go_enter Try.func5, Try.ntmps5
  go_wp2_with fail
  refine (AW _).out.mono ?_
  rintro _ w2 ⟨rfl, hb2⟩
  have P2 : Blk w2 w.heap.size #[.int .i64 kind, .int .i64 no, .int .i64 txn, .string body] 23 := (hb2.block _ P0.lt).trans P0
  have M2 : Blk w2 (w.heap.size + 1) #[.int .i64 mt, .int .i64 mr, .int .i64 mf, .int .i64 mp, .int .i64 ml] 33 := (hb2.block _ M0.lt).trans M0
  have B2 := B0.trans (hb2.mono B0.size)
  have c0 : w2.cell? ⟨w.heap.size, 0, none⟩ = some (.int .i64 kind) := P2.cell 0
  have c1 : w2.cell? ⟨w.heap.size, 1, none⟩ = some (.int .i64 no) := P2.cell 1
  have c2 : w2.cell? ⟨w.heap.size, 2, none⟩ = some (.int .i64 txn) := P2.cell 2
  have c3 : w2.cell? ⟨w.heap.size, 3, none⟩ = some (.string body) := P2.cell 3
  go_wp2_with fail
  refine (PC _).out.mono ?_
  rintro _ w3 ⟨rfl, hb3⟩
  have M3 : Blk w3 (w.heap.size + 1) #[.int .i64 mt, .int .i64 mr, .int .i64 mf, .int .i64 mp, .int .i64 ml] 33 := (hb3.block _ M2.lt).trans M2
  have B3 := B2.trans (hb3.mono B2.size)
  clear c0 c1 c2 c3 k0
  go_wp2_with fail
  refine (TC _).out.mono ?_
  rintro _ w4 ⟨rfl, hb4⟩
  have M4 : Blk w4 (w.heap.size + 1) #[.int .i64 mt, .int .i64 mr, .int .i64 mf, .int .i64 mp, .int .i64 ml] 33 := (hb4.block _ M3.lt).trans M3
  have B4 := B3.trans (hb4.mono B3.size)
  go_wp2_with fail
  refine (UC _).out.mono ?_
  rintro _ w5 ⟨rfl, hb5⟩
  have M5 : Blk w5 (w.heap.size + 1) #[.int .i64 mt, .int .i64 mr, .int .i64 mf, .int .i64 mp, .int .i64 ml] 33 := (hb5.block _ M4.lt).trans M4
  have B5 := B4.trans (hb5.mono B4.size)
  obtain ⟨wm, hwm⟩ : ∃ wm, w5.alloc (.cells #[.int .i64 xk, .int .i64 xn, .int .i64 xt, .string xb] 23) = wm := ⟨_, rfl⟩
  have MM : Blk wm (w.heap.size + 1) #[.int .i64 mt, .int .i64 mr, .int .i64 mf, .int .i64 mp, .int .i64 ml] 33 := by rw [← hwm]; exact M5.alloc _
  have BB : Below w.heap.size w wm := by rw [← hwm]; exact B5.alloc B5.size _
  have c0 : wm.cell? ⟨w.heap.size + 1, 0, none⟩ = some (.int .i64 mt) := MM.cell 0
  have c1 : wm.cell? ⟨w.heap.size + 1, 1, none⟩ = some (.int .i64 mr) := MM.cell 1
  have c2 : wm.cell? ⟨w.heap.size + 1, 2, none⟩ = some (.int .i64 mf) := MM.cell 2
  have c3 : wm.cell? ⟨w.heap.size + 1, 3, none⟩ = some (.int .i64 mp) := MM.cell 3
  have c4 : wm.cell? ⟨w.heap.size + 1, 4, none⟩ = some (.int .i64 ml) := MM.cell 4
  go_wp2_with fail
  refine (MC _).out.mono ?_
  rintro _ _ ⟨rfl, rfl⟩
  go_wp2_with fail
  refine (QC _).out.mono ?_
  rintro _ w6 ⟨rfl, hb6⟩
  have B6 := BB.trans (hb6.mono BB.size)
  clear c0 c1 c2 c3 c4
  go_wp2_with fail
  refine (TD _).out.mono ?_
  rintro _ w7 ⟨rfl, hb7⟩
  have B7 := B6.trans (hb7.mono B6.size)
  go_wp2_with fail
  refine (UD _).out.mono ?_
  rintro _ w8 ⟨rfl, hb8⟩
  have B8 := B7.trans (hb8.mono B7.size)
  go_wp2
  go_ret
  exact ⟨rfl, B8.alloc B8.size _⟩
set_option maxRecDepth 8000 in
set_option maxHeartbeats 1600000 in
theorem tells_22 (K : PageKit 11 9 13 21 17 18 23) (w : World) (kind no txn : Int) (body : ByteArray) (mt mr mf mp ml at_ : Int) (y : Nat) (e g f xk xn xt h zt zr zf zp zl : Int) (S R T xb V : ByteArray)
    (PC : ∀ w, Hid (Calls Try.prog 9 #[.agg #[.int .i64 kind, .int .i64 no, .int .i64 txn, .string body]] w fun e' w' => e' = .returned (.tuple #[.string S, .int .i64 e]) ∧ Below w.heap.size w w'))
    (QC : ∀ w, Hid (Calls Try.prog 17 #[.agg #[.int .i64 mt, .int .i64 mr, .int .i64 mf, .int .i64 mp, .int .i64 ml]] w fun e' w' => e' = .returned (.tuple #[.string R, .int .i64 g]) ∧ Below w.heap.size w w'))
    (TC : ∀ w, Hid (Calls Try.prog 15 #[.string S, .int .i64 at_, .int .u32 y] w fun e' w' => e' = .returned (.string T) ∧ Below w.heap.size w w'))
    (UC : ∀ w, Hid (Calls Try.prog 13 #[.string T] w fun e' w' => e' = .returned (.tuple #[.agg #[.int .i64 xk, .int .i64 xn, .int .i64 xt, .string xb], .int .i64 f]) ∧ Below w.heap.size w w'))
    (MC : ∀ w, Hid (Calls Try.prog 16 #[.string S, .int .i64 at_, .int .u32 y, .int .i64 (18 : Nat)] w fun e' w' => e' = .returned (.bool true) ∧ w = w'))
    (TD : ∀ w, Hid (Calls Try.prog 15 #[.string R, .int .i64 at_, .int .u32 y] w fun e' w' => e' = .returned (.string V) ∧ Below w.heap.size w w'))
    (UD : ∀ w, Hid (Calls Try.prog 18 #[.string V] w fun e' w' => e' = .returned (.tuple #[.agg #[.int .i64 zt, .int .i64 zr, .int .i64 zf, .int .i64 zp, .int .i64 zl], .int .i64 h]) ∧ Below w.heap.size w w'))
    (MD : ∀ w, Hid (Calls Try.prog 16 #[.string R, .int .i64 at_, .int .u32 y, .int .i64 (32 : Nat)] w fun e' w' => e' = .returned (.bool true) ∧ w = w'))
    (n0 : decide ((2000 : Int) < (body.size : Int)) = false) (y0 : ((y : Int) == 0) = false) (d1 : (e == 0) = true) (d2 : (f == 4) = false) (d3 : (g == 0) = true) (d4 : (h == 4) = false) :
    Calls Try.prog 5 #[.agg #[.int .i64 kind, .int .i64 no, .int .i64 txn, .string body], .agg #[.int .i64 mt, .int .i64 mr, .int .i64 mf, .int .i64 mp, .int .i64 ml], .int .i64 at_, .int .u32 y] w fun e' w' => e' = .returned (.bool true) ∧ Below w.heap.size w w' := by
  have AW := fun w => Lib.hid (pawake_ok K w)
  have d5 : (f != 4) = true := by simp only [bne, d2]; rfl
  have d6 : (h != 4) = true := by simp only [bne, d4]; rfl
  obtain ⟨w0, hw0⟩ : ∃ w0, (w.alloc (.cells #[.int .i64 kind, .int .i64 no, .int .i64 txn, .string body] 23)).alloc (.cells #[.int .i64 mt, .int .i64 mr, .int .i64 mf, .int .i64 mp, .int .i64 ml] 33) = w0 := ⟨_, rfl⟩
  have B0 : Below w.heap.size w w0 := by rw [← hw0]; exact ((Below.refl _ w).alloc (Nat.le_refl _) _).alloc (by simp) _
  have P0 : Blk w0 w.heap.size #[.int .i64 kind, .int .i64 no, .int .i64 txn, .string body] 23 := by rw [← hw0]; exact (Blk.new w _ _).alloc _
  have M0 : Blk w0 (w.heap.size + 1) #[.int .i64 mt, .int .i64 mr, .int .i64 mf, .int .i64 mp, .int .i64 ml] 33 := by rw [← hw0]; have := Blk.new (w.alloc (.cells #[.int .i64 kind, .int .i64 no, .int .i64 txn, .string body] 23)) #[.int .i64 mt, .int .i64 mr, .int .i64 mf, .int .i64 mp, .int .i64 ml] 33; simpa using this
  have k0 : w0.cell? ⟨w.heap.size, 3, none⟩ = some (.string body) := P0.cell 3
  go_enter Try.func5, Try.ntmps5
  go_wp2_with fail
  refine (AW _).out.mono ?_
  rintro _ w2 ⟨rfl, hb2⟩
  have P2 : Blk w2 w.heap.size #[.int .i64 kind, .int .i64 no, .int .i64 txn, .string body] 23 := (hb2.block _ P0.lt).trans P0
  have M2 : Blk w2 (w.heap.size + 1) #[.int .i64 mt, .int .i64 mr, .int .i64 mf, .int .i64 mp, .int .i64 ml] 33 := (hb2.block _ M0.lt).trans M0
  have B2 := B0.trans (hb2.mono B0.size)
  have c0 : w2.cell? ⟨w.heap.size, 0, none⟩ = some (.int .i64 kind) := P2.cell 0
  have c1 : w2.cell? ⟨w.heap.size, 1, none⟩ = some (.int .i64 no) := P2.cell 1
  have c2 : w2.cell? ⟨w.heap.size, 2, none⟩ = some (.int .i64 txn) := P2.cell 2
  have c3 : w2.cell? ⟨w.heap.size, 3, none⟩ = some (.string body) := P2.cell 3
  go_wp2_with fail
  refine (PC _).out.mono ?_
  rintro _ w3 ⟨rfl, hb3⟩
  have M3 : Blk w3 (w.heap.size + 1) #[.int .i64 mt, .int .i64 mr, .int .i64 mf, .int .i64 mp, .int .i64 ml] 33 := (hb3.block _ M2.lt).trans M2
  have B3 := B2.trans (hb3.mono B2.size)
  clear c0 c1 c2 c3 k0
  go_wp2_with fail
  refine (TC _).out.mono ?_
  rintro _ w4 ⟨rfl, hb4⟩
  have M4 : Blk w4 (w.heap.size + 1) #[.int .i64 mt, .int .i64 mr, .int .i64 mf, .int .i64 mp, .int .i64 ml] 33 := (hb4.block _ M3.lt).trans M3
  have B4 := B3.trans (hb4.mono B3.size)
  go_wp2_with fail
  refine (UC _).out.mono ?_
  rintro _ w5 ⟨rfl, hb5⟩
  have M5 : Blk w5 (w.heap.size + 1) #[.int .i64 mt, .int .i64 mr, .int .i64 mf, .int .i64 mp, .int .i64 ml] 33 := (hb5.block _ M4.lt).trans M4
  have B5 := B4.trans (hb5.mono B4.size)
  obtain ⟨wm, hwm⟩ : ∃ wm, w5.alloc (.cells #[.int .i64 xk, .int .i64 xn, .int .i64 xt, .string xb] 23) = wm := ⟨_, rfl⟩
  have MM : Blk wm (w.heap.size + 1) #[.int .i64 mt, .int .i64 mr, .int .i64 mf, .int .i64 mp, .int .i64 ml] 33 := by rw [← hwm]; exact M5.alloc _
  have BB : Below w.heap.size w wm := by rw [← hwm]; exact B5.alloc B5.size _
  have c0 : wm.cell? ⟨w.heap.size + 1, 0, none⟩ = some (.int .i64 mt) := MM.cell 0
  have c1 : wm.cell? ⟨w.heap.size + 1, 1, none⟩ = some (.int .i64 mr) := MM.cell 1
  have c2 : wm.cell? ⟨w.heap.size + 1, 2, none⟩ = some (.int .i64 mf) := MM.cell 2
  have c3 : wm.cell? ⟨w.heap.size + 1, 3, none⟩ = some (.int .i64 mp) := MM.cell 3
  have c4 : wm.cell? ⟨w.heap.size + 1, 4, none⟩ = some (.int .i64 ml) := MM.cell 4
  go_wp2_with fail
  refine (MC _).out.mono ?_
  rintro _ _ ⟨rfl, rfl⟩
  go_wp2_with fail
  refine (QC _).out.mono ?_
  rintro _ w6 ⟨rfl, hb6⟩
  have B6 := BB.trans (hb6.mono BB.size)
  clear c0 c1 c2 c3 c4
  go_wp2_with fail
  refine (TD _).out.mono ?_
  rintro _ w7 ⟨rfl, hb7⟩
  have B7 := B6.trans (hb7.mono B6.size)
  go_wp2_with fail
  refine (UD _).out.mono ?_
  rintro _ w8 ⟨rfl, hb8⟩
  have B8 := B7.trans (hb8.mono B7.size)
  go_wp2_with fail
  refine (MD _).out.mono ?_
  rintro _ _ ⟨rfl, rfl⟩
  go_wp2
  go_ret
  exact ⟨rfl, B8.alloc B8.size _⟩
end Go.Proofs.Ytnhnfabgofncaaa
