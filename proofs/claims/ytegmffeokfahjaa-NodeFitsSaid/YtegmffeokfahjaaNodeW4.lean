/-
  The statement's function NodeFits, on: cells that fit in a page, and one more. Over any functions that meet the kit. No conditions but those typed.
-/
import Derived.Test.YtegmffeokfahjaaNodeW3
namespace Go.Proofs.Ytegmffeokfahjaa
open Go.RowKit
theorem fit_mod (x n p : Nat) (hp : x % (n + 1) = p) (hn : n ≤ 600) : wrap64 ((x : Int) % ((n : Int) + 1)) = p := by
  have h1 : (x : Int) % ((n : Int) + 1) = (p : Int) := by
    rw [← hp]
    exact (Int.natCast_emod x (n + 1)).symm
  rw [h1]
  have : p < n + 1 := by rw [← hp]; exact Nat.mod_lt x (by omega)
  exact IntWalk.wrap64_in _ (by omega)
theorem fit_wrap (at_ : Int) (x : Nat) (hx : (at_ % 18446744073709551616).toNat = x) : IntKind.u64.wrap at_ = x := by
  rw [← hx]
  have h0 : IntKind.u64.wrap at_ = at_ % 18446744073709551616 := rfl
  rw [h0]
  omega
set_option maxRecDepth 100000 in
set_option maxHeartbeats 3200000 in
theorem nfits_off (K : LandNode) (w : World) (leaf : Bool) (v : Value) (l : List CV) (at_ : Int) (c : CV) (hc : CellsAt w v l) (hB : longB l = false) (hB1 : longB [c] = false) (hl2 : 2 ≤ l.length) (h : Node.encE leaf l ≠ 0 ∨ c.ok leaf = false) : Calls Try.prog 8 #[.bool leaf, v, .int .i64 at_, c.v] w fun e w' => e = .returned (.bool true) ∧ Below w.heap.size w w' := by
  obtain ⟨wA, hwA⟩ : ∃ wA, w.alloc (.cells #[.string c.key, .string c.val, .int .i64 c.over, .int .i64 c.size, .int .i64 c.child] 35) = wA := ⟨_, rfl⟩
  have HBA : Hid (Below w.heap.size w wA) := Lib.hid (hwA ▸ (Below.refl _ w).alloc (Nat.le_refl _) _)
  have AC := Lib.hid (nawake_ok K wA)
  have LC := Lib.hid (fun w1 (hh : Below w.heap.size w w1) => nlong_ok w1 v l (hc.below hh))
  have L1 := Lib.hid (fun w1 => nlong_ok _ _ [c] (one_cell w1 c))
  have HX : Hid (Blk wA w.heap.size #[.string c.key, .string c.val, .int .i64 c.over, .int .i64 c.size, .int .i64 c.child] 35) := Lib.hid (hwA ▸ Blk.new w _ _)
  have EC := Lib.hid (fun w1 (hh : Below w.heap.size w w1) => K.encode w1 leaf v l (hc.below hh) (longB_bnd hB))
  have CC := Lib.hid (fun w1 => rcell_ok w1 leaf c)
  rw [hB] at LC
  simp only [hB1] at L1
  obtain ⟨A, cap, rfl, _, _⟩ := hc.form
  obtain ⟨S, hS⟩ : ∃ S, Node.encS leaf l = S := ⟨_, rfl⟩
  obtain ⟨E, hE⟩ : ∃ E, Node.encE leaf l = E := ⟨_, rfl⟩
  obtain ⟨O, hO⟩ : ∃ O, c.ok leaf = O := ⟨_, rfl⟩
  simp only [hS, hE] at EC
  simp only [hO] at CC
  rw [hE, hO] at h
  have hl6 := (longB_not hB).1
  have d1 : decide ((l.length : Int) < 2) = false := decide_eq_false (by omega)
  obtain ⟨key, val, over, size, child⟩ := c
  unfold CV.v at CC ⊢
  simp only at L1 HX hwA CC ⊢
  clear hc hB hB1 hS hE hO
  by_cases hE0 : E = 0
  case neg =>
    have d2 : (E != 0) = true := by simpa using hE0
    clear h hE0
    go_enter Try.func8, Try.ntmps8
    go_wp2_with fail
    refine AC.out.mono ?_
    rintro _ w1 ⟨rfl, hb1⟩
    have hB1 := HBA.out.trans (hb1.mono HBA.out.size)
    go_wp2_with fail
    refine (LC.out w1 hB1).mono ?_
    rintro _ w2 ⟨rfl, hb2⟩
    have hX2 := (hb2.block _ (Nat.lt_of_lt_of_le HX.out.lt hb1.size)).trans ((hb1.block _ HX.out.lt).trans HX.out)
    have y0 : w2.cell? ⟨w.heap.size, 0, none⟩ = some (.string key) := Blk.cell hX2 0
    have y1 : w2.cell? ⟨w.heap.size, 1, none⟩ = some (.string val) := Blk.cell hX2 1
    have y2 : w2.cell? ⟨w.heap.size, 2, none⟩ = some (.int .i64 over) := Blk.cell hX2 2
    have y3 : w2.cell? ⟨w.heap.size, 3, none⟩ = some (.int .i64 size) := Blk.cell hX2 3
    have y4 : w2.cell? ⟨w.heap.size, 4, none⟩ = some (.int .i64 child) := Blk.cell hX2 4
    have hB2 := hB1.trans (hb2.mono hB1.size)
    have HB3 := Lib.hid (hB2.alloc hB2.size (.cells #[.string key, .string val, .int .i64 over, .int .i64 size, .int .i64 child] 35))
    have HX3 : Hid (Blk (w2.alloc (.cells #[.string key, .string val, .int .i64 over, .int .i64 size, .int .i64 child] 35)) w.heap.size #[.string key, .string val, .int .i64 over, .int .i64 size, .int .i64 child] 35) := Lib.hid (Blk.alloc hX2 _)
    have L2 := Lib.hid (L1.out w2)
    clear hb1 hb2 hB1 hB2 hX2
    go_wp2_with fail
    refine L2.out.mono ?_
    rintro _ w3 ⟨rfl, hb3⟩
    have hX3 := (hb3.block _ HX3.out.lt).trans HX3.out
    have hB3 := HB3.out.trans (hb3.mono HB3.out.size)
    clear y0 y1 y2 y3 y4
    go_wp2_with fail
    refine (EC.out w3 hB3).mono ?_
    rintro _ w4 ⟨rfl, hb4⟩
    have hX4 : Blk w4 w.heap.size #[.string key, .string val, .int .i64 over, .int .i64 size, .int .i64 child] 35 := (hb4.block _ (Blk.lt hX3)).trans hX3
    have HX4 := Lib.hid hX4
    have HB4 := Lib.hid (hB3.trans (hb4.mono hB3.size))
    have y0 : w4.cell? ⟨w.heap.size, 0, none⟩ = some (.string key) := hX4.cell 0
    have y1 : w4.cell? ⟨w.heap.size, 1, none⟩ = some (.string val) := hX4.cell 1
    have y2 : w4.cell? ⟨w.heap.size, 2, none⟩ = some (.int .i64 over) := hX4.cell 2
    have y3 : w4.cell? ⟨w.heap.size, 3, none⟩ = some (.int .i64 size) := hX4.cell 3
    have y4 : w4.cell? ⟨w.heap.size, 4, none⟩ = some (.int .i64 child) := hX4.cell 4
    clear hb3 hb4 hX3 hB3 hX4
    go_wp2
    go_ret
    exact ⟨rfl, HB4.out⟩
  case pos =>
    have d2 : (E != 0) = false := by rw [hE0]; rfl
    have hO := h.resolve_left (by simp [hE0])
    subst hO
    clear h hE0
    go_enter Try.func8, Try.ntmps8
    go_wp2_with fail
    refine AC.out.mono ?_
    rintro _ w1 ⟨rfl, hb1⟩
    have hB1 := HBA.out.trans (hb1.mono HBA.out.size)
    go_wp2_with fail
    refine (LC.out w1 hB1).mono ?_
    rintro _ w2 ⟨rfl, hb2⟩
    have hX2 := (hb2.block _ (Nat.lt_of_lt_of_le HX.out.lt hb1.size)).trans ((hb1.block _ HX.out.lt).trans HX.out)
    have y0 : w2.cell? ⟨w.heap.size, 0, none⟩ = some (.string key) := Blk.cell hX2 0
    have y1 : w2.cell? ⟨w.heap.size, 1, none⟩ = some (.string val) := Blk.cell hX2 1
    have y2 : w2.cell? ⟨w.heap.size, 2, none⟩ = some (.int .i64 over) := Blk.cell hX2 2
    have y3 : w2.cell? ⟨w.heap.size, 3, none⟩ = some (.int .i64 size) := Blk.cell hX2 3
    have y4 : w2.cell? ⟨w.heap.size, 4, none⟩ = some (.int .i64 child) := Blk.cell hX2 4
    have hB2 := hB1.trans (hb2.mono hB1.size)
    have HB3 := Lib.hid (hB2.alloc hB2.size (.cells #[.string key, .string val, .int .i64 over, .int .i64 size, .int .i64 child] 35))
    have HX3 : Hid (Blk (w2.alloc (.cells #[.string key, .string val, .int .i64 over, .int .i64 size, .int .i64 child] 35)) w.heap.size #[.string key, .string val, .int .i64 over, .int .i64 size, .int .i64 child] 35) := Lib.hid (Blk.alloc hX2 _)
    have L2 := Lib.hid (L1.out w2)
    clear hb1 hb2 hB1 hB2 hX2
    go_wp2_with fail
    refine L2.out.mono ?_
    rintro _ w3 ⟨rfl, hb3⟩
    have hX3 := (hb3.block _ HX3.out.lt).trans HX3.out
    have hB3 := HB3.out.trans (hb3.mono HB3.out.size)
    clear y0 y1 y2 y3 y4
    go_wp2_with fail
    refine (EC.out w3 hB3).mono ?_
    rintro _ w4 ⟨rfl, hb4⟩
    have hX4 : Blk w4 w.heap.size #[.string key, .string val, .int .i64 over, .int .i64 size, .int .i64 child] 35 := (hb4.block _ (Blk.lt hX3)).trans hX3
    have HX4 := Lib.hid hX4
    have HB4 := Lib.hid (hB3.trans (hb4.mono hB3.size))
    have y0 : w4.cell? ⟨w.heap.size, 0, none⟩ = some (.string key) := hX4.cell 0
    have y1 : w4.cell? ⟨w.heap.size, 1, none⟩ = some (.string val) := hX4.cell 1
    have y2 : w4.cell? ⟨w.heap.size, 2, none⟩ = some (.int .i64 over) := hX4.cell 2
    have y3 : w4.cell? ⟨w.heap.size, 3, none⟩ = some (.int .i64 size) := hX4.cell 3
    have y4 : w4.cell? ⟨w.heap.size, 4, none⟩ = some (.int .i64 child) := hX4.cell 4
    clear hb3 hb4 hX3 hB3 hX4
    go_wp2_with fail
    refine (CC.out w4).mono ?_
    rintro _ w5 ⟨rfl, hb5⟩
    go_wp2
    go_ret
    exact ⟨rfl, HB4.out.trans (hb5.mono HB4.out.size)⟩
set_option maxRecDepth 100000 in
set_option maxHeartbeats 6400000 in
theorem nfits_true (K : LandNode) (w : World) (v : Value) (l : List CV) (at_ : Int) (c : CV) (hc : CellsAt w v l) (hB : longB l = false) (hB1 : longB [c] = false) (hl2 : 2 ≤ l.length) (hE0 : Node.encE true l = 0) (hO : c.ok true = true) : Calls Try.prog 8 #[.bool true, v, .int .i64 at_, c.v] w fun e w' => e = .returned (.bool true) ∧ Below w.heap.size w w' := by
  obtain ⟨wA, hwA⟩ : ∃ wA, w.alloc (.cells #[.string c.key, .string c.val, .int .i64 c.over, .int .i64 c.size, .int .i64 c.child] 35) = wA := ⟨_, rfl⟩
  have HBA : Hid (Below w.heap.size w wA) := Lib.hid (hwA ▸ (Below.refl _ w).alloc (Nat.le_refl _) _)
  have AC := Lib.hid (nawake_ok K wA)
  have LC := Lib.hid (fun w1 (hh : Below w.heap.size w w1) => nlong_ok w1 v l (hc.below hh))
  have L1 := Lib.hid (fun w1 => nlong_ok _ _ [c] (one_cell w1 c))
  have HX : Hid (Blk wA w.heap.size #[.string c.key, .string c.val, .int .i64 c.over, .int .i64 c.size, .int .i64 c.child] 35) := Lib.hid (hwA ▸ Blk.new w _ _)
  have EC := Lib.hid (fun w1 (hh : Below w.heap.size w w1) => K.encode w1 true v l (hc.below hh) (longB_bnd hB))
  have CC := Lib.hid (fun w1 => rcell_ok w1 true c)
  rw [hB] at LC
  simp only [hB1] at L1
  have hf := enc_same true l hE0
  have hl6 := (longB_not hB).1
  have hfit : Node.countV true l ≤ 488 := by
    have := hf
    unfold Node.fits at this
    simp only [Bool.and_eq_true, decide_eq_true_eq] at this
    exact this.2
  obtain ⟨A, cap, rfl, hcap, hcap2⟩ := hc.form
  obtain ⟨b, off, hA, hbl, _⟩ := hc.get 0 (by omega)
  subst hA
  obtain ⟨m, hm⟩ : ∃ m, min l.length 2 = m := ⟨_, rfl⟩
  have CF := Lib.hid (fun w1 (hh : Below w.heap.size w w1) => rcount_ok w1 true _ _ ((hc.below hh).cut 0 m (Nat.zero_le _) (by omega)) ((longB_bnd hB).cut 0 m))
  obtain ⟨nf, hnf⟩ : ∃ n, Node.countV true ((l.take m).drop 0) = n := ⟨_, rfl⟩
  simp only [hnf] at CF
  have hnf2 : nf ≤ 488 := by rw [← hnf, List.drop_zero]; have := Node.count_take_le true l m; omega
  have d5 : decide ((488 : Int) < (nf : Int)) = false := decide_eq_false (by omega)
  have d5' : decide (488 < nf) = false := decide_eq_false (by omega)
  have s0 := fun w => cut_hi w (some ⟨b, off, none⟩) l.length cap m (by omega)
  obtain ⟨V0, hV0⟩ : ∃ V, sliced (some ⟨b, off, none⟩) 0 m cap 5 = V := ⟨_, rfl⟩
  simp only [hV0] at s0 CF
  obtain ⟨S, hS⟩ : ∃ S, Node.encS true l = S := ⟨_, rfl⟩
  simp only [hS, hE0] at EC
  simp only [hO] at CC
  have d1 : decide ((l.length : Int) < 2) = false := decide_eq_false (by omega)
  have hmn : ∀ (ts : Array TypeId) (t : TypeId) (w : World), (Builtin.min_ ts t #[.int .i64 (l.length : Int), .int .i64 2]).run Try.prog w = .ok (.int .i64 (m : Int)) w := fun ts t w => by
    rw [run_min_int2]
    congr 2
    split <;> omega
  obtain ⟨x, hw1⟩ : ∃ x : Nat, IntKind.u64.wrap at_ = x := ⟨_, fit_wrap at_ _ rfl⟩
  obtain ⟨p, hp⟩ : ∃ p, x % (l.length + 1) = p := ⟨_, rfl⟩
  have hw2 := fit_mod x l.length p hp (by omega)
  have hpl : p ≤ l.length := by rw [← hp]; exact Nat.le_of_lt_succ (Nat.mod_lt x (Nat.succ_pos _))
  clear hp
  have HCL := Lib.hid hc
  have HF := Lib.hid hf
  have HO := Lib.hid hO
  have HBN := Lib.hid (longB_not hB)
  have HB1 := Lib.hid (longB_not hB1)
  have HL2 := Lib.hid hl2
  have hz2 : ∀ w, (zeroValue 22).run Try.prog w = .ok (.slice none 0 0) w := fun w => by kernel_rfl
  obtain ⟨key, val, over, size, child⟩ := c
  unfold CV.v at CC ⊢
  simp only at L1 HX hwA CC ⊢
  clear hc hB hB1 hS hE0 hO hf hfit hnf hV0
  go_enter Try.func8, Try.ntmps8
  go_wp2_with fail
  refine AC.out.mono ?_
  rintro _ w1 ⟨rfl, hb1⟩
  have hB1 := HBA.out.trans (hb1.mono HBA.out.size)
  go_wp2_with fail
  refine (LC.out w1 hB1).mono ?_
  rintro _ w2 ⟨rfl, hb2⟩
  have hX2 := (hb2.block _ (Nat.lt_of_lt_of_le HX.out.lt hb1.size)).trans ((hb1.block _ HX.out.lt).trans HX.out)
  have y0 : w2.cell? ⟨w.heap.size, 0, none⟩ = some (.string key) := Blk.cell hX2 0
  have y1 : w2.cell? ⟨w.heap.size, 1, none⟩ = some (.string val) := Blk.cell hX2 1
  have y2 : w2.cell? ⟨w.heap.size, 2, none⟩ = some (.int .i64 over) := Blk.cell hX2 2
  have y3 : w2.cell? ⟨w.heap.size, 3, none⟩ = some (.int .i64 size) := Blk.cell hX2 3
  have y4 : w2.cell? ⟨w.heap.size, 4, none⟩ = some (.int .i64 child) := Blk.cell hX2 4
  have hB2 := hB1.trans (hb2.mono hB1.size)
  have HB3 := Lib.hid (hB2.alloc hB2.size (.cells #[.string key, .string val, .int .i64 over, .int .i64 size, .int .i64 child] 35))
  have HX3 : Hid (Blk (w2.alloc (.cells #[.string key, .string val, .int .i64 over, .int .i64 size, .int .i64 child] 35)) w.heap.size #[.string key, .string val, .int .i64 over, .int .i64 size, .int .i64 child] 35) := Lib.hid (Blk.alloc hX2 _)
  have L2 := Lib.hid (L1.out w2)
  clear hb1 hb2 hB1 hB2 hX2
  go_wp2_with fail
  refine L2.out.mono ?_
  rintro _ w3 ⟨rfl, hb3⟩
  have hX3 := (hb3.block _ HX3.out.lt).trans HX3.out
  have hB3 := HB3.out.trans (hb3.mono HB3.out.size)
  clear y0 y1 y2 y3 y4
  go_wp2_with fail
  refine (EC.out w3 hB3).mono ?_
  rintro _ w4 ⟨rfl, hb4⟩
  have hX4 : Blk w4 w.heap.size #[.string key, .string val, .int .i64 over, .int .i64 size, .int .i64 child] 35 := (hb4.block _ (Blk.lt hX3)).trans hX3
  have HX4 := Lib.hid hX4
  have HB4 := Lib.hid (hB3.trans (hb4.mono hB3.size))
  have y0 : w4.cell? ⟨w.heap.size, 0, none⟩ = some (.string key) := hX4.cell 0
  have y1 : w4.cell? ⟨w.heap.size, 1, none⟩ = some (.string val) := hX4.cell 1
  have y2 : w4.cell? ⟨w.heap.size, 2, none⟩ = some (.int .i64 over) := hX4.cell 2
  have y3 : w4.cell? ⟨w.heap.size, 3, none⟩ = some (.int .i64 size) := hX4.cell 3
  have y4 : w4.cell? ⟨w.heap.size, 4, none⟩ = some (.int .i64 child) := hX4.cell 4
  clear hb3 hb4 hX3 hB3 hX4
  go_wp2_with fail
  refine (CC.out w4).mono ?_
  rintro _ w5 ⟨rfl, hb5⟩
  have HB5 := Lib.hid (HB4.out.trans (hb5.mono HB4.out.size))
  have HX5 : Hid (Blk w5 w.heap.size #[.string key, .string val, .int .i64 over, .int .i64 size, .int .i64 child] 35) := Lib.hid ((hb5.block _ HX4.out.lt).trans HX4.out)
  clear hb5 y0 y1 y2 y3 y4
  go_wp2_with fail
  refine (CF.out w5 HB5.out).mono ?_
  rintro _ w6 ⟨rfl, hb6⟩
  have HB6 := Lib.hid (HB5.out.trans (hb6.mono HB5.out.size))
  have HX6 : Hid (Blk w6 w.heap.size #[.string key, .string val, .int .i64 over, .int .i64 size, .int .i64 child] 35) := Lib.hid ((hb6.block _ HX5.out.lt).trans HX5.out)
  clear hb6
  obtain ⟨ad1, c1, hv1⟩ := sliced_some ⟨b, off, none⟩ 0 p cap
  rw [Nat.sub_zero] at hv1
  obtain ⟨ad2, c2, hv2⟩ := sliced_some ⟨b, off, none⟩ p l.length cap
  have s1 := fun w => cut_hi w (some ⟨b, off, none⟩) l.length cap p (by omega)
  have s2 := fun w => cut_lo w (some ⟨b, off, none⟩) l.length cap p (by omega)
  simp only [hv1] at s1
  simp only [hv2] at s2
  have MC1 : Hid (∀ wr, Below w.heap.size w wr → CellsAt wr (.slice (some ad1) p c1) ((l.take p).drop 0)) := Lib.hid (fun wr hb => hv1 ▸ (HCL.out.below hb).cut 0 p (Nat.zero_le _) hpl)
  have MC2 : Hid (∀ wr, Below w.heap.size w wr → CellsAt wr (.slice (some ad2) (l.length - p) c2) ((l.take l.length).drop p)) := Lib.hid (fun wr hb => hv2 ▸ (HCL.out.below hb).cut p l.length hpl (Nat.le_refl _))
  have q1 : (0 : Int) ≤ (p : Int) := by omega
  have q2 : (p : Int) ≤ (cap : Int) := by omega
  have q3 : (p : Int) ≤ (l.length : Int) := by omega
  have hM1 := MC1.out (w6.alloc (.cells #[] 35)) (HB6.out.alloc HB6.out.size _)
  have own0 : OwnC (w6.alloc (.cells #[] 35)) w6.heap.size (.slice (some ⟨w6.heap.size, 0, none⟩) 0 0) [] := World.ownsRow_made (size := 5) w6 #[] 0 (Nat.le_refl _) (by simp [maxLen]) rfl
  have hge0 : w6.heap.size ≤ (w6.alloc (.cells #[] 35)).heap.size := by simp
  have n1 : ([] : List CV).length + ((l.take p).drop 0).length ≤ 65536 := by simp; omega
  have n2 : (([] : List CV) ++ (l.take p).drop 0).length + 1 ≤ 4294967296 := by simp; omega
  have n3 : ((([] : List CV) ++ (l.take p).drop 0) ++ [(⟨key, val, over, size, child⟩ : CV)]).length + ((l.take l.length).drop p).length ≤ 65536 := by simp; omega
  have hb06 : Below w6.heap.size w6 (w6.alloc (.cells #[] 35)) := (Below.refl _ w6).alloc (Nat.le_refl _) _
  clear hv1 hv2
  go_wp2_with (at_builtin; first
    | (refine wpList_append_cells _ rfl (.tmp 62) (.tmp 65) 22 rfl _ und22s cellInfo _ _ rfl own0 ad1 _ c1 _ hM1 rfl n1 hge0 ?_; intro W1 w8 own1 hb8; have hb68 := hb06.trans hb8; have hX8 := (hb68.block _ HX6.out.lt).trans HX6.out; have y0 : w8.cell? ⟨w.heap.size, 0, none⟩ = some (.string key) := Blk.cell hX8 0; have y1 : w8.cell? ⟨w.heap.size, 1, none⟩ = some (.string val) := Blk.cell hX8 1; have y2 : w8.cell? ⟨w.heap.size, 2, none⟩ = some (.int .i64 over) := Blk.cell hX8 2; have y3 : w8.cell? ⟨w.heap.size, 3, none⟩ = some (.int .i64 size) := Blk.cell hX8 3; have y4 : w8.cell? ⟨w.heap.size, 4, none⟩ = some (.int .i64 child) := Blk.cell hX8 4; have hge1 := hb68.size)
    | (refine wpList_append_cell _ rfl (.tmp 67) (.tmp 69) 22 rfl _ und22s cellInfo _ _ rfl own1 ⟨key, val, over, size, child⟩ rfl n2 hge1 ?_; intro W2 w9 own2 hb9; have hb69 := hb68.trans hb9; have hge2 := hb69.size; have hM2 := MC2.out w9 (HB6.out.trans (hb69.mono HB6.out.size)))
    | (refine wpList_append_cells _ rfl (.tmp 71) (.tmp 74) 22 rfl _ und22s cellInfo _ _ rfl own2 ad2 _ c2 _ hM2 rfl n3 hge2 ?_; intro W3 w10 own3 hb10; have hb610 := hb69.trans hb10))
  have HB10 : Hid (Below w.heap.size w w10) := Lib.hid (HB6.out.trans (hb610.mono HB6.out.size))
  have hall : ((([] : List CV) ++ (l.take p).drop 0) ++ [(⟨key, val, over, size, child⟩ : CV)]) ++ (l.take l.length).drop p = l.take p ++ (⟨key, val, over, size, child⟩ : CV) :: l.drop p := by simp
  rw [hall] at own3
  have hone := Node.one_more true l p ⟨key, val, over, size, child⟩ HF.out HO.out HL2.out hpl
  simp only at hone
  obtain ⟨all, hal⟩ : ∃ all, l.take p ++ (⟨key, val, over, size, child⟩ : CV) :: l.drop p = all := ⟨_, rfl⟩
  have hallen : all.length = l.length + 1 := by
    rw [← hal, List.length_append, List.length_cons, List.length_take, List.length_drop]
    omega
  have hbnd : Bnd all := by
    refine ⟨by have := HBN.out.1; omega, fun x hx => ?_⟩
    rw [← hal] at hx
    rcases List.mem_append.1 hx with h | h
    · have := HBN.out.2 x (List.mem_of_mem_take h); omega
    · rcases List.mem_cons.1 h with rfl | h
      · have := HB1.out.2 (⟨key, val, over, size, child⟩ : CV) (by simp)
        simp only at this ⊢
        omega
      · have := HBN.out.2 x (List.mem_of_mem_drop h); omega
  rw [hal] at hone own3
  have hcl3 := own3.cells (by omega)
  obtain ⟨A3, c3, hW3, hc31, hc32⟩ := hcl3.form
  subst hW3
  have HC := K.halve w10 true _ all hcl3 hbnd
  obtain ⟨H, hH⟩ : ∃ H, Node.halveV true all = H := ⟨_, rfl⟩
  rw [hH] at HC hone
  obtain ⟨o1, o2, o3, o4⟩ := hone
  have r1 := fun w => cut_hi w A3 all.length c3 H (by omega)
  have r2 := fun w => cut_lo w A3 all.length c3 H (by omega)
  have F1 := Lib.hid (fun w1 (hh : Below w10.heap.size w10 w1) => rcount_ok w1 true _ _ ((hcl3.below hh).cut 0 H (Nat.zero_le _) (by omega)) (hbnd.cut 0 H))
  have F2 := Lib.hid (fun w1 (hh : Below w10.heap.size w10 w1) => rcount_ok w1 true _ _ ((hcl3.below hh).cut H all.length (by omega) (Nat.le_refl _)) (hbnd.cut H all.length))
  obtain ⟨n1', hn1⟩ : ∃ n, Node.countV true ((all.take H).drop 0) = n := ⟨_, rfl⟩
  obtain ⟨n2', hn2⟩ : ∃ n, Node.countV true ((all.take all.length).drop H) = n := ⟨_, rfl⟩
  have u1 : n1' ≤ 488 := by rw [← hn1, List.drop_zero]; exact o3
  have u2 : n2' ≤ 488 := by rw [← hn2, List.take_length]; exact o4
  simp only [hn1] at F1
  simp only [hn2] at F2
  obtain ⟨X1, hX1⟩ : ∃ V, sliced A3 0 H c3 5 = V := ⟨_, rfl⟩
  obtain ⟨X2, hX2⟩ : ∃ V, sliced A3 H all.length c3 5 = V := ⟨_, rfl⟩
  simp only [hX1] at r1 F1
  simp only [hX2] at r2 F2
  have e1 : decide ((1 : Int) ≤ (H : Int)) = true := decide_eq_true (by omega)
  have e1' : decide (1 ≤ H) = true := decide_eq_true (by omega)
  have e2 : decide ((H : Int) < (all.length : Int)) = true := decide_eq_true (by omega)
  have e2' : decide (H < all.length) = true := decide_eq_true (by omega)
  have e3 : decide ((n1' : Int) ≤ 488) = true := decide_eq_true (by omega)
  have e3' : decide (n1' ≤ 488) = true := decide_eq_true (by omega)
  have e4 : decide ((n2' : Int) ≤ 488) = true := decide_eq_true (by omega)
  have e4' : decide (n2' ≤ 488) = true := decide_eq_true (by omega)
  have HCH := Lib.hid HC
  clear HC hcl3 own3 hbnd hal hall hallen hH hn1 hn2 hX1 hX2 own0 own1 own2 hM1 hM2 n1 n2 n3 hb06 hb68 hb69 hb610 hb8 hb9 hb10 hge0 hge1 hge2 y0 y1 y2 y3 y4 hX8
  go_wp2_with fail
  refine HCH.out.mono ?_
  rintro _ w11 ⟨rfl, hb11⟩
  go_wp2_with fail
  refine (F1.out w11 hb11).mono ?_
  rintro _ w12 ⟨rfl, hb12⟩
  have hb12' := hb11.trans (hb12.mono hb11.size)
  go_wp2_with fail
  refine (F2.out w12 hb12').mono ?_
  rintro _ w13 ⟨rfl, hb13⟩
  have hb13' := hb12'.trans (hb13.mono hb12'.size)
  go_wp2
  go_ret
  exact ⟨rfl, HB10.out.trans (hb13'.mono HB10.out.size)⟩
set_option maxRecDepth 100000 in
set_option maxHeartbeats 6400000 in
theorem nfits_false (K : LandNode) (w : World) (v : Value) (l : List CV) (at_ : Int) (c : CV) (hc : CellsAt w v l) (hB : longB l = false) (hB1 : longB [c] = false) (hl2 : 2 ≤ l.length) (hE0 : Node.encE false l = 0) (hO : c.ok false = true) : Calls Try.prog 8 #[.bool false, v, .int .i64 at_, c.v] w fun e w' => e = .returned (.bool true) ∧ Below w.heap.size w w' := by
  obtain ⟨wA, hwA⟩ : ∃ wA, w.alloc (.cells #[.string c.key, .string c.val, .int .i64 c.over, .int .i64 c.size, .int .i64 c.child] 35) = wA := ⟨_, rfl⟩
  have HBA : Hid (Below w.heap.size w wA) := Lib.hid (hwA ▸ (Below.refl _ w).alloc (Nat.le_refl _) _)
  have AC := Lib.hid (nawake_ok K wA)
  have LC := Lib.hid (fun w1 (hh : Below w.heap.size w w1) => nlong_ok w1 v l (hc.below hh))
  have L1 := Lib.hid (fun w1 => nlong_ok _ _ [c] (one_cell w1 c))
  have HX : Hid (Blk wA w.heap.size #[.string c.key, .string c.val, .int .i64 c.over, .int .i64 c.size, .int .i64 c.child] 35) := Lib.hid (hwA ▸ Blk.new w _ _)
  have EC := Lib.hid (fun w1 (hh : Below w.heap.size w w1) => K.encode w1 false v l (hc.below hh) (longB_bnd hB))
  have CC := Lib.hid (fun w1 => rcell_ok w1 false c)
  rw [hB] at LC
  simp only [hB1] at L1
  have hf := enc_same false l hE0
  have hl6 := (longB_not hB).1
  have hfit : Node.countV false l ≤ 488 := by
    have := hf
    unfold Node.fits at this
    simp only [Bool.and_eq_true, decide_eq_true_eq] at this
    exact this.2
  obtain ⟨A, cap, rfl, hcap, hcap2⟩ := hc.form
  obtain ⟨b, off, hA, hbl, _⟩ := hc.get 0 (by omega)
  subst hA
  obtain ⟨m, hm⟩ : ∃ m, min l.length 3 = m := ⟨_, rfl⟩
  have CF := Lib.hid (fun w1 (hh : Below w.heap.size w w1) => rcount_ok w1 false _ _ ((hc.below hh).cut 0 m (Nat.zero_le _) (by omega)) ((longB_bnd hB).cut 0 m))
  obtain ⟨nf, hnf⟩ : ∃ n, Node.countV false ((l.take m).drop 0) = n := ⟨_, rfl⟩
  simp only [hnf] at CF
  have hnf2 : nf ≤ 488 := by rw [← hnf, List.drop_zero]; have := Node.count_take_le false l m; omega
  have d5 : decide ((488 : Int) < (nf : Int)) = false := decide_eq_false (by omega)
  have d5' : decide (488 < nf) = false := decide_eq_false (by omega)
  have s0 := fun w => cut_hi w (some ⟨b, off, none⟩) l.length cap m (by omega)
  obtain ⟨V0, hV0⟩ : ∃ V, sliced (some ⟨b, off, none⟩) 0 m cap 5 = V := ⟨_, rfl⟩
  simp only [hV0] at s0 CF
  obtain ⟨S, hS⟩ : ∃ S, Node.encS false l = S := ⟨_, rfl⟩
  simp only [hS, hE0] at EC
  simp only [hO] at CC
  have d1 : decide ((l.length : Int) < 2) = false := decide_eq_false (by omega)
  have hmn : ∀ (ts : Array TypeId) (t : TypeId) (w : World), (Builtin.min_ ts t #[.int .i64 (l.length : Int), .int .i64 3]).run Try.prog w = .ok (.int .i64 (m : Int)) w := fun ts t w => by
    rw [run_min_int2]
    congr 2
    split <;> omega
  obtain ⟨x, hw1⟩ : ∃ x : Nat, IntKind.u64.wrap at_ = x := ⟨_, fit_wrap at_ _ rfl⟩
  obtain ⟨p, hp⟩ : ∃ p, x % (l.length + 1) = p := ⟨_, rfl⟩
  have hw2 := fit_mod x l.length p hp (by omega)
  have hpl : p ≤ l.length := by rw [← hp]; exact Nat.le_of_lt_succ (Nat.mod_lt x (Nat.succ_pos _))
  clear hp
  have HCL := Lib.hid hc
  have HF := Lib.hid hf
  have HO := Lib.hid hO
  have HBN := Lib.hid (longB_not hB)
  have HB1 := Lib.hid (longB_not hB1)
  have HL2 := Lib.hid hl2
  have hz2 : ∀ w, (zeroValue 22).run Try.prog w = .ok (.slice none 0 0) w := fun w => by kernel_rfl
  obtain ⟨key, val, over, size, child⟩ := c
  unfold CV.v at CC ⊢
  simp only at L1 HX hwA CC ⊢
  clear hc hB hB1 hS hE0 hO hf hfit hnf hV0
  go_enter Try.func8, Try.ntmps8
  go_wp2_with fail
  refine AC.out.mono ?_
  rintro _ w1 ⟨rfl, hb1⟩
  have hB1 := HBA.out.trans (hb1.mono HBA.out.size)
  go_wp2_with fail
  refine (LC.out w1 hB1).mono ?_
  rintro _ w2 ⟨rfl, hb2⟩
  have hX2 := (hb2.block _ (Nat.lt_of_lt_of_le HX.out.lt hb1.size)).trans ((hb1.block _ HX.out.lt).trans HX.out)
  have y0 : w2.cell? ⟨w.heap.size, 0, none⟩ = some (.string key) := Blk.cell hX2 0
  have y1 : w2.cell? ⟨w.heap.size, 1, none⟩ = some (.string val) := Blk.cell hX2 1
  have y2 : w2.cell? ⟨w.heap.size, 2, none⟩ = some (.int .i64 over) := Blk.cell hX2 2
  have y3 : w2.cell? ⟨w.heap.size, 3, none⟩ = some (.int .i64 size) := Blk.cell hX2 3
  have y4 : w2.cell? ⟨w.heap.size, 4, none⟩ = some (.int .i64 child) := Blk.cell hX2 4
  have hB2 := hB1.trans (hb2.mono hB1.size)
  have HB3 := Lib.hid (hB2.alloc hB2.size (.cells #[.string key, .string val, .int .i64 over, .int .i64 size, .int .i64 child] 35))
  have HX3 : Hid (Blk (w2.alloc (.cells #[.string key, .string val, .int .i64 over, .int .i64 size, .int .i64 child] 35)) w.heap.size #[.string key, .string val, .int .i64 over, .int .i64 size, .int .i64 child] 35) := Lib.hid (Blk.alloc hX2 _)
  have L2 := Lib.hid (L1.out w2)
  clear hb1 hb2 hB1 hB2 hX2
  go_wp2_with fail
  refine L2.out.mono ?_
  rintro _ w3 ⟨rfl, hb3⟩
  have hX3 := (hb3.block _ HX3.out.lt).trans HX3.out
  have hB3 := HB3.out.trans (hb3.mono HB3.out.size)
  clear y0 y1 y2 y3 y4
  go_wp2_with fail
  refine (EC.out w3 hB3).mono ?_
  rintro _ w4 ⟨rfl, hb4⟩
  have hX4 : Blk w4 w.heap.size #[.string key, .string val, .int .i64 over, .int .i64 size, .int .i64 child] 35 := (hb4.block _ (Blk.lt hX3)).trans hX3
  have HX4 := Lib.hid hX4
  have HB4 := Lib.hid (hB3.trans (hb4.mono hB3.size))
  have y0 : w4.cell? ⟨w.heap.size, 0, none⟩ = some (.string key) := hX4.cell 0
  have y1 : w4.cell? ⟨w.heap.size, 1, none⟩ = some (.string val) := hX4.cell 1
  have y2 : w4.cell? ⟨w.heap.size, 2, none⟩ = some (.int .i64 over) := hX4.cell 2
  have y3 : w4.cell? ⟨w.heap.size, 3, none⟩ = some (.int .i64 size) := hX4.cell 3
  have y4 : w4.cell? ⟨w.heap.size, 4, none⟩ = some (.int .i64 child) := hX4.cell 4
  clear hb3 hb4 hX3 hB3 hX4
  go_wp2_with fail
  refine (CC.out w4).mono ?_
  rintro _ w5 ⟨rfl, hb5⟩
  have HB5 := Lib.hid (HB4.out.trans (hb5.mono HB4.out.size))
  have HX5 : Hid (Blk w5 w.heap.size #[.string key, .string val, .int .i64 over, .int .i64 size, .int .i64 child] 35) := Lib.hid ((hb5.block _ HX4.out.lt).trans HX4.out)
  clear hb5 y0 y1 y2 y3 y4
  go_wp2_with fail
  refine (CF.out w5 HB5.out).mono ?_
  rintro _ w6 ⟨rfl, hb6⟩
  have HB6 := Lib.hid (HB5.out.trans (hb6.mono HB5.out.size))
  have HX6 : Hid (Blk w6 w.heap.size #[.string key, .string val, .int .i64 over, .int .i64 size, .int .i64 child] 35) := Lib.hid ((hb6.block _ HX5.out.lt).trans HX5.out)
  clear hb6
  obtain ⟨ad1, c1, hv1⟩ := sliced_some ⟨b, off, none⟩ 0 p cap
  rw [Nat.sub_zero] at hv1
  obtain ⟨ad2, c2, hv2⟩ := sliced_some ⟨b, off, none⟩ p l.length cap
  have s1 := fun w => cut_hi w (some ⟨b, off, none⟩) l.length cap p (by omega)
  have s2 := fun w => cut_lo w (some ⟨b, off, none⟩) l.length cap p (by omega)
  simp only [hv1] at s1
  simp only [hv2] at s2
  have MC1 : Hid (∀ wr, Below w.heap.size w wr → CellsAt wr (.slice (some ad1) p c1) ((l.take p).drop 0)) := Lib.hid (fun wr hb => hv1 ▸ (HCL.out.below hb).cut 0 p (Nat.zero_le _) hpl)
  have MC2 : Hid (∀ wr, Below w.heap.size w wr → CellsAt wr (.slice (some ad2) (l.length - p) c2) ((l.take l.length).drop p)) := Lib.hid (fun wr hb => hv2 ▸ (HCL.out.below hb).cut p l.length hpl (Nat.le_refl _))
  have q1 : (0 : Int) ≤ (p : Int) := by omega
  have q2 : (p : Int) ≤ (cap : Int) := by omega
  have q3 : (p : Int) ≤ (l.length : Int) := by omega
  have hM1 := MC1.out (w6.alloc (.cells #[] 35)) (HB6.out.alloc HB6.out.size _)
  have own0 : OwnC (w6.alloc (.cells #[] 35)) w6.heap.size (.slice (some ⟨w6.heap.size, 0, none⟩) 0 0) [] := World.ownsRow_made (size := 5) w6 #[] 0 (Nat.le_refl _) (by simp [maxLen]) rfl
  have hge0 : w6.heap.size ≤ (w6.alloc (.cells #[] 35)).heap.size := by simp
  have n1 : ([] : List CV).length + ((l.take p).drop 0).length ≤ 65536 := by simp; omega
  have n2 : (([] : List CV) ++ (l.take p).drop 0).length + 1 ≤ 4294967296 := by simp; omega
  have n3 : ((([] : List CV) ++ (l.take p).drop 0) ++ [(⟨key, val, over, size, child⟩ : CV)]).length + ((l.take l.length).drop p).length ≤ 65536 := by simp; omega
  have hb06 : Below w6.heap.size w6 (w6.alloc (.cells #[] 35)) := (Below.refl _ w6).alloc (Nat.le_refl _) _
  clear hv1 hv2
  go_wp2_with (at_builtin; first
    | (refine wpList_append_cells _ rfl (.tmp 62) (.tmp 65) 22 rfl _ und22s cellInfo _ _ rfl own0 ad1 _ c1 _ hM1 rfl n1 hge0 ?_; intro W1 w8 own1 hb8; have hb68 := hb06.trans hb8; have hX8 := (hb68.block _ HX6.out.lt).trans HX6.out; have y0 : w8.cell? ⟨w.heap.size, 0, none⟩ = some (.string key) := Blk.cell hX8 0; have y1 : w8.cell? ⟨w.heap.size, 1, none⟩ = some (.string val) := Blk.cell hX8 1; have y2 : w8.cell? ⟨w.heap.size, 2, none⟩ = some (.int .i64 over) := Blk.cell hX8 2; have y3 : w8.cell? ⟨w.heap.size, 3, none⟩ = some (.int .i64 size) := Blk.cell hX8 3; have y4 : w8.cell? ⟨w.heap.size, 4, none⟩ = some (.int .i64 child) := Blk.cell hX8 4; have hge1 := hb68.size)
    | (refine wpList_append_cell _ rfl (.tmp 67) (.tmp 69) 22 rfl _ und22s cellInfo _ _ rfl own1 ⟨key, val, over, size, child⟩ rfl n2 hge1 ?_; intro W2 w9 own2 hb9; have hb69 := hb68.trans hb9; have hge2 := hb69.size; have hM2 := MC2.out w9 (HB6.out.trans (hb69.mono HB6.out.size)))
    | (refine wpList_append_cells _ rfl (.tmp 71) (.tmp 74) 22 rfl _ und22s cellInfo _ _ rfl own2 ad2 _ c2 _ hM2 rfl n3 hge2 ?_; intro W3 w10 own3 hb10; have hb610 := hb69.trans hb10))
  have HB10 : Hid (Below w.heap.size w w10) := Lib.hid (HB6.out.trans (hb610.mono HB6.out.size))
  have hall : ((([] : List CV) ++ (l.take p).drop 0) ++ [(⟨key, val, over, size, child⟩ : CV)]) ++ (l.take l.length).drop p = l.take p ++ (⟨key, val, over, size, child⟩ : CV) :: l.drop p := by simp
  rw [hall] at own3
  have hone := Node.one_more false l p ⟨key, val, over, size, child⟩ HF.out HO.out HL2.out hpl
  simp only at hone
  obtain ⟨all, hal⟩ : ∃ all, l.take p ++ (⟨key, val, over, size, child⟩ : CV) :: l.drop p = all := ⟨_, rfl⟩
  have hallen : all.length = l.length + 1 := by
    rw [← hal, List.length_append, List.length_cons, List.length_take, List.length_drop]
    omega
  have hbnd : Bnd all := by
    refine ⟨by have := HBN.out.1; omega, fun x hx => ?_⟩
    rw [← hal] at hx
    rcases List.mem_append.1 hx with h | h
    · have := HBN.out.2 x (List.mem_of_mem_take h); omega
    · rcases List.mem_cons.1 h with rfl | h
      · have := HB1.out.2 (⟨key, val, over, size, child⟩ : CV) (by simp)
        simp only at this ⊢
        omega
      · have := HBN.out.2 x (List.mem_of_mem_drop h); omega
  rw [hal] at hone own3
  have hcl3 := own3.cells (by omega)
  obtain ⟨A3, c3, hW3, hc31, hc32⟩ := hcl3.form
  subst hW3
  have HC := K.halve w10 false _ all hcl3 hbnd
  obtain ⟨H, hH⟩ : ∃ H, Node.halveV false all = H := ⟨_, rfl⟩
  rw [hH] at HC hone
  obtain ⟨o1, o2, o3, o4⟩ := hone
  have r1 := fun w => cut_hi w A3 all.length c3 H (by omega)
  have r2 := fun w => cut_lo w A3 all.length c3 H (by omega)
  have F1 := Lib.hid (fun w1 (hh : Below w10.heap.size w10 w1) => rcount_ok w1 false _ _ ((hcl3.below hh).cut 0 H (Nat.zero_le _) (by omega)) (hbnd.cut 0 H))
  have F2 := Lib.hid (fun w1 (hh : Below w10.heap.size w10 w1) => rcount_ok w1 false _ _ ((hcl3.below hh).cut H all.length (by omega) (Nat.le_refl _)) (hbnd.cut H all.length))
  obtain ⟨n1', hn1⟩ : ∃ n, Node.countV false ((all.take H).drop 0) = n := ⟨_, rfl⟩
  obtain ⟨n2', hn2⟩ : ∃ n, Node.countV false ((all.take all.length).drop H) = n := ⟨_, rfl⟩
  have u1 : n1' ≤ 488 := by rw [← hn1, List.drop_zero]; exact o3
  have u2 : n2' ≤ 488 := by rw [← hn2, List.take_length]; exact o4
  simp only [hn1] at F1
  simp only [hn2] at F2
  obtain ⟨X1, hX1⟩ : ∃ V, sliced A3 0 H c3 5 = V := ⟨_, rfl⟩
  obtain ⟨X2, hX2⟩ : ∃ V, sliced A3 H all.length c3 5 = V := ⟨_, rfl⟩
  simp only [hX1] at r1 F1
  simp only [hX2] at r2 F2
  have e1 : decide ((1 : Int) ≤ (H : Int)) = true := decide_eq_true (by omega)
  have e1' : decide (1 ≤ H) = true := decide_eq_true (by omega)
  have e2 : decide ((H : Int) < (all.length : Int)) = true := decide_eq_true (by omega)
  have e2' : decide (H < all.length) = true := decide_eq_true (by omega)
  have e3 : decide ((n1' : Int) ≤ 488) = true := decide_eq_true (by omega)
  have e3' : decide (n1' ≤ 488) = true := decide_eq_true (by omega)
  have e4 : decide ((n2' : Int) ≤ 488) = true := decide_eq_true (by omega)
  have e4' : decide (n2' ≤ 488) = true := decide_eq_true (by omega)
  have HCH := Lib.hid HC
  clear HC hcl3 own3 hbnd hal hall hallen hH hn1 hn2 hX1 hX2 own0 own1 own2 hM1 hM2 n1 n2 n3 hb06 hb68 hb69 hb610 hb8 hb9 hb10 hge0 hge1 hge2 y0 y1 y2 y3 y4 hX8
  go_wp2_with fail
  refine HCH.out.mono ?_
  rintro _ w11 ⟨rfl, hb11⟩
  go_wp2_with fail
  refine (F1.out w11 hb11).mono ?_
  rintro _ w12 ⟨rfl, hb12⟩
  have hb12' := hb11.trans (hb12.mono hb11.size)
  go_wp2_with fail
  refine (F2.out w12 hb12').mono ?_
  rintro _ w13 ⟨rfl, hb13⟩
  have hb13' := hb12'.trans (hb13.mono hb12'.size)
  go_wp2
  go_ret
  exact ⟨rfl, HB10.out.trans (hb13'.mono HB10.out.size)⟩
theorem nfits_any (K : LandNode) (w : World) (leaf : Bool) (v : Value) (l : List CV) (at_ : Int) (c : CV) (hc : CellsAt w v l) : Calls Try.prog 8 #[.bool leaf, v, .int .i64 at_, c.v] w fun e w' => e = .returned (.bool true) ∧ Below w.heap.size w w' := by
  by_cases h : longB l = true ∨ longB [c] = true ∨ l.length < 2
  · exact nfits_early K w leaf v l at_ c hc h
  · have h1 : longB l = false := by rw [← Bool.not_eq_true]; exact fun x => h (.inl x)
    have h2 : longB [c] = false := by rw [← Bool.not_eq_true]; exact fun x => h (.inr (.inl x))
    have h3 : 2 ≤ l.length := by have : ¬ l.length < 2 := fun x => h (.inr (.inr x)); omega
    by_cases hE : Node.encE leaf l = 0
    · cases hO : c.ok leaf
      · exact nfits_off K w leaf v l at_ c hc h1 h2 h3 (.inr hO)
      · cases leaf
        · exact nfits_false K w v l at_ c hc h1 h2 h3 hE hO
        · exact nfits_true K w v l at_ c hc h1 h2 h3 hE hO
    · exact nfits_off K w leaf v l at_ c hc h1 h2 h3 (.inl hE)
end Go.Proofs.Ytegmffeokfahjaa
