/-
  Contracts of the reference (rollbookref06): Seek. Conditions: texts of at most 2000 bytes.
-/
import Derived.Test.YtegmffeokfahjaaRNodeI
import Derived.Test.YtegmffeokfahjaaCellRes
import Derived.RegionTactic
namespace Go.Proofs.Ytegmffeokfahjaa
open Go.RowKit
theorem results_mid {P : Program} {fn : Func} {p u v : Tmp} {ty : TypeId} (h : fn.results = #[.tmp u, .cell p ty, .tmp v]) (tmps : Array Value) (w : World) (g : Nat) (t : TypeId) (cs : Array Value) (fr : Nat × Nat) (d : TypeDesc)
    (hp : tmps.getD p undef = .pointer (some ⟨g, 0, none⟩)) (hg : w.heap[g]? = some (.cells cs t fr)) (hu : P.underlying ty = some d) (hd : (match d with | .struct _ | .array _ _ => true | _ => false) = true) (hi : (P.info? ty).map (·.size) = some cs.size) :
    (results fn tmps).run P w = .ok (.tuple #[tmps.getD u undef, .agg cs, tmps.getD v undef]) w := by
  have hp' : tmps[p]?.getD undef = .pointer (some ⟨g, 0, none⟩) := by simpa using hp
  simp [results, h, hp', asAddr, run_loadVar_row w g t ty cs fr d hg hu hd hi]
theorem stored5c {w w' : World} {g : Nat} {cs : Array Value} {t : TypeId} (h : Blk w' g cs t) (hB : Below g w w') (a b c d e : Value) :
    Blk (((((w'.setCell ⟨g, 0, none⟩ a).setCell ⟨g, 1, none⟩ b).setCell ⟨g, 2, none⟩ c).setCell ⟨g, 3, none⟩ d).setCell ⟨g, 4, none⟩ e) g (((((cs.setIfInBounds 0 a).setIfInBounds 1 b).setIfInBounds 2 c).setIfInBounds 3 d).setIfInBounds 4 e) t ∧
    Below g w (((((w'.setCell ⟨g, 0, none⟩ a).setCell ⟨g, 1, none⟩ b).setCell ⟨g, 2, none⟩ c).setCell ⟨g, 3, none⟩ d).setCell ⟨g, 4, none⟩ e) :=
  ⟨((((h.set 0 a).set 1 b).set 2 c).set 3 d).set 4 e, ((((hB.setCell (p := ⟨g, 0, none⟩) (Nat.le_refl _) a).setCell (p := ⟨g, 1, none⟩) (Nat.le_refl _) b).setCell (p := ⟨g, 2, none⟩) (Nat.le_refl _) c).setCell (p := ⟨g, 3, none⟩) (Nat.le_refl _) d).setCell (p := ⟨g, 4, none⟩) (Nat.le_refl _) e⟩
namespace Node
/-- the place of the last of the first n cells whose key is not greater; 0: there is none -/
def lastLe (key : ByteArray) (l : List CV) : Nat → Nat
  | 0 => 0
  | n + 1 => if h : n < l.length then (if cmpK l[n] key ≤ 0 then n else lastLe key l n) else lastLe key l n
theorem lastLe_lt (key : ByteArray) (l : List CV) (n : Nat) (hn : n ≤ l.length) (h : 0 < l.length) : lastLe key l n < l.length := by
  induction n with
  | zero => exact h
  | succ n ih =>
    rw [lastLe, dif_pos (by omega)]
    split
    · omega
    · exact ih (by omega)
/-- what Seek answers of cells, at a place -/
def cellAt (l : List CV) (i : Nat) : CV := l.getD i CV.none
def seekI (leaf : Bool) (l : List CV) (key : ByteArray) : Nat := if leaf then seekAt key l else lastLe key l l.length
def seekV (leaf : Bool) (s : ByteArray) (key : ByteArray) : Int × CV × Bool :=
  match dec leaf s with
  | none => (0, CV.none, false)
  | some l => ((seekI leaf l key : Nat), cellAt l (seekI leaf l key), decide (seekI leaf l key < l.length) && decide ((cellAt l (seekI leaf l key)).key = key))
theorem dec_fits {leaf : Bool} {s : ByteArray} {l : List CV} (h : dec leaf s = some l) : fits leaf l = true := by
  unfold dec at h
  split at h
  · split at h
    · cases h
    · split at h
      · rename_i hh
        injection h with h
        rw [← h]
        exact hh.1
      · cases h
  · cases h
theorem fits_bnd {leaf : Bool} {l : List CV} (h : fits leaf l = true) : Bnd l := by
  unfold fits at h
  simp only [Bool.and_eq_true, decide_eq_true_eq] at h
  obtain ⟨hr, hc⟩ := h
  have ha := right_all hr
  refine ⟨?_, fun c hx => ?_⟩
  · have := count_ge leaf (l.map CV.cl)
    rw [List.length_map] at this
    unfold countV at hc
    omega
  · have := ha c hx
    obtain ⟨key, val, over, size, child⟩ := c
    cases leaf
    · rw [CV.ok_branch] at this
      simp only
      omega
    · rw [CV.ok_leaf] at this
      simp only
      omega
theorem branch_pos {l : List CV} (h : fits false l = true) : 0 < l.length := by
  unfold fits right at h
  simp only [Bool.and_eq_true] at h
  cases l with
  | nil => have := h.1.2; cases this
  | cons c l => simp
theorem seekGo_here (key : ByteArray) (l : List CV) (k : Nat) (h : k < l.length) (hc : 0 ≤ cmpK l[k] key) : seekGo key (l.drop k) k = k := by
  rw [List.drop_eq_getElem_cons h, seekGo, if_pos hc]
theorem seekGo_next (key : ByteArray) (l : List CV) (k : Nat) (h : k < l.length) (hc : ¬ 0 ≤ cmpK l[k] key) : seekGo key (l.drop k) k = seekGo key (l.drop (k + 1)) (k + 1) := by
  rw [List.drop_eq_getElem_cons h, seekGo, if_neg hc]
theorem seekGo_end (key : ByteArray) (l : List CV) (k : Nat) (h : l.length ≤ k) : seekGo key (l.drop k) k = k := by
  rw [List.drop_of_length_le h]
  rfl
end Node
set_option maxRecDepth 100000 in
set_option maxHeartbeats 1600000 in
theorem rseek_none (w : World) (leaf : Bool) (s key : ByteArray) (DC : Hid (∀ w, Calls Try.prog 19 #[.bool leaf, .string s] w fun e w' => ∃ V, e = .returned (.tuple #[V, .int .i64 4]) ∧ Below w.heap.size w w')) : Calls Try.prog 21 #[.bool leaf, .string s, .string key] w fun e w' => e = .returned (.tuple #[.int .i64 0, CV.none.v, .bool false]) ∧ Below w.heap.size w w' := by
  have hz := zeroC
  have hZ0 : Hid (Blk (w.alloc (.cells #[.string ⟨#[]⟩, .string ⟨#[]⟩, .int .i64 0, .int .i64 0, .int .i64 0] 35)) w.heap.size #[.string ⟨#[]⟩, .string ⟨#[]⟩, .int .i64 0, .int .i64 0, .int .i64 0] 35) := Lib.hid (Blk.new w _ _)
  have hB0 : Hid (Below w.heap.size w (w.alloc (.cells #[.string ⟨#[]⟩, .string ⟨#[]⟩, .int .i64 0, .int .i64 0, .int .i64 0] 35))) := Lib.hid ((Below.refl _ w).alloc (Nat.le_refl _) _)
  go_enter Try.func21, Try.ntmps21
  go_wp2_with fail
  refine (DC.out _).mono ?_
  rintro _ w2 ⟨V, rfl, hb2⟩
  have HZ2 : Hid (Blk w2 w.heap.size #[.string ⟨#[]⟩, .string ⟨#[]⟩, .int .i64 0, .int .i64 0, .int .i64 0] 35) := Lib.hid ((hb2.block _ hZ0.out.lt).trans hZ0.out)
  have HB2 : Hid (Below w.heap.size w w2) := Lib.hid (hB0.out.trans (hb2.mono hB0.out.size))
  have z0 : w2.cell? ⟨w.heap.size, 0, none⟩ = some (.string ⟨#[]⟩) := HZ2.out.cell 0
  have g0 := HZ2.out.free 0
  have z1 : w2.cell? ⟨w.heap.size, 1, none⟩ = some (.string ⟨#[]⟩) := HZ2.out.cell 1
  have g1 := HZ2.out.free 1
  have z2 : w2.cell? ⟨w.heap.size, 2, none⟩ = some (.int .i64 0) := HZ2.out.cell 2
  have g2 := HZ2.out.free 2
  have z3 : w2.cell? ⟨w.heap.size, 3, none⟩ = some (.int .i64 0) := HZ2.out.cell 3
  have g3 := HZ2.out.free 3
  have z4 : w2.cell? ⟨w.heap.size, 4, none⟩ = some (.int .i64 0) := HZ2.out.cell 4
  have g4 := HZ2.out.free 4
  have zlt := HZ2.out.lt
  clear hb2
  go_wp2
  obtain ⟨hS, hB⟩ := stored5c HZ2.out HB2.out (.string ⟨#[]⟩) (.string ⟨#[]⟩) (.int .i64 0) (.int .i64 0) (.int .i64 0)
  refine bodyPost_ret (results_mid rfl _ _ w.heap.size 35 _ (0, 0) _ rfl hS Try.underlying35 rfl (by kernel_rfl)) rfl ⟨rfl, hB⟩
set_option maxRecDepth 100000 in
set_option maxHeartbeats 3200000 in
theorem rseek_leaf (w : World) (s key : ByteArray) (l : List CV) (hbn : Bnd l) (DC : Hid (∀ w, Calls Try.prog 19 #[.bool true, .string s] w fun e w' => ∃ V, e = .returned (.tuple #[V, .int .i64 0]) ∧ CellsAt w' V l ∧ Fresh w.heap.size V ∧ Below w.heap.size w w')) : Calls Try.prog 21 #[.bool true, .string s, .string key] w fun e w' => e = .returned (.tuple #[.int .i64 (Node.seekI true l key : Nat), (Node.cellAt l (Node.seekI true l key)).v, .bool (decide (Node.seekI true l key < l.length) && decide ((Node.cellAt l (Node.seekI true l key)).key = key))]) ∧ Below w.heap.size w w' := by
  obtain ⟨I, hI⟩ : ∃ I, Node.seekI true l key = I := ⟨_, rfl⟩
  have HI0 : Hid (Node.seekGo key l 0 = I) := Lib.hid (by rw [← hI]; rfl)
  rw [hI]
  obtain ⟨C, hC⟩ : ∃ C, Node.cellAt l I = C := ⟨_, rfl⟩
  obtain ⟨Q, hQ⟩ : ∃ Q, (decide (I < l.length) && decide (C.key = key)) = Q := ⟨_, rfl⟩
  rw [hC, hQ]
  have HC0 := Lib.hid hC
  have HQ0 := Lib.hid hQ
  clear hI hC hQ
  have hz := zeroC
  have hZ0 : Hid (Blk (w.alloc (.cells #[.string ⟨#[]⟩, .string ⟨#[]⟩, .int .i64 0, .int .i64 0, .int .i64 0] 35)) w.heap.size #[.string ⟨#[]⟩, .string ⟨#[]⟩, .int .i64 0, .int .i64 0, .int .i64 0] 35) := Lib.hid (Blk.new w _ _)
  have hB0 : Hid (Below w.heap.size w (w.alloc (.cells #[.string ⟨#[]⟩, .string ⟨#[]⟩, .int .i64 0, .int .i64 0, .int .i64 0] 35))) := Lib.hid ((Below.refl _ w).alloc (Nat.le_refl _) _)
  have hl6 : l.length ≤ 600 := hbn.1
  have HBN := Lib.hid hbn
  clear hbn
  go_enter Try.func21, Try.ntmps21
  go_wp2_with fail
  refine (DC.out _).mono ?_
  rintro _ w2 ⟨V, rfl, hcl, hfr, hb2⟩
  have HZ2 : Hid (Blk w2 w.heap.size #[.string ⟨#[]⟩, .string ⟨#[]⟩, .int .i64 0, .int .i64 0, .int .i64 0] 35) := Lib.hid ((hb2.block _ hZ0.out.lt).trans hZ0.out)
  have HB2 : Hid (Below w.heap.size w w2) := Lib.hid (hB0.out.trans (hb2.mono hB0.out.size))
  obtain ⟨A, cap, rfl, _, _⟩ := hcl.form
  have HCL := Lib.hid hcl
  have HFR : Hid (∀ p, A = some p → p.block ≠ w.heap.size) := Lib.hid (fun p hp => by have := hfr p _ _ (by rw [hp]); simp at this; omega)
  clear hb2 hcl hfr
  go_wp2
  go_loopw [11] (fun ii wr => ∃ k : Nat, k ≤ l.length ∧ ii = .int .i64 k ∧ Hid (Node.seekGo key (l.drop k) k = I) ∧ Below w2.heap.size w2 wr) (fun ii _ => l.length - (intOf ii).toNat)
  case atStart => exact ⟨0, by omega, rfl, Lib.hid HI0.out, Below.refl _ _⟩
  case round =>
    obtain ⟨k, hk, rfl, HG, hBs⟩ := hrel
    by_cases hkl : k < l.length
    · have t1 : decide (k < l.length) = true := decide_eq_true hkl
      obtain ⟨b, off, hA, hlt, c0, c1, c2, c3, c4⟩ := (HCL.out.below hBs).get k hkl
      have hne : b ≠ w.heap.size := HFR.out _ hA
      have hne2 : w.heap.size ≠ b := fun e => hne e.symm
      have hsz := HBN.out.at_ k hkl
      have LQ := fun w => less_any l[k].key key (by omega) w
      have i0 : (0 : Int) ≤ (k : Int) := by omega
      have i1 : (k : Int) < (l.length : Int) := by omega
      obtain ⟨c, hcc⟩ : ∃ c, cmpL l[k].key.data.toList key.data.toList = c := ⟨_, rfl⟩
      have hck : Node.cmpK l[k] key = c := hcc
      simp only [hcc] at LQ
      have HX : Hid (Node.cellAt l k = l[k]) := Lib.hid (by unfold Node.cellAt; rw [List.getD_eq_getElem?_getD, List.getElem?_eq_getElem hkl]; rfl)
      by_cases hc0 : 0 ≤ c
      · have d1 : decide (0 ≤ c) = true := decide_eq_true hc0
        have hIk : I = k := by rw [← HG.out]; exact Node.seekGo_here key l k hkl (by rw [hck]; exact hc0)
        have HI : Hid (I = k) := Lib.hid hIk
        obtain ⟨q, hq⟩ : ∃ q, (l[k].key.toList == key.toList) = q := ⟨_, rfl⟩
        have HQ : Hid (Q = q) := Lib.hid (by
          rw [← HQ0.out, ← HC0.out, hIk, decide_eq_true hkl, HX.out, ← hq, Bool.true_and]
          by_cases e : l[k].key = key
          · rw [decide_eq_true e, beq_str_true e]
          · rw [decide_eq_false e, beq_str_false e])
        obtain ⟨⟨ck, cv, co, cz, cc⟩, hx⟩ : ∃ x, l[k] = x := ⟨_, rfl⟩
        have HC : Hid (C = ⟨ck, cv, co, cz, cc⟩) := Lib.hid (by rw [← HC0.out, hIk, HX.out, hx])
        simp only [hx] at c0 c1 c2 c3 c4 LQ hq
        have LQ := fun w => Lib.hid (LQ w)
        have HBs := Lib.hid hBs
        subst hA
        clear hx hck hcc hIk hBs hsz
        go_wp2_with fail
        refine (LQ _).out.mono ?_
        rintro _ w3 ⟨rfl, hb3⟩
        have q0 := (hb3.cell (p := ⟨b, off + k * 5, none⟩) hlt).trans c0
        have q1 := (hb3.cell (p := ⟨b, off + k * 5 + 1, none⟩) hlt).trans c1
        have q2 := (hb3.cell (p := ⟨b, off + k * 5 + 2, none⟩) hlt).trans c2
        have q3 := (hb3.cell (p := ⟨b, off + k * 5 + 3, none⟩) hlt).trans c3
        have q4 := (hb3.cell (p := ⟨b, off + k * 5 + 4, none⟩) hlt).trans c4
        have hlt3 : b < w3.heap.size := Nat.lt_of_lt_of_le hlt hb3.size
        have hB23 := HBs.out.trans (hb3.mono HBs.out.size)
        have HZr : Hid (Blk w3 w.heap.size #[.string ⟨#[]⟩, .string ⟨#[]⟩, .int .i64 0, .int .i64 0, .int .i64 0] 35) := Lib.hid ((hB23.block _ HZ2.out.lt).trans HZ2.out)
        have HBr : Hid (Below w.heap.size w w3) := Lib.hid (HB2.out.trans (hB23.mono HB2.out.size))
        have z0 : w3.cell? ⟨w.heap.size, 0, none⟩ = some (.string ⟨#[]⟩) := HZr.out.cell 0
        have g0 := HZr.out.free 0
        have z1 : w3.cell? ⟨w.heap.size, 1, none⟩ = some (.string ⟨#[]⟩) := HZr.out.cell 1
        have g1 := HZr.out.free 1
        have z2 : w3.cell? ⟨w.heap.size, 2, none⟩ = some (.int .i64 0) := HZr.out.cell 2
        have g2 := HZr.out.free 2
        have z3 : w3.cell? ⟨w.heap.size, 3, none⟩ = some (.int .i64 0) := HZr.out.cell 3
        have g3 := HZr.out.free 3
        have z4 : w3.cell? ⟨w.heap.size, 4, none⟩ = some (.int .i64 0) := HZr.out.cell 4
        have g4 := HZr.out.free 4
        have zlt := HZr.out.lt
        clear hb3 hB23 c0 c1 c2 c3 c4
        go_wp2
        go_region
        all_goals
          go_wp2
          obtain ⟨hS, hB⟩ := stored5c HZr.out.drew HBr.out.drew (.string ck) (.string cv) (.int .i64 co) (.int .i64 cz) (.int .i64 cc)
          refine bodyPost_ret (results_mid rfl _ _ w.heap.size 35 _ (0, 0) _ rfl hS Try.underlying35 rfl (by kernel_rfl)) rfl ⟨?_, hB⟩
          rw [HI.out, HC.out, HQ.out]
          rfl
      · have d1 : decide (0 ≤ c) = false := decide_eq_false hc0
        have HG' : Hid (Node.seekGo key (l.drop (k + 1)) (k + 1) = I) := Lib.hid (by rw [← HG.out]; exact (Node.seekGo_next key l k hkl (by rw [hck]; exact hc0)).symm)
        obtain ⟨ck, hx⟩ : ∃ x, l[k].key = x := ⟨_, rfl⟩
        simp only [hx] at c0 LQ
        have LQ := fun w => Lib.hid (LQ w)
        have HBs := Lib.hid hBs
        subst hA
        clear hx hck hcc hBs hsz c1 c2 c3 c4
        go_wp2_with fail
        refine (LQ _).out.mono ?_
        rintro _ w3 ⟨rfl, hb3⟩
        go_wp2
        go_roundw
        case rel => exact ⟨k + 1, by omega, by go_num, HG', HBs.out.trans (hb3.mono HBs.out.size)⟩
        case measure => simp [intOf]; omega
    · obtain rfl : k = l.length := by omega
      have t1 : decide (l.length < l.length) = false := decide_eq_false (by omega)
      have HI : Hid (I = l.length) := Lib.hid (by rw [← HG.out]; exact Node.seekGo_end key l _ (Nat.le_refl _))
      have HC : Hid (C = CV.none) := Lib.hid (by rw [← HC0.out, HI.out]; unfold Node.cellAt; rw [List.getD_eq_getElem?_getD, List.getElem?_eq_none (Nat.le_refl _)]; rfl)
      have HQ : Hid (Q = false) := Lib.hid (by rw [← HQ0.out, HI.out, decide_eq_false (Nat.lt_irrefl _)]; rfl)
      have HZr : Hid (Blk wr w.heap.size #[.string ⟨#[]⟩, .string ⟨#[]⟩, .int .i64 0, .int .i64 0, .int .i64 0] 35) := Lib.hid ((hBs.block _ HZ2.out.lt).trans HZ2.out)
      have HBr : Hid (Below w.heap.size w wr) := Lib.hid (HB2.out.trans (hBs.mono HB2.out.size))
      have z0 : wr.cell? ⟨w.heap.size, 0, none⟩ = some (.string ⟨#[]⟩) := HZr.out.cell 0
      have g0 := HZr.out.free 0
      have z1 : wr.cell? ⟨w.heap.size, 1, none⟩ = some (.string ⟨#[]⟩) := HZr.out.cell 1
      have g1 := HZr.out.free 1
      have z2 : wr.cell? ⟨w.heap.size, 2, none⟩ = some (.int .i64 0) := HZr.out.cell 2
      have g2 := HZr.out.free 2
      have z3 : wr.cell? ⟨w.heap.size, 3, none⟩ = some (.int .i64 0) := HZr.out.cell 3
      have g3 := HZr.out.free 3
      have z4 : wr.cell? ⟨w.heap.size, 4, none⟩ = some (.int .i64 0) := HZr.out.cell 4
      have g4 := HZr.out.free 4
      have zlt := HZr.out.lt
      clear hBs
      go_wp2
      obtain ⟨hS, hB⟩ := stored5c HZr.out HBr.out (.string ⟨#[]⟩) (.string ⟨#[]⟩) (.int .i64 0) (.int .i64 0) (.int .i64 0)
      refine bodyPost_ret (results_mid rfl _ _ w.heap.size 35 _ (0, 0) _ rfl hS Try.underlying35 rfl (by kernel_rfl)) rfl ⟨?_, hB⟩
      rw [HI.out, HC.out, HQ.out]
      rfl
set_option maxRecDepth 100000 in
set_option maxHeartbeats 3200000 in
theorem rseek_branch (w : World) (s key : ByteArray) (l : List CV) (hbn : Bnd l) (hpos : 0 < l.length) (DC : Hid (∀ w, Calls Try.prog 19 #[.bool false, .string s] w fun e w' => ∃ V, e = .returned (.tuple #[V, .int .i64 0]) ∧ CellsAt w' V l ∧ Fresh w.heap.size V ∧ Below w.heap.size w w')) : Calls Try.prog 21 #[.bool false, .string s, .string key] w fun e w' => e = .returned (.tuple #[.int .i64 (Node.seekI false l key : Nat), (Node.cellAt l (Node.seekI false l key)).v, .bool (decide (Node.seekI false l key < l.length) && decide ((Node.cellAt l (Node.seekI false l key)).key = key))]) ∧ Below w.heap.size w w' := by
  obtain ⟨I, hI⟩ : ∃ I, Node.seekI false l key = I := ⟨_, rfl⟩
  have HI0 : Hid (Node.lastLe key l l.length = I) := Lib.hid (by rw [← hI]; rfl)
  rw [hI]
  obtain ⟨C, hC⟩ : ∃ C, Node.cellAt l I = C := ⟨_, rfl⟩
  obtain ⟨Q, hQ⟩ : ∃ Q, (decide (I < l.length) && decide (C.key = key)) = Q := ⟨_, rfl⟩
  rw [hC, hQ]
  have HC0 := Lib.hid hC
  have HQ0 := Lib.hid hQ
  have HLT : Hid (∀ n, n ≤ l.length → Node.lastLe key l n < l.length) := Lib.hid (fun n hn => Node.lastLe_lt key l n hn hpos)
  clear hI hC hQ
  have hz := zeroC
  have hZ0 : Hid (Blk (w.alloc (.cells #[.string ⟨#[]⟩, .string ⟨#[]⟩, .int .i64 0, .int .i64 0, .int .i64 0] 35)) w.heap.size #[.string ⟨#[]⟩, .string ⟨#[]⟩, .int .i64 0, .int .i64 0, .int .i64 0] 35) := Lib.hid (Blk.new w _ _)
  have hB0 : Hid (Below w.heap.size w (w.alloc (.cells #[.string ⟨#[]⟩, .string ⟨#[]⟩, .int .i64 0, .int .i64 0, .int .i64 0] 35))) := Lib.hid ((Below.refl _ w).alloc (Nat.le_refl _) _)
  have hl6 : l.length ≤ 600 := hbn.1
  have HBN := Lib.hid hbn
  clear hbn
  go_enter Try.func21, Try.ntmps21
  go_wp2_with fail
  refine (DC.out _).mono ?_
  rintro _ w2 ⟨V, rfl, hcl, hfr, hb2⟩
  have HZ2 : Hid (Blk w2 w.heap.size #[.string ⟨#[]⟩, .string ⟨#[]⟩, .int .i64 0, .int .i64 0, .int .i64 0] 35) := Lib.hid ((hb2.block _ hZ0.out.lt).trans hZ0.out)
  have HB2 : Hid (Below w.heap.size w w2) := Lib.hid (hB0.out.trans (hb2.mono hB0.out.size))
  obtain ⟨A, cap, rfl, _, _⟩ := hcl.form
  have HCL := Lib.hid hcl
  have HFR : Hid (∀ p, A = some p → p.block ≠ w.heap.size) := Lib.hid (fun p hp => by have := hfr p _ _ (by rw [hp]); simp at this; omega)
  clear hb2 hcl hfr
  go_wp2
  go_loopw [12, 13] (fun bb ii wr => ∃ k j : Nat, k ≤ l.length ∧ bb = .int .i64 j ∧ ii = .int .i64 k ∧ Hid (j = Node.lastLe key l k) ∧ Below w2.heap.size w2 wr) (fun _ ii _ => l.length - (intOf ii).toNat)
  case atStart => exact ⟨0, 0, by omega, rfl, rfl, Lib.hid rfl, Below.refl _ _⟩
  case round =>
    obtain ⟨k, j, hk, rfl, rfl, HJ, hBs⟩ := hrel
    by_cases hkl : k < l.length
    · have t1 : decide (k < l.length) = true := decide_eq_true hkl
      obtain ⟨b, off, hA, hlt, c0, c1, c2, c3, c4⟩ := (HCL.out.below hBs).get k hkl
      have hne : b ≠ w.heap.size := HFR.out _ hA
      have hne2 : w.heap.size ≠ b := fun e => hne e.symm
      have hsz := HBN.out.at_ k hkl
      have LQ := fun w => less_any l[k].key key (by omega) w
      have i0 : (0 : Int) ≤ (k : Int) := by omega
      have i1 : (k : Int) < (l.length : Int) := by omega
      obtain ⟨c, hcc⟩ : ∃ c, cmpL l[k].key.data.toList key.data.toList = c := ⟨_, rfl⟩
      have hck : Node.cmpK l[k] key = c := hcc
      simp only [hcc] at LQ
      obtain ⟨ck, hx⟩ : ∃ x, l[k].key = x := ⟨_, rfl⟩
      simp only [hx] at c0 LQ
      have LQ := fun w => Lib.hid (LQ w)
      have HBs := Lib.hid hBs
      have HST : Hid (Node.lastLe key l (k + 1) = if c ≤ 0 then k else j) := Lib.hid (by rw [Node.lastLe, dif_pos hkl, hck, ← HJ.out])
      subst hA
      clear hx hck hcc hBs hsz c1 c2 c3 c4
      by_cases hc0 : c ≤ 0
      · have d1 : decide (c ≤ 0) = true := decide_eq_true hc0
        have HJ' : Hid (k = Node.lastLe key l (k + 1)) := Lib.hid (by rw [HST.out, if_pos hc0])
        clear hc0
        go_wp2_with fail
        refine (LQ _).out.mono ?_
        rintro _ w3 ⟨rfl, hb3⟩
        go_wp2
        go_roundw
        case rel => exact ⟨k + 1, k, by omega, rfl, by go_num, HJ', HBs.out.trans (hb3.mono HBs.out.size)⟩
        case measure => simp [intOf]; omega
      · have d1 : decide (c ≤ 0) = false := decide_eq_false hc0
        have HJ' : Hid (j = Node.lastLe key l (k + 1)) := Lib.hid (by rw [HST.out, if_neg hc0])
        clear hc0
        go_wp2_with fail
        refine (LQ _).out.mono ?_
        rintro _ w3 ⟨rfl, hb3⟩
        go_wp2
        go_roundw
        case rel => exact ⟨k + 1, j, by omega, rfl, by go_num, HJ', HBs.out.trans (hb3.mono HBs.out.size)⟩
        case measure => simp [intOf]; omega
    · obtain rfl : k = l.length := by omega
      have t1 : decide (l.length < l.length) = false := decide_eq_false (by omega)
      have hjl : j < l.length := by rw [HJ.out]; exact HLT.out _ (Nat.le_refl _)
      have hIj : I = j := by rw [← HI0.out, HJ.out]
      have HI : Hid (I = j) := Lib.hid hIj
      have hkl := hjl
      obtain ⟨b, off, hA, hlt, c0, c1, c2, c3, c4⟩ := (HCL.out.below hBs).get j hkl
      have hne : b ≠ w.heap.size := HFR.out _ hA
      have hne2 : w.heap.size ≠ b := fun e => hne e.symm
      have HX : Hid (Node.cellAt l j = l[j]) := Lib.hid (by unfold Node.cellAt; rw [List.getD_eq_getElem?_getD, List.getElem?_eq_getElem hjl]; rfl)
      obtain ⟨q, hq⟩ : ∃ q, (l[j].key.toList == key.toList) = q := ⟨_, rfl⟩
      have HQ : Hid (Q = q) := Lib.hid (by
        rw [← HQ0.out, ← HC0.out, hIj, decide_eq_true hjl, HX.out, ← hq, Bool.true_and]
        by_cases e : l[j].key = key
        · rw [decide_eq_true e, beq_str_true e]
        · rw [decide_eq_false e, beq_str_false e])
      obtain ⟨⟨ck, cv, co, cz, cc⟩, hx⟩ : ∃ x, l[j] = x := ⟨_, rfl⟩
      have HC : Hid (C = ⟨ck, cv, co, cz, cc⟩) := Lib.hid (by rw [← HC0.out, hIj, HX.out, hx])
      simp only [hx] at c0 c1 c2 c3 c4 hq
      have i0 : (0 : Int) ≤ (j : Int) := by omega
      have i1 : (j : Int) < (l.length : Int) := by omega
      have HZr : Hid (Blk wr w.heap.size #[.string ⟨#[]⟩, .string ⟨#[]⟩, .int .i64 0, .int .i64 0, .int .i64 0] 35) := Lib.hid ((hBs.block _ HZ2.out.lt).trans HZ2.out)
      have HBr : Hid (Below w.heap.size w wr) := Lib.hid (HB2.out.trans (hBs.mono HB2.out.size))
      have z0 : wr.cell? ⟨w.heap.size, 0, none⟩ = some (.string ⟨#[]⟩) := HZr.out.cell 0
      have g0 := HZr.out.free 0
      have z1 : wr.cell? ⟨w.heap.size, 1, none⟩ = some (.string ⟨#[]⟩) := HZr.out.cell 1
      have g1 := HZr.out.free 1
      have z2 : wr.cell? ⟨w.heap.size, 2, none⟩ = some (.int .i64 0) := HZr.out.cell 2
      have g2 := HZr.out.free 2
      have z3 : wr.cell? ⟨w.heap.size, 3, none⟩ = some (.int .i64 0) := HZr.out.cell 3
      have g3 := HZr.out.free 3
      have z4 : wr.cell? ⟨w.heap.size, 4, none⟩ = some (.int .i64 0) := HZr.out.cell 4
      have g4 := HZr.out.free 4
      have zlt := HZr.out.lt
      subst hA
      clear hBs hx hIj
      go_wp2
      go_region
      all_goals
        go_wp2
        obtain ⟨hS, hB⟩ := stored5c HZr.out.drew HBr.out.drew (.string ck) (.string cv) (.int .i64 co) (.int .i64 cz) (.int .i64 cc)
        refine bodyPost_ret (results_mid rfl _ _ w.heap.size 35 _ (0, 0) _ rfl hS Try.underlying35 rfl (by kernel_rfl)) rfl ⟨?_, hB⟩
        rw [HI.out, HC.out, HQ.out]
        rfl
theorem rseek_ok (w : World) (leaf : Bool) (s key : ByteArray) : Calls Try.prog 21 #[.bool leaf, .string s, .string key] w fun e w' => e = .returned (.tuple #[.int .i64 (Node.seekV leaf s key).1, (Node.seekV leaf s key).2.1.v, .bool (Node.seekV leaf s key).2.2]) ∧ Below w.heap.size w w' := by
  have DC := fun w => rdec_ok w leaf s
  cases hd : Node.dec leaf s with
  | none =>
    rw [hd] at DC
    have e : Node.seekV leaf s key = (0, CV.none, false) := by unfold Node.seekV; rw [hd]
    rw [e]
    exact rseek_none w leaf s key (Lib.hid (fun w => (DC w).mono fun _ _ ⟨V, he, _, _, hb⟩ => ⟨V, he, hb⟩))
  | some l =>
    rw [hd] at DC
    have e : Node.seekV leaf s key = (((Node.seekI leaf l key : Nat) : Int), Node.cellAt l (Node.seekI leaf l key), decide (Node.seekI leaf l key < l.length) && decide ((Node.cellAt l (Node.seekI leaf l key)).key = key)) := by unfold Node.seekV; rw [hd]
    rw [e]
    have DC2 : Hid (∀ w, Calls Try.prog 19 #[.bool leaf, .string s] w fun e w' => ∃ V, e = .returned (.tuple #[V, .int .i64 0]) ∧ CellsAt w' V l ∧ Fresh w.heap.size V ∧ Below w.heap.size w w') := Lib.hid DC
    have hfit := Node.dec_fits hd
    have hbn := Node.fits_bnd hfit
    cases leaf
    · exact rseek_branch w s key l hbn (Node.branch_pos hfit) DC2
    · exact rseek_leaf w s key l hbn DC2
end Go.Proofs.Ytegmffeokfahjaa
