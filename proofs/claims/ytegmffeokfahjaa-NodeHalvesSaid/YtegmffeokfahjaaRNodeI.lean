/-
  Contracts of the reference (rollbookref06): Decode. Conditions: texts of at most 2000 bytes.
-/
import Derived.Test.YtegmffeokfahjaaRNodeH
namespace Go.Proofs.Ytegmffeokfahjaa
open Go.RowKit
theorem zeroC : ∀ w, (zeroValue 35).run Try.prog w = .ok (.agg #[.string ⟨#[]⟩, .string ⟨#[]⟩, .int .i64 0, .int .i64 0, .int .i64 0]) w := fun w => by kernel_rfl
/-- a slice of blocks from B on -/
def Fresh (B : Nat) (V : Value) : Prop := ∀ p n c, V = .slice (some p) n c → B ≤ p.block
theorem fresh_nil (B : Nat) : Fresh B (.slice none 0 0) := fun p n c h => by injection h with h; cases h
theorem OwnC.fresh {w : World} {base : Nat} {v : Value} {L : List CV} (h : OwnC w base v L) : Fresh base v := by
  intro p n c e
  subst e
  have hl := World.ownsRow.lt h
  rcases h.2 with ⟨h1, _⟩ | ⟨g, cap, cur, h1, _⟩
  · injection h1 with h1; cases h1
  · injection h1 with h1 h2 h3
    injection h1 with h1
    subst h1
    exact (hl g (by simp [Value.ownBlock])).1
/-- what Decode leaves -/
def Decoded (w : World) (o : Option (List CV)) (e : Ending) (w' : World) : Prop :=
  ∃ V, e = .returned (.tuple #[V, .int .i64 (if o.isSome then 0 else 4)]) ∧ CellsAt w' V (o.getD []) ∧ Fresh w.heap.size V ∧ Below w.heap.size w w'
theorem nil_cells (w : World) : CellsAt w (.slice none 0 0) [] := ⟨none, 0, rfl, by simp, by omega, fun k hk => by simp at hk⟩
set_option maxRecDepth 100000 in
set_option maxHeartbeats 1600000 in
theorem rdec_long (w : World) (leaf : Bool) (s : ByteArray) (h : 488 < s.size) : Calls Try.prog 19 #[.bool leaf, .string s] w (Decoded w (Node.dec leaf s)) := by
  have d1 : decide ((488 : Int) < (s.size : Int)) = true := decide_eq_true (by omega)
  rw [Node.dec_long (by omega)]
  go_enter Try.func19, Try.ntmps19
  go_wp2
  go_ret2
  exact ⟨_, rfl, nil_cells _, fresh_nil _, Below.refl _ _⟩
/-- cells read so far -/
structure Got (leaf : Bool) (s : List UInt8) (n k a : Nat) (acc : List Node.CL) : Prop where
  len : acc.length = k
  le : k ≤ n
  few : k = 0 ∨ n ≤ 300
  from_ : 2 + 2 * n ≤ a
  upto : a ≤ 140000
  bnd : ∀ c ∈ acc.map CV.of, c.key.size ≤ 600 ∧ c.val.size ≤ 600
  same : Node.readGo leaf s (n - k) a acc = Node.readGo leaf s n (2 + 2 * n) []
theorem Got.Bnd {leaf : Bool} {s : List UInt8} {n k a : Nat} {acc : List Node.CL} (h : Got leaf s n k a acc) : Bnd (acc.map CV.of) := by
  refine ⟨?_, h.bnd⟩
  rw [List.length_map, h.len]
  have := h.few
  have := h.le
  omega
theorem Got.next {leaf : Bool} {s : List UInt8} {n k a : Nat} {acc : List Node.CL} (h : Got leaf s n k a acc) (hs : s.length ≤ 488) (hk : k < n) (ha : a < s.length) {c : Node.CL} {b : Nat} (hr : Node.readOne leaf s a = some (c, b)) (hab : a ≤ b) (hb : b ≤ 1000) (hc : c.key.length ≤ 600 ∧ c.val.length ≤ 600) : Got leaf s n (k + 1) b (acc ++ [c]) := by
  refine ⟨by rw [List.length_append, h.len]; rfl, hk, .inr (by have := h.from_; omega), by have := h.from_; omega, by omega, ?_, ?_⟩
  · intro x hx
    rw [List.map_append, List.mem_append] at hx
    rcases hx with hx | hx
    · exact h.bnd x hx
    · simp only [List.map_cons, List.map_nil, List.mem_singleton] at hx
      subst hx
      unfold CV.of
      simp only [ba_size]
      exact hc
  · rw [← h.same, Node.readGo_some leaf s (n - k) a acc ha (by omega) hr, show n - (k + 1) = n - k - 1 by omega]
set_option maxRecDepth 100000 in
set_option maxHeartbeats 6400000 in
theorem rdec_false (w : World) (s : ByteArray) (hs : s.size ≤ 488) : Calls Try.prog 19 #[.bool false, .string s] w (Decoded w (Node.dec false s)) := by
  have hz := zeroC
  have hz2 : ∀ w, (zeroValue 22).run Try.prog w = .ok (.slice none 0 0) w := fun w => by kernel_rfl
  have d1 : decide ((488 : Int) < (s.size : Int)) = false := decide_eq_false (by omega)
  have hl : s.data.toList.length = s.size := by rw [Array.length_toList]; rfl
  obtain ⟨R, hR⟩ : ∃ R, Node.dec false s = R := ⟨_, rfl⟩
  have hdec := Node.dec_read (leaf := false) hs
  rw [hR] at hdec
  rw [hR]
  obtain ⟨n, hn⟩ : ∃ n, Node.num s.data.toList 0 2 = n := ⟨_, rfl⟩
  have hn16 : n < 65536 := hn ▸ num_lt s.data.toList 0 2
  have A0 := fun w => rat_ok w s (by omega) 0 2 2 rfl (by omega) (by omega) (by omega)
  rw [hn] at hdec
  simp only [hn] at A0
  have A0 := fun w => Lib.hid (A0 w)
  have HD := Lib.hid hdec
  have HL := Lib.hid hl
  have m1 : IntKind.i64.wrap (2 * (n : Int)) = 2 * n := IntWalk.i64_in _ (by omega)
  have m2 : IntKind.i64.wrap (2 + 2 * (n : Int)) = 2 + 2 * n := IntWalk.i64_in _ (by omega)
  clear hdec hR hn hl
  go_enter Try.func19, Try.ntmps19
  go_wp2_with fail
  refine (A0 _).out.mono ?_
  rintro _ w1 ⟨rfl, hb1⟩
  have HB1 : Hid (Below w.heap.size w w1) := Lib.hid (((Below.refl _ w).alloc (Nat.le_refl _) (.cells #[] 35)).trans (hb1.mono (by simp)))
  have HO1 : Hid (OwnC w1 w.heap.size (.slice (some ⟨w.heap.size, 0, none⟩) 0 0) []) := Lib.hid (OwnC.kept (w := w.alloc (.cells #[] 35)) (World.ownsRow_made (size := 5) w #[] 0 (Nat.le_refl _) (by simp [maxLen]) rfl) hb1)
  clear hb1
  go_wp2
  go_loopw [6, 8, 9] (fun V aa ii wr => ∃ (k a : Nat) (acc : List Node.CL), aa = .int .i64 a ∧ ii = .int .i64 k ∧ OwnC wr w.heap.size V (acc.map CV.of) ∧ Hid (Got false s.data.toList n k a acc) ∧ Below w.heap.size w wr) (fun _ _ ii _ => n - (intOf ii).toNat)
  case atStart => exact ⟨0, 2 + 2 * n, [], by rfl, rfl, HO1.out, Lib.hid ⟨rfl, by omega, .inl rfl, by omega, by omega, fun c hc => by simp at hc, rfl⟩, HB1.out⟩
  case round =>
    obtain ⟨k, a, acc, rfl, rfl, hown, HG, hBr⟩ := hrel
    have hk := HG.out.le
    have ha := HG.out.upto
    have ENDS : Hid (¬ (k < n ∧ a < s.size) → R = if Node.fits false (acc.map CV.of) ∧ Node.encS false (acc.map CV.of) = s then some (acc.map CV.of) else none) := Lib.hid (fun h => by
      rw [HD.out, ← HG.out.same, Node.readGo_end false _ _ _ _ (by rw [HL.out]; omega)])
    have HOW := Lib.hid hown
    have HBr := Lib.hid hBr
    by_cases hin : k < n ∧ a < s.size
    · obtain ⟨hkn, has⟩ := hin
      have t1 : decide (k < n) = true := decide_eq_true hkn
      have t2 : decide (a < s.size) = true := decide_eq_true has
      have TC := fun w => rtext_any w s (by omega) a (by omega)
      have NON : Hid (Node.readOne false s.data.toList a = none → R = none) := Lib.hid (fun h => by
        rw [HD.out, ← HG.out.same, Node.readGo_none false _ _ _ _ (by rw [HL.out]; exact has) (by omega) h])
      have hgz : Hid (Blk (wr.alloc (.cells #[.string ⟨#[]⟩, .string ⟨#[]⟩, .int .i64 0, .int .i64 0, .int .i64 0] 35)) wr.heap.size #[.string ⟨#[]⟩, .string ⟨#[]⟩, .int .i64 0, .int .i64 0, .int .i64 0] 35) := Lib.hid (Blk.new wr _ _)
      have hgb : Hid (Below wr.heap.size wr (wr.alloc (.cells #[.string ⟨#[]⟩, .string ⟨#[]⟩, .int .i64 0, .int .i64 0, .int .i64 0] 35))) := Lib.hid ((Below.refl _ wr).alloc (Nat.le_refl _) _)
      clear hown hBr
      cases ht : Node.text s.data.toList a with
      | none =>
        simp only [ht] at TC
        unfold ttS ttA ttE at TC
        simp only at TC
        have TC := fun w => Lib.hid (TC w)
        have HRN : Hid (R = none) := Lib.hid (NON.out (by unfold Node.readOne; rw [ht]))
        clear ht
        go_wp2_with fail
        refine (TC _).out.mono ?_
        rintro _ w2 ⟨rfl, hb2⟩
        go_wp2
        go_ret2
        rw [HRN.out]
        exact ⟨_, rfl, nil_cells _, fresh_nil _, HBr.out.trans ((hgb.out.trans (hb2.mono hgb.out.size)).mono HBr.out.size)⟩
      | some q =>
        obtain ⟨t, b⟩ := q
        obtain ⟨tb1, tb2, tb3⟩ := text_bnd ht
        rw [HL.out] at tb1 tb2
        simp only [ht] at TC
        unfold ttS ttA ttE at TC
        simp only at TC
        obtain ⟨T, hT⟩ : ∃ T, ba t = T := ⟨_, rfl⟩
        simp only [hT] at TC
        have TC := fun w => Lib.hid (TC w)
        have lenb : (acc.map CV.of).length + 1 ≤ 4294967296 := by rw [List.length_map, HG.out.len]; omega
        have CC := fun w => rat_ok w s (by omega) b 4 4 rfl (by omega) (by omega) (by omega)
        obtain ⟨ch, hch⟩ : ∃ ch, Node.num s.data.toList b 4 = ch := ⟨_, rfl⟩
        simp only [hch] at CC
        have CC := fun w => Lib.hid (CC w)
        have HGN : Hid (Got false s.data.toList n (k + 1) (b + 4) (acc ++ [⟨t, ch, [], 0, 0⟩])) := Lib.hid (HG.out.next (by rw [HL.out]; exact hs) hkn (by rw [HL.out]; exact has) (by unfold Node.readOne; rw [ht]; simp only [Bool.false_eq_true, if_false]; rw [hch]) (by omega) (by omega) ⟨by simp only; omega, by simp⟩)
        have hcv : CV.of ⟨t, ch, [], 0, 0⟩ = ⟨T, ⟨#[]⟩, 0, 0, ch⟩ := by unfold CV.of; rw [hT]; rfl
        have HCV := Lib.hid hcv
        have m3 : IntKind.i64.wrap ((b : Int) + 4) = ((b + 4 : Nat) : Int) := by rw [IntWalk.i64_in _ (by omega)]; omega
        clear hch hT hcv ht
        go_wp2_with fail
        refine (TC _).out.mono ?_
        rintro _ w2 ⟨rfl, hb2⟩
        have hZ2 : Blk w2 wr.heap.size #[.string ⟨#[]⟩, .string ⟨#[]⟩, .int .i64 0, .int .i64 0, .int .i64 0] 35 := (hb2.block _ hgz.out.lt).trans hgz.out
        have HB2 : Hid (Below wr.heap.size wr w2) := Lib.hid (hgb.out.trans (hb2.mono hgb.out.size))
        have u0 : w2.cell? ⟨wr.heap.size, 0, none⟩ = some (.string ⟨#[]⟩) := hZ2.cell 0
        have f0 := hZ2.free 0
        have lt2 := hZ2.lt
        have HK2 : Hid (Blk (w2.setCell ⟨wr.heap.size, 0, none⟩ (.string T)) wr.heap.size #[.string T, .string ⟨#[]⟩, .int .i64 0, .int .i64 0, .int .i64 0] 35) := Lib.hid (hZ2.set 0 (.string T))
        have HB2' : Hid (Below wr.heap.size wr (w2.setCell ⟨wr.heap.size, 0, none⟩ (.string T))) := Lib.hid (HB2.out.setCell (p := ⟨wr.heap.size, 0, none⟩) (Nat.le_refl _) _)
        clear hZ2 hb2
        go_wp2_with fail
        refine (CC _).out.mono ?_
        rintro _ w3 ⟨rfl, hb3⟩
        have hK3 : Blk w3 wr.heap.size #[.string T, .string ⟨#[]⟩, .int .i64 0, .int .i64 0, .int .i64 0] 35 := (hb3.block _ HK2.out.lt).trans HK2.out
        have hB3 : Below wr.heap.size wr w3 := HB2'.out.trans (hb3.mono HB2'.out.size)
        have v4 : w3.cell? ⟨wr.heap.size, 4, none⟩ = some (.int .i64 0) := hK3.cell 4
        have f4 := hK3.free 4
        have lt3 := hK3.lt
        obtain ⟨wS, hwS⟩ : ∃ wS, w3.setCell ⟨wr.heap.size, 4, none⟩ (.int .i64 ch) = wS := ⟨_, rfl⟩
        have hKS : Blk wS wr.heap.size #[.string T, .string ⟨#[]⟩, .int .i64 0, .int .i64 0, .int .i64 ch] 35 := hwS ▸ hK3.set 4 (.int .i64 ch)
        have hBS : Below wr.heap.size wr wS := hwS ▸ hB3.setCell (p := ⟨wr.heap.size, 4, none⟩) (Nat.le_refl _) _
        have y0 : wS.cell? ⟨wr.heap.size, 0, none⟩ = some (.string T) := hKS.cell 0
        have y1 : wS.cell? ⟨wr.heap.size, 1, none⟩ = some (.string ⟨#[]⟩) := hKS.cell 1
        have y2 : wS.cell? ⟨wr.heap.size, 2, none⟩ = some (.int .i64 0) := hKS.cell 2
        have y3 : wS.cell? ⟨wr.heap.size, 3, none⟩ = some (.int .i64 0) := hKS.cell 3
        have y4 : wS.cell? ⟨wr.heap.size, 4, none⟩ = some (.int .i64 ch) := hKS.cell 4
        have hown3 := HOW.out.kept hBS
        have hge : w.heap.size ≤ wS.heap.size := Nat.le_trans HBr.out.size hBS.size
        have HB3 := Lib.hid (HBr.out.trans (hBS.mono HBr.out.size))
        clear hb3 hK3 hB3 hBS hKS u0 f0 lt2
        go_wp2_with (at_builtin; refine wpList_append_cell _ rfl (.tmp 88) (.tmp 90) 22 rfl _ und22s cellInfo _ _ rfl hown3 ⟨T, ⟨#[]⟩, 0, 0, ch⟩ rfl lenb hge ?_; intro V4 w4 hown4 hbel4)
        go_roundw
        case rel => exact ⟨k + 1, b + 4, acc ++ [⟨t, ch, [], 0, 0⟩], by rfl, by go_num, by rw [List.map_append, List.map_cons, List.map_nil, HCV.out]; exact hown4, HGN, HB3.out.trans hbel4⟩
        case measure => simp [intOf]; omega

    · have HFR := Lib.hid hown.fresh
      have hcl := hown.cells (by rw [List.length_map, HG.out.len]; omega)
      have EC := renc_ok wr false u6 (acc.map CV.of) hcl HG.out.Bnd
      have HRR := Lib.hid (ENDS.out hin)
      obtain ⟨L, hL⟩ : ∃ L, acc.map CV.of = L := ⟨_, rfl⟩
      rw [hL] at EC hcl HRR
      have HCL := Lib.hid hcl
      obtain ⟨S, hS⟩ : ∃ S, Node.encS false L = S := ⟨_, rfl⟩
      obtain ⟨E, hE⟩ : ∃ E, Node.encE false L = E := ⟨_, rfl⟩
      rw [hS, hE] at EC
      rw [hS] at HRR
      have HEF : Hid (E = 0 ↔ Node.fits false L = true) := Lib.hid (by
        rw [← hE]
        unfold Node.encE Node.fits
        cases Node.right false L
        · simp
        · simp only [if_true, Bool.true_and, decide_eq_true_eq]
          split
          · rename_i h; exact ⟨fun _ => h, fun _ => rfl⟩
          · rename_i h; exact ⟨fun h' => by simp at h', fun h' => absurd h' h⟩)
      have EC := Lib.hid EC
      obtain ⟨sA, sl, sc, hV⟩ : ∃ A l c, u6 = Value.slice A l c := by
        obtain ⟨A, c, hv, _, _⟩ := hcl.form
        exact ⟨A, _, c, hv⟩
      subst hV
      clear hcl hL hS hE hown hBr ENDS HOW
      by_cases hkn : k < n
      · have t1 : decide (k < n) = true := decide_eq_true hkn
        have t2 : decide (a < s.size) = false := decide_eq_false (fun h => hin ⟨hkn, h⟩)
        by_cases hf : Node.fits false L = true
        · have hE0 : E = 0 := HEF.out.2 hf
          subst hE0
          have e0 : ((0 : Int) != 0) = false := rfl
          by_cases hss : S = s
          · have e1 : (S.toList == s.toList) = true := beq_str_true hss
            have HRN : Hid (R = some L) := Lib.hid (by rw [HRR.out, if_pos ⟨hf, hss⟩])
            clear hf hss
            go_wp2_with fail
            refine EC.out.mono ?_
            rintro _ w2 ⟨rfl, hb2⟩
            go_wp2
            go_ret2
            rw [HRN.out]
            exact ⟨_, rfl, HCL.out.below hb2, HFR.out, HBr.out.trans (hb2.mono HBr.out.size)⟩
          · have e1 : (S.toList == s.toList) = false := beq_str_false hss
            have HRN : Hid (R = none) := Lib.hid (by rw [HRR.out, if_neg (fun h => hss h.2)])
            clear hf hss
            go_wp2_with fail
            refine EC.out.mono ?_
            rintro _ w2 ⟨rfl, hb2⟩
            go_wp2
            go_ret2
            rw [HRN.out]
            exact ⟨_, rfl, nil_cells _, fresh_nil _, HBr.out.trans (hb2.mono HBr.out.size)⟩
        · have e0 : (E != 0) = true := by rw [bne_iff_ne]; exact fun h => hf (HEF.out.1 h)
          have HRN : Hid (R = none) := Lib.hid (by rw [HRR.out, if_neg (fun h => hf h.1)])
          clear hf
          go_wp2_with fail
          refine EC.out.mono ?_
          rintro _ w2 ⟨rfl, hb2⟩
          go_wp2
          go_ret2
          rw [HRN.out]
          exact ⟨_, rfl, nil_cells _, fresh_nil _, HBr.out.trans (hb2.mono HBr.out.size)⟩
      · have t1 : decide (k < n) = false := decide_eq_false hkn
        by_cases hf : Node.fits false L = true
        · have hE0 : E = 0 := HEF.out.2 hf
          subst hE0
          have e0 : ((0 : Int) != 0) = false := rfl
          by_cases hss : S = s
          · have e1 : (S.toList == s.toList) = true := beq_str_true hss
            have HRN : Hid (R = some L) := Lib.hid (by rw [HRR.out, if_pos ⟨hf, hss⟩])
            clear hf hss
            go_wp2_with fail
            refine EC.out.mono ?_
            rintro _ w2 ⟨rfl, hb2⟩
            go_wp2
            go_ret2
            rw [HRN.out]
            exact ⟨_, rfl, HCL.out.below hb2, HFR.out, HBr.out.trans (hb2.mono HBr.out.size)⟩
          · have e1 : (S.toList == s.toList) = false := beq_str_false hss
            have HRN : Hid (R = none) := Lib.hid (by rw [HRR.out, if_neg (fun h => hss h.2)])
            clear hf hss
            go_wp2_with fail
            refine EC.out.mono ?_
            rintro _ w2 ⟨rfl, hb2⟩
            go_wp2
            go_ret2
            rw [HRN.out]
            exact ⟨_, rfl, nil_cells _, fresh_nil _, HBr.out.trans (hb2.mono HBr.out.size)⟩
        · have e0 : (E != 0) = true := by rw [bne_iff_ne]; exact fun h => hf (HEF.out.1 h)
          have HRN : Hid (R = none) := Lib.hid (by rw [HRR.out, if_neg (fun h => hf h.1)])
          clear hf
          go_wp2_with fail
          refine EC.out.mono ?_
          rintro _ w2 ⟨rfl, hb2⟩
          go_wp2
          go_ret2
          rw [HRN.out]
          exact ⟨_, rfl, nil_cells _, fresh_nil _, HBr.out.trans (hb2.mono HBr.out.size)⟩
set_option maxRecDepth 100000 in
set_option maxHeartbeats 6400000 in
theorem rdec_true (w : World) (s : ByteArray) (hs : s.size ≤ 488) : Calls Try.prog 19 #[.bool true, .string s] w (Decoded w (Node.dec true s)) := by
  have hz := zeroC
  have hz2 : ∀ w, (zeroValue 22).run Try.prog w = .ok (.slice none 0 0) w := fun w => by kernel_rfl
  have d1 : decide ((488 : Int) < (s.size : Int)) = false := decide_eq_false (by omega)
  have hl : s.data.toList.length = s.size := by rw [Array.length_toList]; rfl
  obtain ⟨R, hR⟩ : ∃ R, Node.dec true s = R := ⟨_, rfl⟩
  have hdec := Node.dec_read (leaf := true) hs
  rw [hR] at hdec
  rw [hR]
  obtain ⟨n, hn⟩ : ∃ n, Node.num s.data.toList 0 2 = n := ⟨_, rfl⟩
  have hn16 : n < 65536 := hn ▸ num_lt s.data.toList 0 2
  have A0 := fun w => rat_ok w s (by omega) 0 2 2 rfl (by omega) (by omega) (by omega)
  rw [hn] at hdec
  simp only [hn] at A0
  have A0 := fun w => Lib.hid (A0 w)
  have HD := Lib.hid hdec
  have HL := Lib.hid hl
  have m1 : IntKind.i64.wrap (2 * (n : Int)) = 2 * n := IntWalk.i64_in _ (by omega)
  have m2 : IntKind.i64.wrap (2 + 2 * (n : Int)) = 2 + 2 * n := IntWalk.i64_in _ (by omega)
  clear hdec hR hn hl
  go_enter Try.func19, Try.ntmps19
  go_wp2_with fail
  refine (A0 _).out.mono ?_
  rintro _ w1 ⟨rfl, hb1⟩
  have HB1 : Hid (Below w.heap.size w w1) := Lib.hid (((Below.refl _ w).alloc (Nat.le_refl _) (.cells #[] 35)).trans (hb1.mono (by simp)))
  have HO1 : Hid (OwnC w1 w.heap.size (.slice (some ⟨w.heap.size, 0, none⟩) 0 0) []) := Lib.hid (OwnC.kept (w := w.alloc (.cells #[] 35)) (World.ownsRow_made (size := 5) w #[] 0 (Nat.le_refl _) (by simp [maxLen]) rfl) hb1)
  clear hb1
  go_wp2
  go_loopw [6, 8, 9] (fun V aa ii wr => ∃ (k a : Nat) (acc : List Node.CL), aa = .int .i64 a ∧ ii = .int .i64 k ∧ OwnC wr w.heap.size V (acc.map CV.of) ∧ Hid (Got true s.data.toList n k a acc) ∧ Below w.heap.size w wr) (fun _ _ ii _ => n - (intOf ii).toNat)
  case atStart => exact ⟨0, 2 + 2 * n, [], by rfl, rfl, HO1.out, Lib.hid ⟨rfl, by omega, .inl rfl, by omega, by omega, fun c hc => by simp at hc, rfl⟩, HB1.out⟩
  case round =>
    obtain ⟨k, a, acc, rfl, rfl, hown, HG, hBr⟩ := hrel
    have hk := HG.out.le
    have ha := HG.out.upto
    have ENDS : Hid (¬ (k < n ∧ a < s.size) → R = if Node.fits true (acc.map CV.of) ∧ Node.encS true (acc.map CV.of) = s then some (acc.map CV.of) else none) := Lib.hid (fun h => by
      rw [HD.out, ← HG.out.same, Node.readGo_end true _ _ _ _ (by rw [HL.out]; omega)])
    have HOW := Lib.hid hown
    have HBr := Lib.hid hBr
    by_cases hin : k < n ∧ a < s.size
    · obtain ⟨hkn, has⟩ := hin
      have t1 : decide (k < n) = true := decide_eq_true hkn
      have t2 : decide (a < s.size) = true := decide_eq_true has
      have TC := fun w => rtext_any w s (by omega) a (by omega)
      have NON : Hid (Node.readOne true s.data.toList a = none → R = none) := Lib.hid (fun h => by
        rw [HD.out, ← HG.out.same, Node.readGo_none true _ _ _ _ (by rw [HL.out]; exact has) (by omega) h])
      have hgz : Hid (Blk (wr.alloc (.cells #[.string ⟨#[]⟩, .string ⟨#[]⟩, .int .i64 0, .int .i64 0, .int .i64 0] 35)) wr.heap.size #[.string ⟨#[]⟩, .string ⟨#[]⟩, .int .i64 0, .int .i64 0, .int .i64 0] 35) := Lib.hid (Blk.new wr _ _)
      have hgb : Hid (Below wr.heap.size wr (wr.alloc (.cells #[.string ⟨#[]⟩, .string ⟨#[]⟩, .int .i64 0, .int .i64 0, .int .i64 0] 35))) := Lib.hid ((Below.refl _ wr).alloc (Nat.le_refl _) _)
      clear hown hBr
      cases ht : Node.text s.data.toList a with
      | none =>
        simp only [ht] at TC
        unfold ttS ttA ttE at TC
        simp only at TC
        have TC := fun w => Lib.hid (TC w)
        have HRN : Hid (R = none) := Lib.hid (NON.out (by unfold Node.readOne; rw [ht]))
        clear ht
        go_wp2_with fail
        refine (TC _).out.mono ?_
        rintro _ w2 ⟨rfl, hb2⟩
        go_wp2
        go_ret2
        rw [HRN.out]
        exact ⟨_, rfl, nil_cells _, fresh_nil _, HBr.out.trans ((hgb.out.trans (hb2.mono hgb.out.size)).mono HBr.out.size)⟩
      | some q =>
        obtain ⟨t, b⟩ := q
        obtain ⟨tb1, tb2, tb3⟩ := text_bnd ht
        rw [HL.out] at tb1 tb2
        simp only [ht] at TC
        unfold ttS ttA ttE at TC
        simp only at TC
        obtain ⟨T, hT⟩ : ∃ T, ba t = T := ⟨_, rfl⟩
        simp only [hT] at TC
        have TC := fun w => Lib.hid (TC w)
        have lenb : (acc.map CV.of).length + 1 ≤ 4294967296 := by rw [List.length_map, HG.out.len]; omega
        have MC := fun w => rat_ok w s (by omega) b 1 1 rfl (by omega) (by omega) (by omega)
        obtain ⟨mk, hmk⟩ : ∃ mk, Node.num s.data.toList b 1 = mk := ⟨_, rfl⟩
        simp only [hmk] at MC
        have MC := fun w => Lib.hid (MC w)
        have m3 : IntKind.i64.wrap ((b : Int) + 1) = ((b + 1 : Nat) : Int) := by rw [IntWalk.i64_in _ (by omega)]; omega
        have m4 : IntKind.i64.wrap ((b : Int) + 5) = ((b + 5 : Nat) : Int) := by rw [IntWalk.i64_in _ (by omega)]; omega
        have m5 : IntKind.i64.wrap ((b : Int) + 9) = ((b + 9 : Nat) : Int) := by rw [IntWalk.i64_in _ (by omega)]; omega
        by_cases hm1 : mk = 1
        · have d2 : ((mk : Int) == 1) = true := by rw [beq_iff_eq]; omega
          have OC := fun w => rat_ok w s (by omega) (b + 1) 4 4 rfl (by omega) (by omega) (by omega)
          have SC := fun w => rat_ok w s (by omega) (b + 5) 4 4 rfl (by omega) (by omega) (by omega)
          obtain ⟨ov, hov⟩ : ∃ x, Node.num s.data.toList (b + 1) 4 = x := ⟨_, rfl⟩
          obtain ⟨sz, hsz⟩ : ∃ x, Node.num s.data.toList (b + 5) 4 = x := ⟨_, rfl⟩
          simp only [hov] at OC
          simp only [hsz] at SC
          have OC := fun w => Lib.hid (OC w)
          have SC := fun w => Lib.hid (SC w)
          have HGN : Hid (Got true s.data.toList n (k + 1) (b + 9) (acc ++ [⟨t, 0, [], ov, sz⟩])) := Lib.hid (HG.out.next (by rw [HL.out]; exact hs) hkn (by rw [HL.out]; exact has) (by unfold Node.readOne; rw [ht]; simp only [if_true]; rw [hmk, if_pos hm1, hov, hsz]) (by omega) (by omega) ⟨by simp only; omega, by simp⟩)
          have hcv : CV.of ⟨t, 0, [], ov, sz⟩ = ⟨T, ⟨#[]⟩, ov, sz, 0⟩ := by unfold CV.of; rw [hT]; rfl
          have HCV := Lib.hid hcv
          clear hov hsz hmk hT hcv ht hm1
          go_wp2_with fail
          refine (TC _).out.mono ?_
          rintro _ w2 ⟨rfl, hb2⟩
          have hZ2 : Blk w2 wr.heap.size #[.string ⟨#[]⟩, .string ⟨#[]⟩, .int .i64 0, .int .i64 0, .int .i64 0] 35 := (hb2.block _ hgz.out.lt).trans hgz.out
          have HB2 : Hid (Below wr.heap.size wr w2) := Lib.hid (hgb.out.trans (hb2.mono hgb.out.size))
          have u0 : w2.cell? ⟨wr.heap.size, 0, none⟩ = some (.string ⟨#[]⟩) := hZ2.cell 0
          have f0 := hZ2.free 0
          have lt2 := hZ2.lt
          have HK2 : Hid (Blk (w2.setCell ⟨wr.heap.size, 0, none⟩ (.string T)) wr.heap.size #[.string T, .string ⟨#[]⟩, .int .i64 0, .int .i64 0, .int .i64 0] 35) := Lib.hid (hZ2.set 0 (.string T))
          have HB2' : Hid (Below wr.heap.size wr (w2.setCell ⟨wr.heap.size, 0, none⟩ (.string T))) := Lib.hid (HB2.out.setCell (p := ⟨wr.heap.size, 0, none⟩) (Nat.le_refl _) _)
          clear hZ2 hb2
          go_wp2_with fail
          refine (MC _).out.mono ?_
          rintro _ w3 ⟨rfl, hb3⟩
          have HK3 : Hid (Blk w3 wr.heap.size #[.string T, .string ⟨#[]⟩, .int .i64 0, .int .i64 0, .int .i64 0] 35) := Lib.hid ((hb3.block _ HK2.out.lt).trans HK2.out)
          have HB3 : Hid (Below wr.heap.size wr w3) := Lib.hid (HB2'.out.trans (hb3.mono HB2'.out.size))
          clear hb3 u0 f0 lt2
          go_wp2_with fail
          refine (OC _).out.mono ?_
          rintro _ w4 ⟨rfl, hb4⟩
          have hK4 : Blk w4 wr.heap.size #[.string T, .string ⟨#[]⟩, .int .i64 0, .int .i64 0, .int .i64 0] 35 := (hb4.block _ HK3.out.lt).trans HK3.out
          have hB4 : Below wr.heap.size wr w4 := HB3.out.trans (hb4.mono HB3.out.size)
          have u2 : w4.cell? ⟨wr.heap.size, 2, none⟩ = some (.int .i64 0) := hK4.cell 2
          have f2 := hK4.free 2
          have lt4 := hK4.lt
          have HK4 : Hid (Blk (w4.setCell ⟨wr.heap.size, 2, none⟩ (.int .i64 ov)) wr.heap.size #[.string T, .string ⟨#[]⟩, .int .i64 ov, .int .i64 0, .int .i64 0] 35) := Lib.hid (hK4.set 2 (.int .i64 ov))
          have HB4 : Hid (Below wr.heap.size wr (w4.setCell ⟨wr.heap.size, 2, none⟩ (.int .i64 ov))) := Lib.hid (hB4.setCell (p := ⟨wr.heap.size, 2, none⟩) (Nat.le_refl _) _)
          clear hK4 hB4 hb4
          go_wp2_with fail
          refine (SC _).out.mono ?_
          rintro _ w5 ⟨rfl, hb5⟩
          have hK5 : Blk w5 wr.heap.size #[.string T, .string ⟨#[]⟩, .int .i64 ov, .int .i64 0, .int .i64 0] 35 := (hb5.block _ HK4.out.lt).trans HK4.out
          have hB5 : Below wr.heap.size wr w5 := HB4.out.trans (hb5.mono HB4.out.size)
          have v3 : w5.cell? ⟨wr.heap.size, 3, none⟩ = some (.int .i64 0) := hK5.cell 3
          have f3 := hK5.free 3
          have lt5 := hK5.lt
          obtain ⟨wS, hwS⟩ : ∃ wS, w5.setCell ⟨wr.heap.size, 3, none⟩ (.int .i64 sz) = wS := ⟨_, rfl⟩
          have hKS : Blk wS wr.heap.size #[.string T, .string ⟨#[]⟩, .int .i64 ov, .int .i64 sz, .int .i64 0] 35 := hwS ▸ hK5.set 3 (.int .i64 sz)
          have hBS : Below wr.heap.size wr wS := hwS ▸ hB5.setCell (p := ⟨wr.heap.size, 3, none⟩) (Nat.le_refl _) _
          clear hb5 hK5 hB5 u2 f2 lt4
          have y0 : wS.cell? ⟨wr.heap.size, 0, none⟩ = some (.string T) := hKS.cell 0
          have y1 : wS.cell? ⟨wr.heap.size, 1, none⟩ = some (.string ⟨#[]⟩) := hKS.cell 1
          have y2 : wS.cell? ⟨wr.heap.size, 2, none⟩ = some (.int .i64 ov) := hKS.cell 2
          have y3 : wS.cell? ⟨wr.heap.size, 3, none⟩ = some (.int .i64 sz) := hKS.cell 3
          have y4 : wS.cell? ⟨wr.heap.size, 4, none⟩ = some (.int .i64 0) := hKS.cell 4
          have hown3 := HOW.out.kept hBS
          have hge : w.heap.size ≤ wS.heap.size := Nat.le_trans HBr.out.size hBS.size
          have HBS := Lib.hid (HBr.out.trans (hBS.mono HBr.out.size))
          clear hBS hKS
          go_wp2_with (at_builtin; refine wpList_append_cell _ rfl (.tmp 88) (.tmp 90) 22 rfl _ und22s cellInfo _ _ rfl hown3 ⟨T, ⟨#[]⟩, ov, sz, 0⟩ rfl lenb hge ?_; intro V4 w4 hown4 hbel4)
          go_roundw
          case rel => exact ⟨k + 1, b + 9, acc ++ [⟨t, 0, [], ov, sz⟩], by rfl, by go_num, by rw [List.map_append, List.map_cons, List.map_nil, HCV.out]; exact hown4, HGN, HBS.out.trans hbel4⟩
          case measure => simp [intOf]; omega
        · have d2 : ((mk : Int) == 1) = false := by rw [beq_eq_false_iff_ne]; omega
          have VC := fun w => rtext_any w s (by omega) (b + 1) (by omega)
          cases ht2 : Node.text s.data.toList (b + 1) with
          | none =>
            simp only [ht2] at VC
            unfold ttS ttA ttE at VC
            simp only at VC
            have VC := fun w => Lib.hid (VC w)
            have HRN : Hid (R = none) := Lib.hid (NON.out (by unfold Node.readOne; rw [ht]; simp only [if_true]; rw [hmk, if_neg hm1, ht2]))
            clear hmk hT ht ht2 hm1
            go_wp2_with fail
            refine (TC _).out.mono ?_
            rintro _ w2 ⟨rfl, hb2⟩
            have hZ2 : Blk w2 wr.heap.size #[.string ⟨#[]⟩, .string ⟨#[]⟩, .int .i64 0, .int .i64 0, .int .i64 0] 35 := (hb2.block _ hgz.out.lt).trans hgz.out
            have HB2 : Hid (Below wr.heap.size wr w2) := Lib.hid (hgb.out.trans (hb2.mono hgb.out.size))
            have u0 : w2.cell? ⟨wr.heap.size, 0, none⟩ = some (.string ⟨#[]⟩) := hZ2.cell 0
            have f0 := hZ2.free 0
            have lt2 := hZ2.lt
            have HK2 : Hid (Blk (w2.setCell ⟨wr.heap.size, 0, none⟩ (.string T)) wr.heap.size #[.string T, .string ⟨#[]⟩, .int .i64 0, .int .i64 0, .int .i64 0] 35) := Lib.hid (hZ2.set 0 (.string T))
            have HB2' : Hid (Below wr.heap.size wr (w2.setCell ⟨wr.heap.size, 0, none⟩ (.string T))) := Lib.hid (HB2.out.setCell (p := ⟨wr.heap.size, 0, none⟩) (Nat.le_refl _) _)
            clear hZ2 hb2
            go_wp2_with fail
            refine (MC _).out.mono ?_
            rintro _ w3 ⟨rfl, hb3⟩
            have HK3 : Hid (Blk w3 wr.heap.size #[.string T, .string ⟨#[]⟩, .int .i64 0, .int .i64 0, .int .i64 0] 35) := Lib.hid ((hb3.block _ HK2.out.lt).trans HK2.out)
            have HB3 : Hid (Below wr.heap.size wr w3) := Lib.hid (HB2'.out.trans (hb3.mono HB2'.out.size))
            clear hb3 u0 f0 lt2
            go_wp2_with fail
            refine (VC _).out.mono ?_
            rintro _ w5 ⟨rfl, hb5⟩
            go_wp2
            go_ret2
            rw [HRN.out]
            exact ⟨_, rfl, nil_cells _, fresh_nil _, HBr.out.trans ((HB3.out.trans (hb5.mono HB3.out.size)).mono HBr.out.size)⟩
          | some q2 =>
            obtain ⟨v, e⟩ := q2
            obtain ⟨eb1, eb2, eb3⟩ := text_bnd ht2
            rw [HL.out] at eb1 eb2
            simp only [ht2] at VC
            unfold ttS ttA ttE at VC
            simp only at VC
            obtain ⟨VV, hVV⟩ : ∃ V, ba v = V := ⟨_, rfl⟩
            simp only [hVV] at VC
            have VC := fun w => Lib.hid (VC w)
            have HGN : Hid (Got true s.data.toList n (k + 1) e (acc ++ [⟨t, 0, v, 0, 0⟩])) := Lib.hid (HG.out.next (by rw [HL.out]; exact hs) hkn (by rw [HL.out]; exact has) (by unfold Node.readOne; rw [ht]; simp only [if_true]; rw [hmk, if_neg hm1, ht2]) (by omega) (by omega) ⟨by simp only; omega, by simp only; omega⟩)
            have hcv : CV.of ⟨t, 0, v, 0, 0⟩ = ⟨T, VV, 0, 0, 0⟩ := by unfold CV.of; rw [hT, hVV]; rfl
            have HCV := Lib.hid hcv
            clear hVV hmk hT hcv ht ht2 hm1
            go_wp2_with fail
            refine (TC _).out.mono ?_
            rintro _ w2 ⟨rfl, hb2⟩
            have hZ2 : Blk w2 wr.heap.size #[.string ⟨#[]⟩, .string ⟨#[]⟩, .int .i64 0, .int .i64 0, .int .i64 0] 35 := (hb2.block _ hgz.out.lt).trans hgz.out
            have HB2 : Hid (Below wr.heap.size wr w2) := Lib.hid (hgb.out.trans (hb2.mono hgb.out.size))
            have u0 : w2.cell? ⟨wr.heap.size, 0, none⟩ = some (.string ⟨#[]⟩) := hZ2.cell 0
            have f0 := hZ2.free 0
            have lt2 := hZ2.lt
            have HK2 : Hid (Blk (w2.setCell ⟨wr.heap.size, 0, none⟩ (.string T)) wr.heap.size #[.string T, .string ⟨#[]⟩, .int .i64 0, .int .i64 0, .int .i64 0] 35) := Lib.hid (hZ2.set 0 (.string T))
            have HB2' : Hid (Below wr.heap.size wr (w2.setCell ⟨wr.heap.size, 0, none⟩ (.string T))) := Lib.hid (HB2.out.setCell (p := ⟨wr.heap.size, 0, none⟩) (Nat.le_refl _) _)
            clear hZ2 hb2
            go_wp2_with fail
            refine (MC _).out.mono ?_
            rintro _ w3 ⟨rfl, hb3⟩
            have HK3 : Hid (Blk w3 wr.heap.size #[.string T, .string ⟨#[]⟩, .int .i64 0, .int .i64 0, .int .i64 0] 35) := Lib.hid ((hb3.block _ HK2.out.lt).trans HK2.out)
            have HB3 : Hid (Below wr.heap.size wr w3) := Lib.hid (HB2'.out.trans (hb3.mono HB2'.out.size))
            clear hb3 u0 f0 lt2
            go_wp2_with fail
            refine (VC _).out.mono ?_
            rintro _ w5 ⟨rfl, hb5⟩
            have hK5 : Blk w5 wr.heap.size #[.string T, .string ⟨#[]⟩, .int .i64 0, .int .i64 0, .int .i64 0] 35 := (hb5.block _ HK3.out.lt).trans HK3.out
            have hB5 : Below wr.heap.size wr w5 := HB3.out.trans (hb5.mono HB3.out.size)
            have v1 : w5.cell? ⟨wr.heap.size, 1, none⟩ = some (.string ⟨#[]⟩) := hK5.cell 1
            have f1 := hK5.free 1
            have lt5 := hK5.lt
            obtain ⟨wS, hwS⟩ : ∃ wS, w5.setCell ⟨wr.heap.size, 1, none⟩ (.string VV) = wS := ⟨_, rfl⟩
            have hKS : Blk wS wr.heap.size #[.string T, .string VV, .int .i64 0, .int .i64 0, .int .i64 0] 35 := hwS ▸ hK5.set 1 (.string VV)
            have hBS : Below wr.heap.size wr wS := hwS ▸ hB5.setCell (p := ⟨wr.heap.size, 1, none⟩) (Nat.le_refl _) _
            clear hb5 hK5 hB5
            have y0 : wS.cell? ⟨wr.heap.size, 0, none⟩ = some (.string T) := hKS.cell 0
            have y1 : wS.cell? ⟨wr.heap.size, 1, none⟩ = some (.string VV) := hKS.cell 1
            have y2 : wS.cell? ⟨wr.heap.size, 2, none⟩ = some (.int .i64 0) := hKS.cell 2
            have y3 : wS.cell? ⟨wr.heap.size, 3, none⟩ = some (.int .i64 0) := hKS.cell 3
            have y4 : wS.cell? ⟨wr.heap.size, 4, none⟩ = some (.int .i64 0) := hKS.cell 4
            have hown3 := HOW.out.kept hBS
            have hge : w.heap.size ≤ wS.heap.size := Nat.le_trans HBr.out.size hBS.size
            have HBS := Lib.hid (HBr.out.trans (hBS.mono HBr.out.size))
            clear hBS hKS
            go_wp2_with (at_builtin; refine wpList_append_cell _ rfl (.tmp 88) (.tmp 90) 22 rfl _ und22s cellInfo _ _ rfl hown3 ⟨T, VV, 0, 0, 0⟩ rfl lenb hge ?_; intro V4 w4 hown4 hbel4)
            go_roundw
            case rel => exact ⟨k + 1, e, acc ++ [⟨t, 0, v, 0, 0⟩], by rfl, by go_num, by rw [List.map_append, List.map_cons, List.map_nil, HCV.out]; exact hown4, HGN, HBS.out.trans hbel4⟩
            case measure => simp [intOf]; omega

    · have HFR := Lib.hid hown.fresh
      have hcl := hown.cells (by rw [List.length_map, HG.out.len]; omega)
      have EC := renc_ok wr true u6 (acc.map CV.of) hcl HG.out.Bnd
      have HRR := Lib.hid (ENDS.out hin)
      obtain ⟨L, hL⟩ : ∃ L, acc.map CV.of = L := ⟨_, rfl⟩
      rw [hL] at EC hcl HRR
      have HCL := Lib.hid hcl
      obtain ⟨S, hS⟩ : ∃ S, Node.encS true L = S := ⟨_, rfl⟩
      obtain ⟨E, hE⟩ : ∃ E, Node.encE true L = E := ⟨_, rfl⟩
      rw [hS, hE] at EC
      rw [hS] at HRR
      have HEF : Hid (E = 0 ↔ Node.fits true L = true) := Lib.hid (by
        rw [← hE]
        unfold Node.encE Node.fits
        cases Node.right true L
        · simp
        · simp only [if_true, Bool.true_and, decide_eq_true_eq]
          split
          · rename_i h; exact ⟨fun _ => h, fun _ => rfl⟩
          · rename_i h; exact ⟨fun h' => by simp at h', fun h' => absurd h' h⟩)
      have EC := Lib.hid EC
      obtain ⟨sA, sl, sc, hV⟩ : ∃ A l c, u6 = Value.slice A l c := by
        obtain ⟨A, c, hv, _, _⟩ := hcl.form
        exact ⟨A, _, c, hv⟩
      subst hV
      clear hcl hL hS hE hown hBr ENDS HOW
      by_cases hkn : k < n
      · have t1 : decide (k < n) = true := decide_eq_true hkn
        have t2 : decide (a < s.size) = false := decide_eq_false (fun h => hin ⟨hkn, h⟩)
        by_cases hf : Node.fits true L = true
        · have hE0 : E = 0 := HEF.out.2 hf
          subst hE0
          have e0 : ((0 : Int) != 0) = false := rfl
          by_cases hss : S = s
          · have e1 : (S.toList == s.toList) = true := beq_str_true hss
            have HRN : Hid (R = some L) := Lib.hid (by rw [HRR.out, if_pos ⟨hf, hss⟩])
            clear hf hss
            go_wp2_with fail
            refine EC.out.mono ?_
            rintro _ w2 ⟨rfl, hb2⟩
            go_wp2
            go_ret2
            rw [HRN.out]
            exact ⟨_, rfl, HCL.out.below hb2, HFR.out, HBr.out.trans (hb2.mono HBr.out.size)⟩
          · have e1 : (S.toList == s.toList) = false := beq_str_false hss
            have HRN : Hid (R = none) := Lib.hid (by rw [HRR.out, if_neg (fun h => hss h.2)])
            clear hf hss
            go_wp2_with fail
            refine EC.out.mono ?_
            rintro _ w2 ⟨rfl, hb2⟩
            go_wp2
            go_ret2
            rw [HRN.out]
            exact ⟨_, rfl, nil_cells _, fresh_nil _, HBr.out.trans (hb2.mono HBr.out.size)⟩
        · have e0 : (E != 0) = true := by rw [bne_iff_ne]; exact fun h => hf (HEF.out.1 h)
          have HRN : Hid (R = none) := Lib.hid (by rw [HRR.out, if_neg (fun h => hf h.1)])
          clear hf
          go_wp2_with fail
          refine EC.out.mono ?_
          rintro _ w2 ⟨rfl, hb2⟩
          go_wp2
          go_ret2
          rw [HRN.out]
          exact ⟨_, rfl, nil_cells _, fresh_nil _, HBr.out.trans (hb2.mono HBr.out.size)⟩
      · have t1 : decide (k < n) = false := decide_eq_false hkn
        by_cases hf : Node.fits true L = true
        · have hE0 : E = 0 := HEF.out.2 hf
          subst hE0
          have e0 : ((0 : Int) != 0) = false := rfl
          by_cases hss : S = s
          · have e1 : (S.toList == s.toList) = true := beq_str_true hss
            have HRN : Hid (R = some L) := Lib.hid (by rw [HRR.out, if_pos ⟨hf, hss⟩])
            clear hf hss
            go_wp2_with fail
            refine EC.out.mono ?_
            rintro _ w2 ⟨rfl, hb2⟩
            go_wp2
            go_ret2
            rw [HRN.out]
            exact ⟨_, rfl, HCL.out.below hb2, HFR.out, HBr.out.trans (hb2.mono HBr.out.size)⟩
          · have e1 : (S.toList == s.toList) = false := beq_str_false hss
            have HRN : Hid (R = none) := Lib.hid (by rw [HRR.out, if_neg (fun h => hss h.2)])
            clear hf hss
            go_wp2_with fail
            refine EC.out.mono ?_
            rintro _ w2 ⟨rfl, hb2⟩
            go_wp2
            go_ret2
            rw [HRN.out]
            exact ⟨_, rfl, nil_cells _, fresh_nil _, HBr.out.trans (hb2.mono HBr.out.size)⟩
        · have e0 : (E != 0) = true := by rw [bne_iff_ne]; exact fun h => hf (HEF.out.1 h)
          have HRN : Hid (R = none) := Lib.hid (by rw [HRR.out, if_neg (fun h => hf h.1)])
          clear hf
          go_wp2_with fail
          refine EC.out.mono ?_
          rintro _ w2 ⟨rfl, hb2⟩
          go_wp2
          go_ret2
          rw [HRN.out]
          exact ⟨_, rfl, nil_cells _, fresh_nil _, HBr.out.trans (hb2.mono HBr.out.size)⟩
theorem rdec_ok (w : World) (leaf : Bool) (s : ByteArray) : Calls Try.prog 19 #[.bool leaf, .string s] w (Decoded w (Node.dec leaf s)) := by
  by_cases h : 488 < s.size
  · exact rdec_long w leaf s h
  · cases leaf
    · exact rdec_false w s (by omega)
    · exact rdec_true w s (by omega)
end Go.Proofs.Ytegmffeokfahjaa
