/-
  Contracts of the landed functions of chapter 6: Decode. Conditions: texts of at most 2000 bytes.
-/
import Derived.Test.YtegmffeokfahjaaNlE
import Derived.Test.YtegmffeokfahjaaRNodeI
namespace Go.Proofs.Ytegmffeokfahjaa
open Go.RowKit
theorem OwnC.nil (w : World) (base : Nat) : OwnC w base (.slice none 0 0) [] := ⟨rfl, .inl ⟨rfl, rfl⟩⟩
/-- cells taken so far -/
structure GotT (leaf : Bool) (s : List UInt8) (n k a : Nat) (acc : List Node.CL) : Prop where
  len : acc.length = k
  le : k ≤ n
  few : k ≤ 300
  upto : a ≤ 140000
  bnd : ∀ c ∈ acc.map CV.of, c.key.size ≤ 600 ∧ c.val.size ≤ 600
  same : Node.takeGo leaf s (n - k) a acc = Node.takeGo leaf s n (2 + 2 * n) []
theorem GotT.Bnd {leaf : Bool} {s : List UInt8} {n k a : Nat} {acc : List Node.CL} (h : GotT leaf s n k a acc) : Bnd (acc.map CV.of) := by
  refine ⟨?_, h.bnd⟩
  rw [List.length_map, h.len]
  have := h.few
  omega
theorem GotT.none {leaf : Bool} {s : List UInt8} {n k a : Nat} {acc : List Node.CL} (h : GotT leaf s n k a acc) (hk : k < n) (hx : ¬ (2 + 2 * k + 2 ≤ s.length ∧ Node.num s (2 + 2 * k) 2 = a) ∨ Node.takeOne leaf s a = none) : Node.takeGo leaf s n (2 + 2 * n) [] = none := by
  rw [← h.same]
  obtain ⟨m, hm⟩ : ∃ m, n - k = m + 1 := ⟨n - k - 1, by omega⟩
  rw [hm, Node.takeGo, h.len]
  rcases hx with hx | hx
  · rw [if_neg hx]
  · split
    · rw [hx]
    · rfl
theorem GotT.next {leaf : Bool} {s : List UInt8} {n k a : Nat} {acc : List Node.CL} (h : GotT leaf s n k a acc) (hs : s.length ≤ 488) (hk : k < n) (h1 : 2 + 2 * k + 2 ≤ s.length) (h2 : Node.num s (2 + 2 * k) 2 = a) {c : Node.CL} {b : Nat} (hr : Node.takeOne leaf s a = some (c, b)) : GotT leaf s n (k + 1) b (acc ++ [c]) := by
  obtain ⟨s1, _, _, s4, s5⟩ := Node.takeOne_sound hr
  refine ⟨by rw [List.length_append, h.len]; rfl, hk, by omega, by omega, ?_, ?_⟩
  · intro x hx
    rw [List.map_append, List.mem_append] at hx
    rcases hx with hx | hx
    · exact h.bnd x hx
    · simp only [List.map_cons, List.map_nil, List.mem_singleton] at hx
      subst hx
      unfold CV.of
      simp only [ba_size]
      omega
  · rw [← h.same]
    obtain ⟨m, hm⟩ : ∃ m, n - k = m + 1 := ⟨n - k - 1, by omega⟩
    rw [hm, Node.takeGo, h.len, if_pos ⟨h1, h2⟩, hr, show n - (k + 1) = m by omega]
set_option maxRecDepth 100000 in
set_option maxHeartbeats 6400000 in
theorem ldec_long (w : World) (leaf : Bool) (s : ByteArray) (h : 488 < s.size) : Calls Try.prog 17 #[.bool leaf, .string s] w (Decoded w (Node.dec leaf s)) := by
  have d1 : decide ((488 : Int) < (s.size : Int)) = true := decide_eq_true (by omega)
  rw [Node.dec_long (by omega)]
  go_enter Try.func17, Try.ntmps17
  go_wp2
  go_ret2
  exact ⟨_, rfl, nil_cells _, fresh_nil _, Below.refl _ _⟩
set_option maxRecDepth 100000 in
set_option maxHeartbeats 6400000 in
theorem ldec_few (w : World) (leaf : Bool) (s : ByteArray) (h : s.size < 2) : Calls Try.prog 17 #[.bool leaf, .string s] w (Decoded w (Node.dec leaf s)) := by
  have d1 : decide ((488 : Int) < (s.size : Int)) = false := decide_eq_false (by omega)
  have hl : s.data.toList.length = s.size := by rw [Array.length_toList]; rfl
  rw [Node.dec_few leaf s h]
  have A0a := fun w => ltake_any w s (by omega) 0 2 2 rfl (by omega) (by omega) (by omega)
  unfold numE at A0a
  simp only [hl, if_neg (show ¬ 0 + 2 ≤ s.size by omega)] at A0a
  obtain ⟨n, hn⟩ : ∃ n, Node.num s.data.toList 0 2 = n := ⟨_, rfl⟩
  simp only [hn] at A0a
  have A0 := fun w => Lib.hid (A0a w)
  clear A0a hn
  go_enter Try.func17, Try.ntmps17
  go_wp2_with fail
  refine (A0 _).out.mono ?_
  rintro _ _ ⟨rfl, rfl⟩
  go_wp2
  go_ret2
  exact ⟨_, rfl, nil_cells _, fresh_nil _, Below.refl _ _⟩
set_option maxRecDepth 100000 in
set_option maxHeartbeats 6400000 in
theorem ldec_in (w : World) (leaf : Bool) (s : ByteArray) (h2 : 2 ≤ s.size) (hs : s.size ≤ 488) : Calls Try.prog 17 #[.bool leaf, .string s] w (Decoded w (Node.dec leaf s)) := by
  have d1 : decide ((488 : Int) < (s.size : Int)) = false := decide_eq_false (by omega)
  have hl : s.data.toList.length = s.size := by rw [Array.length_toList]; rfl
  obtain ⟨R, hR⟩ : ∃ R, Node.dec leaf s = R := ⟨_, rfl⟩
  have hdec := Node.dec_take leaf s h2 hs
  rw [hR] at hdec
  rw [hR]
  have A0a := fun w => ltake_any w s (by omega) 0 2 2 rfl (by omega) (by omega) (by omega)
  unfold numE at A0a
  simp only [hl, if_pos (show 0 + 2 ≤ s.size by omega)] at A0a
  obtain ⟨n, hn⟩ : ∃ n, Node.num s.data.toList 0 2 = n := ⟨_, rfl⟩
  have hn16 : n < 65536 := hn ▸ num_lt s.data.toList 0 2
  rw [hn] at hdec
  simp only [hn] at A0a
  have A0 := fun w => Lib.hid (A0a w)
  have HD := Lib.hid hdec
  have HL := Lib.hid hl
  have m1 : IntKind.i64.wrap (n : Int) = n := IntWalk.i64_in _ (by omega)
  have F0 := fun w => Lib.hid (lfrom_ok w n (by omega))
  clear hdec hR hn hl A0a
  go_enter Try.func17, Try.ntmps17
  go_wp2_with fail
  refine (A0 _).out.mono ?_
  rintro _ _ ⟨rfl, rfl⟩
  go_wp2_with fail
  refine (F0 _).out.mono ?_
  rintro _ _ ⟨rfl, rfl⟩
  go_wp2
  go_loopw [8, 9, 31] (fun V aa ii wr => ∃ (k a : Nat) (acc : List Node.CL), aa = .int .i64 a ∧ ii = .int .i64 k ∧ OwnC wr w.heap.size V (acc.map CV.of) ∧ Hid (GotT leaf s.data.toList n k a acc) ∧ Below w.heap.size w wr) (fun _ _ ii _ => n - (intOf ii).toNat)
  case atStart => exact ⟨0, 2 + 2 * n, [], by rfl, rfl, OwnC.nil _ _, Lib.hid ⟨rfl, by omega, by omega, by omega, fun c hc => by simp at hc, rfl⟩, Below.refl _ _⟩
  case round =>
    obtain ⟨k, a, acc, rfl, rfl, hown, HG, hBr⟩ := hrel
    have hk := HG.out.le
    have hk3 := HG.out.few
    have ha := HG.out.upto
    have HOW := Lib.hid hown
    have HBr := Lib.hid hBr
    by_cases hkn : k < n
    · have t1 : decide (k < n) = true := decide_eq_true hkn
      have NON : Hid (¬ (2 + 2 * k + 2 ≤ s.size ∧ Node.num s.data.toList (2 + 2 * k) 2 = a) ∨ Node.takeOne leaf s.data.toList a = none → R = none) := Lib.hid (fun h => by
        rw [HD.out, HG.out.none hkn (by rw [HL.out]; exact h)])
      have F1 := fun w => lfrom_ok w k (by omega)
      have A1a := fun w => ltake_any w s (by omega) (2 + 2 * k) 2 2 rfl (by omega) (by omega) (by omega)
      obtain ⟨p, hp⟩ : ∃ p, 2 + 2 * k = p := ⟨_, rfl⟩
      have HP := Lib.hid hp
      simp only [hp] at F1 A1a NON
      have F1 := fun w => Lib.hid (F1 w)
      unfold numE at A1a
      simp only [HL.out] at A1a
      have hx16 : Node.num s.data.toList p 2 < 65536 := num_lt s.data.toList p 2
      clear hown hBr
      by_cases h1 : p + 2 ≤ s.size
      · simp only [if_pos h1] at A1a
        by_cases hxa : Node.num s.data.toList p 2 = a
        · simp only [hxa] at A1a
          rw [hxa] at hx16
          have A1 := fun w => Lib.hid (A1a w)
          have m3 : IntKind.i64.wrap (a : Int) = a := IntWalk.i64_in _ (by omega)
          have e1 : ((a : Int) != (a : Int)) = false := by simp
          have TC0 := fun w => ltc_ok w leaf s hs a (by omega)
          cases ho : Node.takeOne leaf s.data.toList a with
          | none =>
            have HRN : Hid (R = none) := Lib.hid (NON.out (.inr ho))
            have TC : Hid (∀ w, Calls Try.prog 35 #[.bool leaf, .string s, .int .i64 a] w fun e w' => ∃ (c : CV) (b : Nat), e = .returned (.tuple #[c.v, .int .i64 b, .bool false]) ∧ Below w.heap.size w w') := Lib.hid (fun w => (TC0 w).mono fun _ _ ⟨c, b, ok, e, h1, _, hb⟩ => ⟨c, b, by rw [e, h1, ho]; rfl, hb⟩)
            clear ho TC0 A1a hxa h1 hp NON HP
            go_wp2_with fail
            refine (F1 _).out.mono ?_
            rintro _ _ ⟨rfl, rfl⟩
            go_wp2_with fail
            refine (A1 _).out.mono ?_
            rintro _ _ ⟨rfl, rfl⟩
            go_wp2_with fail
            refine (TC.out _).mono ?_
            rintro _ w2 ⟨⟨key, val, over, size, child⟩, b, rfl, hb2⟩
            unfold CV.v
            go_wp2
            go_ret2
            rw [HRN.out]
            exact ⟨_, rfl, nil_cells _, fresh_nil _, (HBr.out.trans (hb2.mono HBr.out.size)).alloc (Nat.le_trans HBr.out.size hb2.size) _⟩
          | some q =>
            obtain ⟨c0, b⟩ := q
            have HGN := Lib.hid (HG.out.next (by rw [HL.out]; exact hs) hkn (by rw [HL.out, hp]; exact h1) (by rw [hp]; exact hxa) ho)
            obtain ⟨⟨key, val, over, size, child⟩, hcv⟩ : ∃ c, CV.of c0 = c := ⟨_, rfl⟩
            have HCV := Lib.hid hcv
            have TC : Hid (∀ w, Calls Try.prog 35 #[.bool leaf, .string s, .int .i64 a] w fun e w' => e = .returned (.tuple #[.agg #[.string key, .string val, .int .i64 over, .int .i64 size, .int .i64 child], .int .i64 b, .bool true]) ∧ Below w.heap.size w w') := Lib.hid (fun w => (TC0 w).mono fun _ _ ⟨c, b', ok, e, h1, h2, hb⟩ => ⟨by
              obtain ⟨e1, e2⟩ := h2 _ ho
              rw [e, h1, ho, e1, e2, hcv]
              rfl, hb⟩)
            have lenb : (acc.map CV.of).length + 1 ≤ 4294967296 := by rw [List.length_map, HG.out.len]; omega
            clear ho TC0 A1a hxa h1 hp hcv NON HP
            go_wp2_with fail
            refine (F1 _).out.mono ?_
            rintro _ _ ⟨rfl, rfl⟩
            go_wp2_with fail
            refine (A1 _).out.mono ?_
            rintro _ _ ⟨rfl, rfl⟩
            go_wp2_with fail
            refine (TC.out _).mono ?_
            rintro _ w2 ⟨rfl, hb2⟩
            have hown2 := HOW.out.kept hb2
            have HB2 := Lib.hid (HBr.out.trans (hb2.mono HBr.out.size))
            obtain ⟨wA, hwA⟩ : ∃ wA, w2.alloc (.cells #[.string key, .string val, .int .i64 over, .int .i64 size, .int .i64 child] 35) = wA := ⟨_, rfl⟩
            have hXA : Blk wA w2.heap.size #[.string key, .string val, .int .i64 over, .int .i64 size, .int .i64 child] 35 := hwA ▸ Blk.new w2 _ _
            have hBA : Below w2.heap.size w2 wA := hwA ▸ (Below.refl _ w2).alloc (Nat.le_refl _) _
            have hownA := hown2.kept hBA
            have hge : w.heap.size ≤ wA.heap.size := Nat.le_trans HB2.out.size hBA.size
            have HBA := Lib.hid (HB2.out.trans (hBA.mono HB2.out.size))
            obtain ⟨q0, q1, q2, q3, q4⟩ : wA.cell? ⟨w2.heap.size, 0, none⟩ = some (.string key) ∧ wA.cell? ⟨w2.heap.size, 1, none⟩ = some (.string val) ∧ wA.cell? ⟨w2.heap.size, 2, none⟩ = some (.int .i64 over) ∧ wA.cell? ⟨w2.heap.size, 3, none⟩ = some (.int .i64 size) ∧ wA.cell? ⟨w2.heap.size, 4, none⟩ = some (.int .i64 child) := ⟨hXA.cell 0, hXA.cell 1, hXA.cell 2, hXA.cell 3, hXA.cell 4⟩
            clear hb2 hown2 hBA hXA
            go_wp2_with (at_builtin; refine wpList_append_cell _ rfl (.tmp 59) (.tmp 61) 22 rfl _ und22s cellInfo _ _ rfl hownA ⟨key, val, over, size, child⟩ rfl lenb hge ?_; intro V4 w4 hown4 hbel4)
            go_roundw
            case rel => exact ⟨k + 1, b, acc ++ [c0], by rfl, by go_num, by rw [List.map_append, List.map_cons, List.map_nil, HCV.out]; exact hown4, HGN.out |> Lib.hid, HBA.out.trans hbel4⟩
            case measure => simp [intOf]; omega
        · have HRN : Hid (R = none) := Lib.hid (NON.out (.inl (fun h => hxa h.2)))
          obtain ⟨x, hx⟩ : ∃ x, Node.num s.data.toList p 2 = x := ⟨_, rfl⟩
          rw [hx] at hxa hx16
          simp only [hx] at A1a
          have A1 := fun w => Lib.hid (A1a w)
          have m3 : IntKind.i64.wrap (x : Int) = x := IntWalk.i64_in _ (by omega)
          have e1 : ((x : Int) != (a : Int)) = true := by rw [bne_iff_ne]; omega
          have e2 : (x != a) = true := by rw [bne_iff_ne]; exact hxa
          have e3 : decide (x = a) = false := decide_eq_false hxa
          have e4 : ((x : Int) == (a : Int)) = false := by rw [beq_eq_false_iff_ne]; omega
          clear A1a hx h1 hp NON HP hxa
          go_wp2_with fail
          refine (F1 _).out.mono ?_
          rintro _ _ ⟨rfl, rfl⟩
          go_wp2_with fail
          refine (A1 _).out.mono ?_
          rintro _ _ ⟨rfl, rfl⟩
          go_wp2
          go_ret2
          rw [HRN.out]
          exact ⟨_, rfl, nil_cells _, fresh_nil _, HBr.out⟩
      · simp only [if_neg h1] at A1a
        have A1 := fun w => Lib.hid (A1a w)
        have HRN : Hid (R = none) := Lib.hid (NON.out (.inl (fun h => h1 (by omega))))
        clear A1a h1 hp NON HP
        go_wp2_with fail
        refine (F1 _).out.mono ?_
        rintro _ _ ⟨rfl, rfl⟩
        go_wp2_with fail
        refine (A1 _).out.mono ?_
        rintro _ _ ⟨rfl, rfl⟩
        go_wp2
        go_ret2
        rw [HRN.out]
        exact ⟨_, rfl, nil_cells _, fresh_nil _, HBr.out⟩
    · have t1 : decide (k < n) = false := decide_eq_false hkn
      have hkk : n - k = 0 := by omega
      have HFR := Lib.hid hown.fresh
      have hcl := hown.cells (by rw [List.length_map, HG.out.len]; omega)
      have HSM : Hid (Node.takeGo leaf s.data.toList n (2 + 2 * n) [] = if a = s.size then some acc else none) := Lib.hid (by
        rw [← HG.out.same, hkk, Node.takeGo, HL.out])
      have RC0 := fun w1 (h : Below wr.heap.size wr w1) => lright_ok w1 leaf u8 (acc.map CV.of) (hcl.below h) HG.out.Bnd
      obtain ⟨sA, sl, sc, hV⟩ : ∃ A l c, u8 = Value.slice A l c := by
        obtain ⟨A, c, hv, _, _⟩ := hcl.form
        exact ⟨A, _, c, hv⟩
      subst hV
      by_cases has : a = s.size
      · subst has
        have e1 : ((s.size : Int) != (s.size : Int)) = false := by simp
        obtain ⟨r, hr⟩ : ∃ r, Node.right leaf (acc.map CV.of) = r := ⟨_, rfl⟩
        simp only [hr] at RC0
        have RC := Lib.hid RC0
        have HCL := Lib.hid hcl
        have HRR : Hid (R = if r then some (acc.map CV.of) else none) := Lib.hid (by
          rw [HD.out, HSM.out, if_pos rfl]
          simp only
          rw [hr])
        clear hcl hr hown hBr RC0
        cases r
        · go_wp2_with fail
          refine (RC.out _ (Below.refl _ _)).mono ?_
          rintro _ w2 ⟨rfl, hb2⟩
          go_wp2
          go_ret2
          rw [HRR.out]
          exact ⟨_, rfl, nil_cells _, fresh_nil _, HBr.out.trans (hb2.mono HBr.out.size)⟩
        · go_wp2_with fail
          refine (RC.out _ (Below.refl _ _)).mono ?_
          rintro _ w2 ⟨rfl, hb2⟩
          go_wp2
          go_ret2
          rw [HRR.out]
          exact ⟨_, rfl, HCL.out.below hb2, HFR.out, HBr.out.trans (hb2.mono HBr.out.size)⟩
      · have e1 : ((a : Int) != (s.size : Int)) = true := by rw [bne_iff_ne]; omega
        have e2 : (a != s.size) = true := by rw [bne_iff_ne]; exact has
        have e3 : decide (a = s.size) = false := decide_eq_false has
        have e4 : ((a : Int) == (s.size : Int)) = false := by rw [beq_eq_false_iff_ne]; omega
        have HRN : Hid (R = none) := Lib.hid (by rw [HD.out, HSM.out, if_neg has])
        clear hcl hown hBr RC0 has
        go_wp2
        go_ret2
        rw [HRN.out]
        exact ⟨_, rfl, nil_cells _, fresh_nil _, HBr.out⟩
theorem ldec_ok (w : World) (leaf : Bool) (s : ByteArray) : Calls Try.prog 17 #[.bool leaf, .string s] w (Decoded w (Node.dec leaf s)) := by
  by_cases h : 488 < s.size
  · exact ldec_long w leaf s h
  · by_cases h2 : 2 ≤ s.size
    · exact ldec_in w leaf s h2 (by omega)
    · exact ldec_few w leaf s (by omega)
end Go.Proofs.Ytegmffeokfahjaa
