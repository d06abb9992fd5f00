/-
  The statements' functions NodeHalves, NodeDecodes, NodeEncodes, NodeSeeks return true at every argument; over any functions that meet the kit. No conditions but those typed.
-/
import Derived.Test.YtegmffeokfahjaaNodeKit
namespace Go.Proofs.Ytegmffeokfahjaa
open Go.RowKit
set_option maxRecDepth 100000 in
set_option maxHeartbeats 1600000 in
theorem nhalves_any (K : LandNode) (w : World) (leaf : Bool) (v : Value) (l : List CV) (hc : CellsAt w v l) : Calls Try.prog 7 #[.bool leaf, v] w fun e w' => e = .returned (.bool true) ∧ Below w.heap.size w w' := by
  have AC := Lib.hid (nawake_ok K w)
  have LC := Lib.hid (fun w1 (h : Below w.heap.size w w1) => nlong_ok w1 v l (hc.below h))
  have H1 := Lib.hid (fun (hb : Bnd l) w1 (h : Below w.heap.size w w1) => K.halve w1 leaf v l (hc.below h) hb)
  have H2 := Lib.hid (fun (hb : Bnd l) w1 (h : Below w.heap.size w w1) => rhalve_ok w1 leaf v l (hc.below h) hb)
  obtain ⟨B, hB⟩ : ∃ B, longB l = B := ⟨_, rfl⟩
  have HB : Hid (B = false → Bnd l) := Lib.hid (fun h => longB_bnd (hB.trans h))
  rw [hB] at LC
  obtain ⟨n, hn⟩ : ∃ n, Node.halveV leaf l = n := ⟨_, rfl⟩
  rw [hn] at H1 H2
  have e1 : ((n : Int) == (n : Int)) = true := by simp
  clear hB hn hc
  cases B
  · have HBB := Lib.hid (HB.out rfl)
    go_enter Try.func7, Try.ntmps7
    go_wp2_with fail
    refine AC.out.mono ?_
    rintro _ w1 ⟨rfl, hb1⟩
    go_wp2_with fail
    refine (LC.out w1 hb1).mono ?_
    rintro _ w2 ⟨rfl, hb2⟩
    have hB2 := hb1.trans (hb2.mono hb1.size)
    go_wp2_with fail
    refine (H1.out HBB.out w2 hB2).mono ?_
    rintro _ w3 ⟨rfl, hb3⟩
    have hB3 := hB2.trans (hb3.mono hB2.size)
    go_wp2_with fail
    refine (H2.out HBB.out w3 hB3).mono ?_
    rintro _ w4 ⟨rfl, hb4⟩
    have HB4 := Lib.hid (hB3.trans (hb4.mono hB3.size))
    clear hb1 hb2 hb3 hb4 hB2 hB3
    go_wp2
    go_ret
    exact ⟨rfl, HB4.out⟩
  · go_enter Try.func7, Try.ntmps7
    go_wp2_with fail
    refine AC.out.mono ?_
    rintro _ w1 ⟨rfl, hb1⟩
    go_wp2_with fail
    refine (LC.out w1 hb1).mono ?_
    rintro _ w2 ⟨rfl, hb2⟩
    have HB2 := Lib.hid (hb1.trans (hb2.mono hb1.size))
    clear hb1 hb2
    go_wp2
    go_ret
    exact ⟨rfl, HB2.out⟩
theorem dec_len (leaf : Bool) (s : ByteArray) : ((Node.dec leaf s).getD []).length ≤ 600 := by
  cases h : Node.dec leaf s with
  | none => simp
  | some l => exact (Node.fits_bnd (Node.dec_fits h)).1
set_option maxRecDepth 100000 in
set_option maxHeartbeats 1600000 in
theorem ndecodes_any (K : LandNode) (w : World) (leaf : Bool) (s : ByteArray) : Calls Try.prog 4 #[.bool leaf, .string s] w fun e w' => e = .returned (.bool true) ∧ Below w.heap.size w w' := by
  have AC := Lib.hid (nawake_ok K w)
  by_cases hs : 2000 < s.size
  · have d1 : decide ((2000 : Int) < (s.size : Int)) = true := decide_eq_true (by omega)
    clear hs
    go_enter Try.func4, Try.ntmps4
    go_wp2_with fail
    refine AC.out.mono ?_
    rintro _ w1 ⟨rfl, hb1⟩
    go_wp2
    go_ret
    exact ⟨rfl, hb1⟩
  · have d1 : decide ((2000 : Int) < (s.size : Int)) = false := decide_eq_false (by omega)
    have D1 := fun w => K.decode w leaf s (by omega)
    have D2 := fun w => refNode.decode w leaf s (by omega)
    have hl := dec_len leaf s
    obtain ⟨L, hL⟩ : ∃ L, (Node.dec leaf s).getD [] = L := ⟨_, rfl⟩
    obtain ⟨E, hE⟩ : ∃ E : Int, (if (Node.dec leaf s).isSome then 0 else 4) = E := ⟨_, rfl⟩
    simp only [hL, hE] at D1 D2
    rw [hL] at hl
    have D1 := fun w => Lib.hid (D1 w)
    have D2 := fun w => Lib.hid (D2 w)
    have e1 : (E == E) = true := by simp
    have SC := Lib.hid (fun w V1 V2 (h1 : CellsAt w V1 L) (h2 : CellsAt w V2 L) => rsame_yes w V1 V2 L h1 h2 hl)
    clear hL hE hs
    go_enter Try.func4, Try.ntmps4
    go_wp2_with fail
    refine AC.out.mono ?_
    rintro _ w1 ⟨rfl, hb1⟩
    go_wp2_with fail
    refine (D1 _).out.mono ?_
    rintro _ w2 ⟨V1, rfl, hc1, hb2⟩
    have hB2 := hb1.trans (hb2.mono hb1.size)
    go_wp2_with fail
    refine (D2 _).out.mono ?_
    rintro _ w3 ⟨V2, rfl, hc2, hb3⟩
    have hB3 := hB2.trans (hb3.mono hB2.size)
    have S := Lib.hid (SC.out w3 V1 V2 (hc1.below hb3) hc2)
    obtain ⟨A1, n1, rfl, _⟩ := hc1.form
    obtain ⟨A2, n2, rfl, _⟩ := hc2.form
    have HB3 := Lib.hid hB3
    clear hc1 hc2 hb1 hb2 hb3 hB2 hB3
    go_wp2_with fail
    refine S.out.mono ?_
    rintro _ w4 ⟨rfl, hb4⟩
    go_wp2
    go_ret
    exact ⟨rfl, HB3.out.trans (hb4.mono HB3.out.size)⟩
theorem enc_same (leaf : Bool) (l : List CV) (h : Node.encE leaf l = 0) : Node.fits leaf l = true := by
  unfold Node.encE at h
  unfold Node.fits
  split at h
  · rename_i hr
    split at h
    · rename_i hn
      rw [hr, decide_eq_true hn]
      rfl
    · cases h
  · cases h
theorem enc_none (leaf : Bool) (l : List CV) (h : Node.encE leaf l ≠ 0) : Node.encS leaf l = ⟨#[]⟩ := by
  have hf : ¬ Node.fits leaf l = true := fun hf => by
    apply h
    unfold Node.fits at hf
    simp only [Bool.and_eq_true, decide_eq_true_eq] at hf
    unfold Node.encE
    rw [hf.1, if_pos rfl, if_pos hf.2]
  unfold Node.encS
  rw [if_neg hf]
  rfl
theorem enc_size (leaf : Bool) (l : List CV) (h : Node.fits leaf l = true) : ((Node.encS leaf l).size : Int) = Node.bytesN leaf l ∧ (Node.encS leaf l).size ≤ 488 := by
  have hf := h
  unfold Node.fits at h
  simp only [Bool.and_eq_true, decide_eq_true_eq] at h
  have e : (Node.encS leaf l).size = Node.countV leaf l := by
    unfold Node.encS
    rw [if_pos hf, ba_size, Node.bytes_length]
    rfl
  refine ⟨?_, by rw [e]; exact h.2⟩
  unfold Node.bytesN
  rw [if_pos h.1, e]
set_option maxRecDepth 100000 in
set_option maxHeartbeats 3200000 in
theorem nencodes_any (K : LandNode) (w : World) (leaf : Bool) (v : Value) (l : List CV) (hc : CellsAt w v l) : Calls Try.prog 3 #[.bool leaf, v] w fun e w' => e = .returned (.bool true) ∧ Below w.heap.size w w' := by
  have AC := Lib.hid (nawake_ok K w)
  have LC := Lib.hid (fun w1 (h : Below w.heap.size w w1) => nlong_ok w1 v l (hc.below h))
  obtain ⟨B, hB⟩ : ∃ B, longB l = B := ⟨_, rfl⟩
  rw [hB] at LC
  cases B
  case true =>
    clear hB hc
    go_enter Try.func3, Try.ntmps3
    go_wp2_with fail
    refine AC.out.mono ?_
    rintro _ w1 ⟨rfl, hb1⟩
    go_wp2_with fail
    refine (LC.out w1 hb1).mono ?_
    rintro _ w2 ⟨rfl, hb2⟩
    have HB2 := Lib.hid (hb1.trans (hb2.mono hb1.size))
    clear hb1 hb2
    go_wp2
    go_ret
    exact ⟨rfl, HB2.out⟩
  case false =>
    have hb := longB_bnd hB
    have E1 := Lib.hid (fun w1 (h : Below w.heap.size w w1) => K.encode w1 leaf v l (hc.below h) hb)
    have E2 := Lib.hid (fun w1 (h : Below w.heap.size w w1) => renc_ok w1 leaf v l (hc.below h) hb)
    have R1 := Lib.hid (fun w1 (h : Below w.heap.size w w1) => K.right w1 leaf v l (hc.below h) hb)
    have R2 := Lib.hid (fun w1 (h : Below w.heap.size w w1) => rnright_ok w1 leaf v l (hc.below h) hb)
    have B1 := Lib.hid (fun w1 (h : Below w.heap.size w w1) => K.bytes w1 leaf v l (hc.below h) hb)
    have B2 := Lib.hid (fun w1 (h : Below w.heap.size w w1) => rbytes_ok w1 leaf v l (hc.below h) hb)
    have SC := Lib.hid (fun w1 V (h : Below w.heap.size w w1) (h1 : CellsAt w1 V l) => rsame_yes w1 V v l h1 (hc.below h) hb.1)
    obtain ⟨S, hS⟩ : ∃ S, Node.encS leaf l = S := ⟨_, rfl⟩
    obtain ⟨E, hE⟩ : ∃ E, Node.encE leaf l = E := ⟨_, rfl⟩
    obtain ⟨R, hR⟩ : ∃ R, Node.right leaf l = R := ⟨_, rfl⟩
    obtain ⟨N, hN⟩ : ∃ N, Node.bytesN leaf l = N := ⟨_, rfl⟩
    simp only [hS, hE] at E1 E2
    rw [hR] at R1 R2
    rw [hN] at B1 B2
    have e1 : (S.toList == S.toList) = true := by simp
    have e2 : (E != E) = false := by simp
    have e3 : (R != R) = false := by simp
    have e4 : (N != N) = false := by simp
    have e5 : (R == R) = true := by simp
    have DC : Hid (E = 0 → ∀ w1, Calls Try.prog 17 #[.bool leaf, .string S] w1 fun e w' => ∃ V, e = .returned (.tuple #[V, .int .i64 0]) ∧ CellsAt w' V l ∧ Below w1.heap.size w1 w') := Lib.hid (fun h w1 => by
      have hf := enc_same leaf l (hE.trans h)
      have := K.decode w1 leaf (Node.encS leaf l) (by have := (enc_size leaf l hf).2; omega)
      rw [Node.dec_enc leaf l hf, hS] at this
      exact this)
    have HSZ : Hid (E = 0 → (S.size : Int) = N ∧ S.size ≤ 488) := Lib.hid (fun h => by
      have := enc_size leaf l (enc_same leaf l (hE.trans h))
      rw [hS, hN] at this
      exact this)
    have HNO : Hid (E ≠ 0 → S = ⟨#[]⟩) := Lib.hid (fun h => by rw [← hS]; exact enc_none leaf l (by rw [hE]; exact h))
    obtain ⟨A, cap, rfl, _, _⟩ := hc.form
    clear hS hE hR hN hB hb hc
    by_cases hE0 : E = 0
    · have d1 : (E != 0) = false := by rw [hE0]; rfl
      have DD := Lib.hid (DC.out hE0)
      obtain ⟨z1, z2⟩ := HSZ.out hE0
      have d2 : ((S.size : Int) == N) = true := by rw [beq_iff_eq]; exact z1
      have d3 : decide ((S.size : Int) ≤ 488) = true := decide_eq_true (by omega)
      clear hE0 z1 z2
      go_enter Try.func3, Try.ntmps3
      go_wp2_with fail
      refine AC.out.mono ?_
      rintro _ w1 ⟨rfl, hb1⟩
      go_wp2_with fail
      refine (LC.out w1 hb1).mono ?_
      rintro _ w2 ⟨rfl, hb2⟩
      have hB2 := hb1.trans (hb2.mono hb1.size)
      go_wp2_with fail
      refine (E1.out w2 hB2).mono ?_
      rintro _ w3 ⟨rfl, hb3⟩
      have hB3 := hB2.trans (hb3.mono hB2.size)
      go_wp2_with fail
      refine (E2.out w3 hB3).mono ?_
      rintro _ w4 ⟨rfl, hb4⟩
      have hB4 := hB3.trans (hb4.mono hB3.size)
      go_wp2_with fail
      refine (R1.out w4 hB4).mono ?_
      rintro _ w5 ⟨rfl, hb5⟩
      have hB5 := hB4.trans (hb5.mono hB4.size)
      go_wp2_with fail
      refine (R2.out w5 hB5).mono ?_
      rintro _ w6 ⟨rfl, hb6⟩
      have hB6 := hB5.trans (hb6.mono hB5.size)
      clear hb1 hb2 hb3 hb4 hb5 hb6 hB2 hB3 hB4 hB5
      go_wp2_with fail
      refine (B1.out w6 hB6).mono ?_
      rintro _ w7 ⟨rfl, hb7⟩
      have hB7 := hB6.trans (hb7.mono hB6.size)
      go_wp2_with fail
      refine (B2.out w7 hB7).mono ?_
      rintro _ w8 ⟨rfl, hb8⟩
      have hB8 := hB7.trans (hb8.mono hB7.size)
      go_wp2_with fail
      refine (DD.out w8).mono ?_
      rintro _ w9 ⟨V, rfl, hc9, hb9⟩
      have hB9 := hB8.trans (hb9.mono hB8.size)
      have S9 := Lib.hid (SC.out w9 V hB9 hc9)
      obtain ⟨A1, n1, rfl, _⟩ := hc9.form
      clear hc9 hb7 hb8 hb9 hB6 hB7 hB8
      go_wp2_with fail
      refine S9.out.mono ?_
      rintro _ w10 ⟨rfl, hb10⟩
      have hB10 := hB9.trans (hb10.mono hB9.size)
      go_wp2_with fail
      refine (B1.out w10 hB10).mono ?_
      rintro _ w11 ⟨rfl, hb11⟩
      have HB11 := Lib.hid (hB10.trans (hb11.mono hB10.size))
      clear hb10 hb11 hB9 hB10
      go_wp2
      go_ret
      exact ⟨rfl, HB11.out⟩
    · have d1 : (E != 0) = true := by simpa using hE0
      have hSe := HNO.out hE0
      subst hSe
      clear hE0
      go_enter Try.func3, Try.ntmps3
      go_wp2_with fail
      refine AC.out.mono ?_
      rintro _ w1 ⟨rfl, hb1⟩
      go_wp2_with fail
      refine (LC.out w1 hb1).mono ?_
      rintro _ w2 ⟨rfl, hb2⟩
      have hB2 := hb1.trans (hb2.mono hb1.size)
      go_wp2_with fail
      refine (E1.out w2 hB2).mono ?_
      rintro _ w3 ⟨rfl, hb3⟩
      have hB3 := hB2.trans (hb3.mono hB2.size)
      go_wp2_with fail
      refine (E2.out w3 hB3).mono ?_
      rintro _ w4 ⟨rfl, hb4⟩
      have hB4 := hB3.trans (hb4.mono hB3.size)
      go_wp2_with fail
      refine (R1.out w4 hB4).mono ?_
      rintro _ w5 ⟨rfl, hb5⟩
      have hB5 := hB4.trans (hb5.mono hB4.size)
      go_wp2_with fail
      refine (R2.out w5 hB5).mono ?_
      rintro _ w6 ⟨rfl, hb6⟩
      have hB6 := hB5.trans (hb6.mono hB5.size)
      clear hb1 hb2 hb3 hb4 hb5 hb6 hB2 hB3 hB4 hB5
      go_wp2_with fail
      refine (B1.out w6 hB6).mono ?_
      rintro _ w7 ⟨rfl, hb7⟩
      have hB7 := hB6.trans (hb7.mono hB6.size)
      go_wp2_with fail
      refine (B2.out w7 hB7).mono ?_
      rintro _ w8 ⟨rfl, hb8⟩
      have HB8 := Lib.hid (hB7.trans (hb8.mono hB7.size))
      clear hb7 hb8 hB6 hB7
      go_wp2
      go_ret
      exact ⟨rfl, HB8.out⟩
set_option maxRecDepth 100000 in
set_option maxHeartbeats 1600000 in
theorem nseeks_any (K : LandNode) (w : World) (leaf : Bool) (s key : ByteArray) : Calls Try.prog 5 #[.bool leaf, .string s, .string key] w fun e w' => e = .returned (.bool true) ∧ Below w.heap.size w w' := by
  have AC := Lib.hid (nawake_ok K w)
  have hz := zeroC
  by_cases hs : 2000 < s.size
  · have d1 : decide ((2000 : Int) < (s.size : Int)) = true := decide_eq_true (by omega)
    clear hs
    go_enter Try.func5, Try.ntmps5
    go_wp2_with fail
    refine AC.out.mono ?_
    rintro _ w1 ⟨rfl, hb1⟩
    go_wp2
    go_ret
    exact ⟨rfl, hb1⟩
  · have d1 : decide ((2000 : Int) < (s.size : Int)) = false := decide_eq_false (by omega)
    by_cases hk : 2000 < key.size
    · have d2 : decide ((2000 : Int) < (key.size : Int)) = true := decide_eq_true (by omega)
      clear hs hk
      go_enter Try.func5, Try.ntmps5
      go_wp2_with fail
      refine AC.out.mono ?_
      rintro _ w1 ⟨rfl, hb1⟩
      go_wp2
      go_ret
      exact ⟨rfl, hb1⟩
    · have d2 : decide ((2000 : Int) < (key.size : Int)) = false := decide_eq_false (by omega)
      have S1 := fun w => K.seek w leaf s key (by omega) (by omega)
      have S2 := fun w => rseek_ok w leaf s key
      obtain ⟨⟨I, ⟨ck, cv, co, cz, cc⟩, Q⟩, hX⟩ : ∃ X, Node.seekV leaf s key = X := ⟨_, rfl⟩
      simp only [hX] at S1 S2
      unfold CV.v at S1 S2
      simp only at S1 S2
      have S1 := fun w => Lib.hid (S1 w)
      have S2 := fun w => Lib.hid (S2 w)
      have e1 : (I == I) = true := by simp
      have e2 : (Q == Q) = true := by simp
      clear hX hs hk
      go_enter Try.func5, Try.ntmps5
      go_wp2_with fail
      refine AC.out.mono ?_
      rintro _ w1 ⟨rfl, hb1⟩
      go_wp2_with fail
      refine (S1 _).out.mono ?_
      rintro _ w2 ⟨rfl, hb2⟩
      have hB2 := hb1.trans (hb2.mono hb1.size)
      have HB3 := Lib.hid (hB2.alloc hB2.size (.cells #[.string ck, .string cv, .int .i64 co, .int .i64 cz, .int .i64 cc] 35))
      have HX : Hid (Blk (w2.alloc (.cells #[.string ck, .string cv, .int .i64 co, .int .i64 cz, .int .i64 cc] 35)) w2.heap.size #[.string ck, .string cv, .int .i64 co, .int .i64 cz, .int .i64 cc] 35) := Lib.hid (Blk.new w2 _ _)
      clear hb1 hb2 hB2
      go_wp2_with fail
      refine (S2 _).out.mono ?_
      rintro _ w4 ⟨rfl, hb4⟩
      have hX4 : Blk w4 w2.heap.size #[.string ck, .string cv, .int .i64 co, .int .i64 cz, .int .i64 cc] 35 := (hb4.block _ HX.out.lt).trans HX.out
      have y0 : w4.cell? ⟨w2.heap.size, 0, none⟩ = some (.string ck) := hX4.cell 0
      have y1 : w4.cell? ⟨w2.heap.size, 1, none⟩ = some (.string cv) := hX4.cell 1
      have y2 : w4.cell? ⟨w2.heap.size, 2, none⟩ = some (.int .i64 co) := hX4.cell 2
      have y3 : w4.cell? ⟨w2.heap.size, 3, none⟩ = some (.int .i64 cz) := hX4.cell 3
      have y4 : w4.cell? ⟨w2.heap.size, 4, none⟩ = some (.int .i64 cc) := hX4.cell 4
      have ylt := hX4.lt
      have HB4 := Lib.hid (HB3.out.trans (hb4.mono HB3.out.size))
      clear hX4 hb4
      go_wp2
      go_ret
      exact ⟨rfl, HB4.out.alloc HB4.out.size _⟩
end Go.Proofs.Ytegmffeokfahjaa
