/-
  Contracts of the reference (rollbookref06): Halve, Same. Conditions: lists and texts of at most 600.
-/
import Derived.Test.YtegmffeokfahjaaRNodeC
namespace Go.Proofs.Ytegmffeokfahjaa
open Go.RowKit
theorem size22 : ∀ w, (sizeOf (Try.prog.elem 22)).run Try.prog w = .ok 5 w := fun w => by kernel_rfl
theorem und22 : Try.prog.underlying 22 = some (.slice (Try.prog.elem 22)) := by kernel_rfl
theorem cut_lo (w : World) (A : Option Addr) (len cap i : Nat) (h : i ≤ len) : (Instr.slice 22 (.slice A len cap) (some (.int .i64 i)) none none).run Try.prog w = .ok (sliced A i len cap 5) w := by
  rw [run_slice_l w 22 A len cap und22 .i64 i (by omega) (by omega), size22]
  rfl
theorem cut_hi (w : World) (A : Option Addr) (len cap i : Nat) (h : i ≤ cap) : (Instr.slice 22 (.slice A len cap) none (some (.int .i64 i)) none).run Try.prog w = .ok (sliced A 0 i cap 5) w := by
  rw [run_slice_h w 22 A len cap und22 .i64 i (by omega) (by omega), size22]
  rfl
/-- a part of a list of cells -/
theorem CellsAt.cut {w : World} {A : Option Addr} {len cap : Nat} {l : List CV} (h : CellsAt w (.slice A len cap) l) (i j : Nat) (hij : i ≤ j) (hj : j ≤ l.length) : CellsAt w (sliced A i j cap 5) ((l.take j).drop i) := by
  obtain ⟨A', cap', hv, h1, h2, hc⟩ := h
  injection hv with e1 e2 e3
  subst e1 e3
  have hl : ((l.take j).drop i).length = j - i := by rw [List.length_drop, List.length_take]; omega
  refine ⟨if cap = i then A else A.map (·.add (i * 5)), cap - i, by rw [hl]; rfl, by omega, by omega, fun k hk => ?_⟩
  rw [hl] at hk
  obtain ⟨b, off, hA, hlt, hcell⟩ := hc (i + k) (by omega)
  rw [if_neg (by omega), hA]
  refine ⟨b, off + i * 5, by simp [Addr.add], hlt, fun x hx => ?_⟩
  have := hcell x hx
  rw [show off + i * 5 + k * 5 + x = off + (i + k) * 5 + x by omega, this]
  simp only [List.getElem_drop, List.getElem_take]
theorem Bnd.cut {l : List CV} (h : Bnd l) (i j : Nat) : Bnd ((l.take j).drop i) := by
  refine ⟨?_, fun c hc => h.2 c (List.mem_of_mem_take (List.mem_of_mem_drop hc))⟩
  rw [List.length_drop, List.length_take]
  have := h.1
  omega
theorem countV_take (leaf : Bool) (l : List CV) (i : Nat) : Node.countV leaf ((l.take i).drop 0) = 2 + ((Node.szs leaf l).take i).sum := by
  rw [List.drop_zero, Node.countV_sum]
  unfold Node.szs
  rw [List.map_take]
theorem countV_drop (leaf : Bool) (l : List CV) (i : Nat) : Node.countV leaf ((l.take l.length).drop i) = 2 + ((Node.szs leaf l).drop i).sum := by
  rw [List.take_length, Node.countV_sum]
  unfold Node.szs
  rw [List.map_drop]
set_option maxRecDepth 100000 in
set_option maxHeartbeats 3200000 in
theorem rhalve_ok (w : World) (leaf : Bool) (v : Value) (l : List CV) (hc : CellsAt w v l) (hb : Bnd l) : Calls Try.prog 24 #[.bool leaf, v] w fun e w' => e = .returned (.int .i64 (Node.halveV leaf l : Nat)) ∧ Below w.heap.size w w' := by
  have HC := Lib.hid hc
  have HB := Lib.hid hb
  obtain ⟨A, cap, rfl, h1, h2⟩ := hc.form
  obtain ⟨R, hR⟩ : ∃ R : Nat, Node.halveV leaf l = R := ⟨_, rfl⟩
  have hl6 : l.length ≤ 600 := hb.1
  obtain ⟨zs, hzs⟩ : ∃ zs, Node.szs leaf l = zs := ⟨_, rfl⟩
  have hzl : zs.length = l.length := by rw [← hzs]; unfold Node.szs; rw [List.length_map]
  have HR : Hid (Node.best zs (l.length - 1) = R) := Lib.hid (by rw [← hR, ← hzl, ← hzs]; rfl)
  rw [hR]
  have CT := Lib.hid (fun (i : Nat) (hi : i ≤ l.length) wr (hbr : Below w.heap.size w wr) => (hzs ▸ countV_take leaf l i) ▸ rcount_ok wr leaf _ _ ((hc.below hbr).cut 0 i (Nat.zero_le _) hi) (hb.cut 0 i))
  have CD := Lib.hid (fun (i : Nat) (hi : i ≤ l.length) wr (hbr : Below w.heap.size w wr) => (hzs ▸ countV_drop leaf l i) ▸ rcount_ok wr leaf _ _ ((hc.below hbr).cut i l.length hi (Nat.le_refl _)) (hb.cut i l.length))
  have hbt := fun i => countV_bnd leaf l hb i
  have HT : Hid (∀ i, i ≤ l.length → 2 + (zs.take i).sum ≤ 2 + 1302 * i) := Lib.hid (fun i hi => by
    have := hbt i hi
    rw [← List.drop_zero (l := l.take i), countV_take, hzs] at this
    exact this)
  have HD : Hid (∀ i, 2 + (zs.drop i).sum ≤ 2 + 1302 * 600) := Lib.hid (fun i => by
    have h0 := hbt l.length (Nat.le_refl _)
    rw [← List.drop_zero (l := l.take l.length), countV_take, hzs, ← hzl, List.take_length, hzl] at h0
    have := Node.sum_split zs i
    omega)
  clear hc hb hR hzs hzl hbt
  go_enter Try.func24, Try.ntmps24
  go_wp2
  go_loopw [5, 6, 7] (fun bb ll ii wr => ∃ k j B X : Nat, Hid (j = k + 1) ∧ (j ≤ l.length ∨ j = 1) ∧ bb = .int .i64 B ∧ ll = .int .i64 X ∧ ii = .int .i64 j ∧ Hid (B = Node.best zs k) ∧ Hid (X = if B = 0 then 0 else Node.part zs B) ∧ Below w.heap.size w wr) (fun _ _ ii _ => l.length + 1 - (intOf ii).toNat)
  case atStart => exact ⟨0, 1, 0, 0, Lib.hid rfl, .inr rfl, rfl, rfl, rfl, Lib.hid rfl, Lib.hid rfl, Below.refl _ _⟩
  case round =>
    obtain ⟨k, j, B, X, hj, hk, rfl, rfl, rfl, HBs, HX, hBr⟩ := hrel
    by_cases hkl : j < l.length
    · have t1 : decide (j < l.length) = true := decide_eq_true hkl
      have s1 := fun w => cut_hi w A l.length cap j (by omega)
      have s2 := fun w => cut_lo w A l.length cap j (by omega)
      have C1 := CT.out j (by omega)
      have C2 := CD.out j (by omega)
      have b1 := HT.out j (by omega)
      have b2 := HD.out j
      have hpart : Node.part zs j = max (2 + (zs.take j).sum) (2 + (zs.drop j).sum) := rfl
      obtain ⟨V1, hV1⟩ : ∃ V, sliced A 0 j cap 5 = V := ⟨_, rfl⟩
      obtain ⟨V2, hV2⟩ : ∃ V, sliced A j l.length cap 5 = V := ⟨_, rfl⟩
      obtain ⟨a, ha⟩ : ∃ a, 2 + (zs.take j).sum = a := ⟨_, rfl⟩
      obtain ⟨d, hd⟩ : ∃ d, 2 + (zs.drop j).sum = d := ⟨_, rfl⟩
      simp only [hV1] at s1 C1
      simp only [hV2] at s2 C2
      simp only [ha] at C1 b1 hpart
      simp only [hd] at C2 b2 hpart
      have HS := Lib.hid (show Node.best zs j = if B = 0 ∨ Node.part zs j < Node.part zs B then j else B by
        rw [hj.out, Node.best, ← HBs.out])
      have HPT := Lib.hid hpart
      have C1 := Lib.hid (C1 wr hBr)
      have C2 := Lib.hid C2
      have HBr := Lib.hid hBr
      have g1 : (0 : Int) ≤ (j : Int) := by omega
      have g2 : (j : Int) ≤ (cap : Int) := by omega
      have g3 : (j : Int) ≤ (l.length : Int) := by omega
      obtain ⟨m, hm⟩ : ∃ m, max a d = m := ⟨_, rfl⟩
      have HM : Hid (Node.part zs j = m) := Lib.hid (by rw [HPT.out, hm])
      clear hV1 hV2 ha hd hpart hBr
      have fin : Hid (∀ (wx : World), Below w.heap.size w wx → ((B = 0 ∨ m < X) → ∃ k' j' B' X' : Nat, Hid (j' = k' + 1) ∧ (j' ≤ l.length ∨ j' = 1) ∧ Value.int .i64 (j : Nat) = .int .i64 B' ∧ Value.int .i64 (m : Nat) = .int .i64 X' ∧ Value.int .i64 ((j + 1 : Nat) : Int) = .int .i64 j' ∧ Hid (B' = Node.best zs k') ∧ Hid (X' = if B' = 0 then 0 else Node.part zs B') ∧ Below w.heap.size w wx) ∧
          ((¬ (B = 0 ∨ m < X)) → ∃ k' j' B' X' : Nat, Hid (j' = k' + 1) ∧ (j' ≤ l.length ∨ j' = 1) ∧ Value.int .i64 (B : Nat) = .int .i64 B' ∧ Value.int .i64 (X : Nat) = .int .i64 X' ∧ Value.int .i64 ((j + 1 : Nat) : Int) = .int .i64 j' ∧ Hid (B' = Node.best zs k') ∧ Hid (X' = if B' = 0 then 0 else Node.part zs B') ∧ Below w.heap.size w wx)) := Lib.hid (fun wx hx => by
        have hXB : B = 0 ∨ (B ≠ 0 ∧ X = Node.part zs B) := by
          by_cases h0 : B = 0
          · exact .inl h0
          · exact .inr ⟨h0, by rw [HX.out, if_neg h0]⟩
        constructor
        · intro h
          refine ⟨j, j + 1, j, m, Lib.hid rfl, .inl (by omega), rfl, rfl, rfl, Lib.hid ?_, Lib.hid ?_, hx⟩
          · rw [HS.out, if_pos]
            rcases h with h | h
            · exact .inl h
            · rcases hXB with h0 | ⟨_, h0⟩
              · exact .inl h0
              · exact .inr (by rw [HM.out, ← h0]; exact h)
          · rw [if_neg (by have := hj.out; omega)]
            exact HM.out.symm
        · intro h
          refine ⟨j, j + 1, B, X, Lib.hid rfl, .inl (by omega), rfl, rfl, rfl, Lib.hid ?_, HX, hx⟩
          rw [HS.out, if_neg]
          rcases hXB with h0 | ⟨h0, h1⟩
          · exact fun _ => h (.inl h0)
          · rintro (h2 | h2)
            · exact h0 h2
            · exact h (.inr (by rw [h1, ← HM.out]; exact h2)))
      by_cases hgt : a < d
      · have p1 : decide ((a : Int) < (d : Int)) = true := decide_eq_true (by omega)
        obtain rfl : m = d := by omega
        clear hm
        by_cases h0 : B = 0
        · have p2 : ((B : Int) == 0) = true := by rw [beq_iff_eq]; omega
          go_wp2_with fail
          refine C1.out.mono ?_
          rintro _ w4 ⟨rfl, hb4⟩
          have hB4 := HBr.out.trans (hb4.mono HBr.out.size)
          go_wp2_with fail
          refine (C2.out w4 hB4).mono ?_
          rintro _ w5 ⟨rfl, hb5⟩
          have HB2 := Lib.hid (hB4.trans (hb5.mono hB4.size))
          clear hb4 hb5 hB4
          go_wp2
          go_roundw
          case rel => exact (fin.out _ (HB2.out)).1 (.inl h0)
          case measure => simp [intOf]; omega
        · have p2 : ((B : Int) == 0) = false := by rw [beq_eq_false_iff_ne]; omega
          by_cases h1 : m < X
          · have p3 : decide ((m : Int) < (X : Int)) = true := decide_eq_true (by omega)
            go_wp2_with fail
            refine C1.out.mono ?_
            rintro _ w4 ⟨rfl, hb4⟩
            have hB4 := HBr.out.trans (hb4.mono HBr.out.size)
            go_wp2_with fail
            refine (C2.out w4 hB4).mono ?_
            rintro _ w5 ⟨rfl, hb5⟩
            have HB2 := Lib.hid (hB4.trans (hb5.mono hB4.size))
            clear hb4 hb5 hB4
            go_wp2
            go_roundw
            case rel => exact (fin.out _ (HB2.out)).1 (.inr h1)
            case measure => simp [intOf]; omega
          · have p3 : decide ((m : Int) < (X : Int)) = false := decide_eq_false (by omega)
            go_wp2_with fail
            refine C1.out.mono ?_
            rintro _ w4 ⟨rfl, hb4⟩
            have hB4 := HBr.out.trans (hb4.mono HBr.out.size)
            go_wp2_with fail
            refine (C2.out w4 hB4).mono ?_
            rintro _ w5 ⟨rfl, hb5⟩
            have HB2 := Lib.hid (hB4.trans (hb5.mono hB4.size))
            clear hb4 hb5 hB4
            go_wp2
            go_roundw
            case rel => exact (fin.out _ (HB2.out)).2 (by omega)
            case measure => simp [intOf]; omega
      · have p1 : decide ((a : Int) < (d : Int)) = false := decide_eq_false (by omega)
        obtain rfl : m = a := by omega
        clear hm
        by_cases h0 : B = 0
        · have p2 : ((B : Int) == 0) = true := by rw [beq_iff_eq]; omega
          go_wp2_with fail
          refine C1.out.mono ?_
          rintro _ w4 ⟨rfl, hb4⟩
          have hB4 := HBr.out.trans (hb4.mono HBr.out.size)
          go_wp2_with fail
          refine (C2.out w4 hB4).mono ?_
          rintro _ w5 ⟨rfl, hb5⟩
          have HB2 := Lib.hid (hB4.trans (hb5.mono hB4.size))
          clear hb4 hb5 hB4
          go_wp2
          go_roundw
          case rel => exact (fin.out _ (HB2.out)).1 (.inl h0)
          case measure => simp [intOf]; omega
        · have p2 : ((B : Int) == 0) = false := by rw [beq_eq_false_iff_ne]; omega
          by_cases h1 : m < X
          · have p3 : decide ((m : Int) < (X : Int)) = true := decide_eq_true (by omega)
            go_wp2_with fail
            refine C1.out.mono ?_
            rintro _ w4 ⟨rfl, hb4⟩
            have hB4 := HBr.out.trans (hb4.mono HBr.out.size)
            go_wp2_with fail
            refine (C2.out w4 hB4).mono ?_
            rintro _ w5 ⟨rfl, hb5⟩
            have HB2 := Lib.hid (hB4.trans (hb5.mono hB4.size))
            clear hb4 hb5 hB4
            go_wp2
            go_roundw
            case rel => exact (fin.out _ (HB2.out)).1 (.inr h1)
            case measure => simp [intOf]; omega
          · have p3 : decide ((m : Int) < (X : Int)) = false := decide_eq_false (by omega)
            go_wp2_with fail
            refine C1.out.mono ?_
            rintro _ w4 ⟨rfl, hb4⟩
            have hB4 := HBr.out.trans (hb4.mono HBr.out.size)
            go_wp2_with fail
            refine (C2.out w4 hB4).mono ?_
            rintro _ w5 ⟨rfl, hb5⟩
            have HB2 := Lib.hid (hB4.trans (hb5.mono hB4.size))
            clear hb4 hb5 hB4
            go_wp2
            go_roundw
            case rel => exact (fin.out _ (HB2.out)).2 (by omega)
            case measure => simp [intOf]; omega
    · have t1 : decide (j < l.length) = false := decide_eq_false hkl
      have HE : Hid (B = R) := Lib.hid (by
        rw [HBs.out, ← HR.out]
        have := hj.out
        congr 1
        omega)
      have HBr := Lib.hid hBr
      clear hBr
      go_wp2
      go_ret
      exact ⟨by rw [← HE.out]; rfl, HBr.out⟩
end Go.Proofs.Ytegmffeokfahjaa
