/-
  The statement's function NodeParts returns true at every argument; over any functions that meet the kit. No conditions but those typed.
-/
import Derived.Test.YtegmffeokfahjaaNodeW1
namespace Go.Proofs.Ytegmffeokfahjaa
open Go.RowKit
/-- where a key is found in a leaf's cells -/
structure Found (l : List CV) (key : ByteArray) (J : Nat) (Q : Bool) : Prop where
  le : J ≤ l.length
  before : ∀ i (h : i < l.length), i < J → Node.cmpK l[i] key < 0
  behind : ∀ i (h : i < l.length), J < i → 0 < Node.cmpK l[i] key
  here : ∀ (h : J < l.length), (Node.cmpK l[J] key == 0) = Q
  end_ : J = l.length → Q = false
theorem found_ok (l : List CV) (key : ByteArray) (h : Node.rises l = true) : Found l key (Node.seekI true l key) (decide (Node.seekI true l key < l.length) && decide ((Node.cellAt l (Node.seekI true l key)).key = key)) := by
  have e : Node.seekI true l key = Node.seekAt key l := rfl
  rw [e]
  refine ⟨Node.seekAt_le key l, fun i h hi => Node.before key l i h hi, fun i h hi => Node.behind key l ‹_› i h hi, fun hj => ?_, fun he => by rw [he, decide_eq_false (Nat.lt_irrefl _)]; rfl⟩
  have hx : Node.cellAt l (Node.seekAt key l) = l[Node.seekAt key l] := by unfold Node.cellAt; rw [List.getD_eq_getElem?_getD, List.getElem?_eq_getElem hj]; rfl
  rw [decide_eq_true hj, hx, Bool.true_and]
  unfold Node.cmpK
  by_cases hk : l[Node.seekAt key l].key = key
  · rw [decide_eq_true hk, hk, cmpL_self]
    rfl
  · rw [decide_eq_false hk, beq_eq_false_iff_ne]
    intro hc
    apply hk
    have := cmpL_eq hc
    apply ByteArray.ext
    exact Array.toList_inj.1 this
set_option maxRecDepth 100000 in
set_option maxHeartbeats 3200000 in
theorem nparts_any (K : LandNode) (w : World) (v : Value) (key : ByteArray) (l : List CV) (hc : CellsAt w v l) : Calls Try.prog 6 #[v, .string key] w fun e w' => e = .returned (.bool true) ∧ Below w.heap.size w w' := by
  have AC := Lib.hid (nawake_ok K w)
  have hz := zeroC
  have LC := Lib.hid (fun w1 (h : Below w.heap.size w w1) => nlong_ok w1 v l (hc.below h))
  obtain ⟨B, hB⟩ : ∃ B, longB l = B := ⟨_, rfl⟩
  rw [hB] at LC
  cases B
  case true =>
    clear hB hc
    go_enter Try.func6, Try.ntmps6
    go_wp2_with fail
    refine AC.out.mono ?_
    rintro _ w1 ⟨rfl, hb1⟩
    go_wp2_with fail
    refine (LC.out w1 hb1).mono ?_
    rintro _ w2 ⟨rfl, hb2⟩
    have HB2 := Lib.hid (hb1.trans (hb2.mono hb1.size))
    clear hb1 hb2
    go_wp2
    go_ret
    exact ⟨rfl, HB2.out⟩
  case false =>
    have hb := longB_bnd hB
    have EC := Lib.hid (fun w1 (h : Below w.heap.size w w1) => K.encode w1 true v l (hc.below h) hb)
    by_cases hk : 2000 < key.size
    · have d2 : decide ((2000 : Int) < (key.size : Int)) = true := decide_eq_true (by omega)
      clear hB hc hk hb
      go_enter Try.func6, Try.ntmps6
      go_wp2_with fail
      refine AC.out.mono ?_
      rintro _ w1 ⟨rfl, hb1⟩
      go_wp2_with fail
      refine (LC.out w1 hb1).mono ?_
      rintro _ w2 ⟨rfl, hb2⟩
      have HB2 := Lib.hid (hb1.trans (hb2.mono hb1.size))
      clear hb1 hb2
      go_wp2
      go_ret
      exact ⟨rfl, HB2.out⟩
    have d2 : decide ((2000 : Int) < (key.size : Int)) = false := decide_eq_false (by omega)
    obtain ⟨S, hS⟩ : ∃ S, Node.encS true l = S := ⟨_, rfl⟩
    obtain ⟨E, hE⟩ : ∃ E, Node.encE true l = E := ⟨_, rfl⟩
    simp only [hS, hE] at EC
    by_cases hE0 : E = 0
    case neg =>
      have d1 : (E != 0) = true := by simpa using hE0
      clear hB hc hk hb hS hE hE0
      go_enter Try.func6, Try.ntmps6
      go_wp2_with fail
      refine AC.out.mono ?_
      rintro _ w1 ⟨rfl, hb1⟩
      go_wp2_with fail
      refine (LC.out w1 hb1).mono ?_
      rintro _ w2 ⟨rfl, hb2⟩
      have hB2 := hb1.trans (hb2.mono hb1.size)
      go_wp2_with fail
      refine (EC.out w2 hB2).mono ?_
      rintro _ w3 ⟨rfl, hb3⟩
      have HB3 := Lib.hid (hB2.trans (hb3.mono hB2.size))
      clear hb1 hb2 hb3 hB2
      go_wp2
      go_ret
      exact ⟨rfl, HB3.out⟩
    have d1 : (E != 0) = false := by rw [hE0]; rfl
    have hf := enc_same true l (hE.trans hE0)
    have SK := fun w1 => K.seek w1 true S key (by rw [← hS]; have := (enc_size true l hf).2; omega) (by omega)
    have hd : Node.dec true S = some l := by rw [← hS]; exact Node.dec_enc true l hf
    have hv : Node.seekV true S key = (((Node.seekI true l key : Nat) : Int), Node.cellAt l (Node.seekI true l key), decide (Node.seekI true l key < l.length) && decide ((Node.cellAt l (Node.seekI true l key)).key = key)) := by unfold Node.seekV; rw [hd]
    have hri : Node.rises l = true := by
      unfold Node.fits Node.right at hf
      simp only [Bool.and_eq_true] at hf
      exact hf.1.1.2
    have FD := found_ok l key hri
    rw [hv] at SK
    simp only at SK
    obtain ⟨Q, hQ⟩ : ∃ Q, (decide (Node.seekI true l key < l.length) && decide ((Node.cellAt l (Node.seekI true l key)).key = key)) = Q := ⟨_, rfl⟩
    obtain ⟨⟨ck, cv, co, cz, cc⟩, hX⟩ : ∃ X, Node.cellAt l (Node.seekI true l key) = X := ⟨_, rfl⟩
    rw [hQ] at FD
    simp only [hQ] at SK
    simp only [hX] at SK
    obtain ⟨J, hJ⟩ : ∃ J, Node.seekI true l key = J := ⟨_, rfl⟩
    rw [hJ] at FD
    simp only [hJ] at SK
    unfold CV.v at SK
    simp only at SK
    have SK := fun w => Lib.hid (SK w)
    have HFD := Lib.hid FD
    have HC := Lib.hid hc
    have HBN := Lib.hid hb
    obtain ⟨A, cap, rfl, _, _⟩ := hc.form
    have hJl := FD.le
    have hl6 := hb.1
    clear hB hc hk hb hS hE hE0 hf hd hv hri FD hQ hX hJ
    go_enter Try.func6, Try.ntmps6
    go_wp2_with fail
    refine AC.out.mono ?_
    rintro _ w1 ⟨rfl, hb1⟩
    go_wp2_with fail
    refine (LC.out w1 hb1).mono ?_
    rintro _ w2 ⟨rfl, hb2⟩
    have hB2 := hb1.trans (hb2.mono hb1.size)
    go_wp2_with fail
    refine (EC.out w2 hB2).mono ?_
    rintro _ w3 ⟨rfl, hb3⟩
    have hB3 := hB2.trans (hb3.mono hB2.size)
    go_wp2_with fail
    refine (SK _).out.mono ?_
    rintro _ w4 ⟨rfl, hb4⟩
    have hB4 := hB3.trans (hb4.mono hB3.size)
    have HB5 := Lib.hid (hB4.alloc hB4.size (.cells #[.string ck, .string cv, .int .i64 co, .int .i64 cz, .int .i64 cc] 35))
    clear hb1 hb2 hb3 hb4 hB2 hB3 hB4
    go_wp2
    go_loopw [10] (fun ii wr => ∃ k : Nat, k ≤ l.length ∧ ii = .int .i64 k ∧ Below w.heap.size w wr) (fun ii _ => l.length - (intOf ii).toNat)
    case atStart => exact ⟨0, by omega, rfl, HB5.out⟩
    case round =>
      obtain ⟨k, hk, rfl, hBr⟩ := hrel
      by_cases hkl : k < l.length
      · have t1 : decide (k < l.length) = true := decide_eq_true hkl
        obtain ⟨b, off, hA, hlt, c0, _⟩ := (HC.out.below hBr).get k hkl
        have LQ := fun w => less_any l[k].key key (by have := (HBN.out.at_ k hkl).1; omega) w
        have i0 : (0 : Int) ≤ (k : Int) := by omega
        have i1 : (k : Int) < (l.length : Int) := by omega
        obtain ⟨c, hcc⟩ : ∃ c, cmpL l[k].key.data.toList key.data.toList = c := ⟨_, rfl⟩
        have hck : Node.cmpK l[k] key = c := hcc
        simp only [hcc] at LQ
        have F1 := HFD.out.before k hkl
        have F2 := HFD.out.behind k hkl
        have F3 := HFD.out.here
        rw [hck] at F1 F2
        obtain ⟨ky, hx⟩ : ∃ x, l[k].key = x := ⟨_, rfl⟩
        simp only [hx] at c0 LQ
        have LQ := fun w => Lib.hid (LQ w)
        have HBr := Lib.hid hBr
        subst hA
        rcases Nat.lt_trichotomy k J with h | h | h
        · have d5 : decide (k < J) = true := decide_eq_true (by omega)
          have d6 : decide (0 ≤ c) = false := decide_eq_false (by have := F1 h; omega)
          have d11 : decide (c ≤ 0) = true := decide_eq_true (by have := F1 h; omega)
          have d12 : (c == 0) = false := by rw [beq_eq_false_iff_ne]; have := F1 h; omega
          have d7 : decide (J < k) = false := decide_eq_false (by omega)
          have d8 : ((k : Int) == (J : Int)) = false := by rw [beq_eq_false_iff_ne]; omega
          have d13 : (k == J) = false := by rw [beq_eq_false_iff_ne]; omega
          have d14 : decide (k = J) = false := decide_eq_false (by omega)
          clear F1 F2 F3 hx hck hcc h hBr
          go_wp2_with fail
          refine (LQ _).out.mono ?_
          rintro _ w6 ⟨rfl, hb6⟩
          go_wp2
          go_roundw
          case rel => exact ⟨k + 1, by omega, by go_num, HBr.out.trans (hb6.mono HBr.out.size)⟩
          case measure => simp [intOf]; omega
        · subst h
          have d5 : decide (k < k) = false := decide_eq_false (by omega)
          have d8 : ((k : Int) == (k : Int)) = true := by simp
          have hq : (c == 0) = Q := by have := F3 hkl; rw [hck] at this; exact this
          clear F1 F2 F3 hx hck hcc hBr
          rcases Int.lt_trichotomy c 0 with hs | hs | hs
          · have d6 : decide (0 ≤ c) = false := decide_eq_false (by omega)
            have d11 : decide (c ≤ 0) = true := decide_eq_true (by omega)
            have d9 : (c == 0) = false := by rw [beq_eq_false_iff_ne]; omega
            rw [d9] at hq
            subst hq
            go_wp2_with fail
            refine (LQ _).out.mono ?_
            rintro _ w6 ⟨rfl, hb6⟩
            go_wp2
            go_roundw
            case rel => exact ⟨k + 1, by omega, by go_num, HBr.out.trans (hb6.mono HBr.out.size)⟩
            case measure => simp [intOf]; omega
          · subst hs
            have d6 : decide ((0 : Int) ≤ 0) = true := rfl
            have d9 : ((0 : Int) == 0) = true := rfl
            rw [d9] at hq
            subst hq
            go_wp2_with fail
            refine (LQ _).out.mono ?_
            rintro _ w6 ⟨rfl, hb6⟩
            go_wp2
            go_roundw
            case rel => exact ⟨k + 1, by omega, by go_num, HBr.out.trans (hb6.mono HBr.out.size)⟩
            case measure => simp [intOf]; omega
          · have d6 : decide (0 ≤ c) = true := decide_eq_true (by omega)
            have d11 : decide (c ≤ 0) = false := decide_eq_false (by omega)
            have d9 : (c == 0) = false := by rw [beq_eq_false_iff_ne]; omega
            rw [d9] at hq
            subst hq
            go_wp2_with fail
            refine (LQ _).out.mono ?_
            rintro _ w6 ⟨rfl, hb6⟩
            go_wp2
            go_roundw
            case rel => exact ⟨k + 1, by omega, by go_num, HBr.out.trans (hb6.mono HBr.out.size)⟩
            case measure => simp [intOf]; omega
        · have d5 : decide (k < J) = false := decide_eq_false (by omega)
          have d6 : decide (c ≤ 0) = false := decide_eq_false (by have := F2 h; omega)
          have d11 : decide (0 ≤ c) = true := decide_eq_true (by have := F2 h; omega)
          have d12 : (c == 0) = false := by rw [beq_eq_false_iff_ne]; have := F2 h; omega
          have d7 : decide (J < k) = true := decide_eq_true (by omega)
          have d8 : ((k : Int) == (J : Int)) = false := by rw [beq_eq_false_iff_ne]; omega
          have d13 : (k == J) = false := by rw [beq_eq_false_iff_ne]; omega
          have d14 : decide (k = J) = false := decide_eq_false (by omega)
          clear F1 F2 F3 hx hck hcc h hBr
          go_wp2_with fail
          refine (LQ _).out.mono ?_
          rintro _ w6 ⟨rfl, hb6⟩
          go_wp2
          go_roundw
          case rel => exact ⟨k + 1, by omega, by go_num, HBr.out.trans (hb6.mono HBr.out.size)⟩
          case measure => simp [intOf]; omega
      · have t1 : decide (k < l.length) = false := decide_eq_false hkl
        have d5 : decide (J ≤ l.length) = true := decide_eq_true (by omega)
        have HBr := Lib.hid hBr
        by_cases hj : J < l.length
        · have d6 : decide (J < l.length) = true := decide_eq_true (by omega)
          clear hBr hj
          go_wp2
          go_ret
          exact ⟨rfl, HBr.out⟩
        · have d6 : decide (J < l.length) = false := decide_eq_false (by omega)
          have hq := HFD.out.end_ (by omega)
          subst hq
          clear hBr hj
          go_wp2
          go_ret
          exact ⟨rfl, HBr.out⟩
end Go.Proofs.Ytegmffeokfahjaa
