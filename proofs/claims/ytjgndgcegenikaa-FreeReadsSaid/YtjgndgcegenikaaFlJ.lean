/-
  The landed pieces of free pages: Pieces, lay, take, slices.IsSortedFunc by the program's order, apart, rightPiece. Conditions: those typed.
-/
import Derived.Test.YtjgndgcegenikaaFlC
import Derived.Test.YtjgndgcegenikaaFlG
import Derived.Test.YtjgndgcegenikaaFrRefC
import Derived.Shelf.Abstract
namespace Go.Proofs.Ytjgndgcegenikaa
open Go.RowKit Go.Sort Go.Lib
set_option maxRecDepth 100000 in
theorem flpieces_ok (w : World) (n : Int) (hn : n ≤ 1000000) : Calls Try.prog 26 #[.int .i64 n] w fun e w' => e = .returned (.int .i64 (Fr.pieces n : Nat)) ∧ Below w.heap.size w w' := by
  obtain ⟨R, hR⟩ : ∃ R, Fr.pieces n = R := ⟨_, rfl⟩
  rw [hR]
  by_cases h : n < 1
  · have d : decide (n < 1) = true := decide_eq_true h
    have HE : Hid (R = 0) := Lib.hid (by rw [← hR]; unfold Fr.pieces; rw [if_pos (by omega)])
    clear h hR hn
    go_enter Try.func26, Try.ntmps26
    go_wp2
    go_ret
    exact ⟨by rw [HE.out]; rfl, Below.refl _ _⟩
  · have d : decide (n < 1) = false := decide_eq_false h
    obtain ⟨k, rfl⟩ : ∃ k : Nat, n = (k : Int) + 1 := ⟨(n - 1).toNat, by omega⟩
    have HE : Hid (R = k / 40 + 1) := Lib.hid (by rw [← hR]; unfold Fr.pieces; rw [if_neg (by omega), show ((k : Int) + 1).toNat = k + 1 by omega]; omega)
    have e1 : (k : Int) + 1 - 1 = k := by omega
    have e2 : (k : Int).tdiv 40 = ((k / 40 : Nat) : Int) := by rw [Int.tdiv_eq_ediv_of_nonneg (by omega)]; rfl
    have b1 : k / 40 ≤ 1000000 := by omega
    obtain ⟨q, hq⟩ : ∃ q, k / 40 = q := ⟨_, rfl⟩
    rw [hq] at HE e2 b1
    have HN := Lib.hid hn
    clear h hR hn hq
    go_enter Try.func26, Try.ntmps26
    have hk := HN.out
    go_wp2
    go_ret
    exact ⟨by rw [HE.out]; first | rfl | simp, Below.refl _ _⟩
set_option maxRecDepth 100000 in
theorem fllay_ok (w : World) (s : ByteArray) (n k : Nat) (K : Int) (hK : K = k) (hs : s.size ≤ 1048576) (hn : n < 2 ^ (8 * k)) (hn2 : n < 2 ^ 63) (hk : 1 ≤ k) (hk8 : k ≤ 8) : Calls Try.prog 36 #[.string s, .int .i64 n, .int .i64 K] w fun e w' => e = .returned (.string ⟨(s.data.toList ++ beB n k 0).toArray⟩) ∧ Below w.heap.size w w' := by
  subst hK
  have C := fun w => Lib.hid (put_ok s n k hs hn hk hk8 w)
  have hw : IntKind.u64.wrap (n : Int) = n := by simp [IntKind.wrap, IntKind.bits, IntKind.signed]; omega
  obtain ⟨r, hr⟩ : ∃ r : ByteArray, ⟨(s.data.toList ++ beB n k 0).toArray⟩ = r := ⟨_, rfl⟩
  rw [hr] at C ⊢
  clear hs hn hn2 hk hk8 hr
  go_enter Try.func36, Try.ntmps36
  go_wp2_with fail
  refine (C _).out.mono ?_
  rintro _ w1 ⟨rfl, hb1⟩
  go_wp2
  go_ret
  exact ⟨rfl, hb1⟩
namespace Fr
/-- adjacent ones stand in order -/
def Asc (l : List FP) : Prop := ∀ i (h : i + 1 < l.length), less l[i + 1] l[i] = false
/-- a number of a text as an int -/
def numAt (s : ByteArray) (a k : Nat) : Int := if a + k ≤ s.size then wrap64 (beN ((s.data.toList.drop a).take k) : Nat) else 0
end Fr
set_option maxRecDepth 100000 in
theorem fltakeN_ok (w : World) (s : ByteArray) (a k : Nat) (hs : s.size ≤ 1048576) (ha : a ≤ 1048576) (hk : 1 ≤ k) (hk8 : k ≤ 8) : Calls Try.prog 38 #[.string s, .int .i64 a, .int .i64 k] w fun e w' => e = .returned (.int .i64 (Fr.numAt s a k)) ∧ w = w' := by
  obtain ⟨R, hR⟩ : ∃ R, Fr.numAt s a k = R := ⟨_, rfl⟩
  rw [hR]
  unfold Fr.numAt at hR
  by_cases h : a + k ≤ s.size
  · have C := fun w => Lib.hid (take_ok s hs a k hk hk8 h w)
    rw [if_pos h] at hR
    obtain ⟨m, hm⟩ : ∃ m, beN ((s.data.toList.drop a).take k) = m := ⟨_, rfl⟩
    rw [hm] at C hR
    have HR := Lib.hid hR
    clear hs ha hk hk8 h hm hR
    go_enter Try.func38, Try.ntmps38
    go_wp2_with fail
    refine (C _).out.mono ?_
    rintro _ _ ⟨rfl, rfl⟩
    go_wp2
    go_ret
    exact ⟨by rw [← HR.out]; rfl, rfl⟩
  · have C := fun w => Lib.hid (take_short s hs a k ⟨by omega, by omega⟩ (by omega) (by omega) (by omega) w)
    rw [if_neg h] at hR
    have HR := Lib.hid hR
    clear hs ha hk hk8 h hR
    go_enter Try.func38, Try.ntmps38
    go_wp2_with fail
    refine (C _).out.mono ?_
    rintro _ _ ⟨rfl, rfl⟩
    go_wp2
    go_ret
    exact ⟨by rw [← HR.out]; rfl, rfl⟩
theorem grow_below (w : World) (q : Nat) (os' : Array Obj) : Below w.heap.size w (grow (w.drewN q) os') := by
  refine ⟨rfl, rfl, rfl, by simp [grow, World.drewN], fun k hk => ?_⟩
  show (w.heap ++ os')[k]? = _
  rw [Array.getElem?_append_left hk]
theorem fl_item {w : World} {A : Option Addr} {n cap : Nat} {l : List FP} (h : FreesAt w (.slice A n cap) l) (k : Nat) (hk : k < l.length) : ∃ b off, A = some ⟨b, off, none⟩ ∧ ∀ w', Below w.heap.size w w' → (Instr.loadAt 31 (.pointer (some ⟨b, off + k * 2, none⟩))).run Try.prog w' = .ok (.agg #[.int .i64 l[k].1, .int .i64 l[k].2]) w' := by
  obtain ⟨b, off, hA, hb, h0, h1⟩ := h.get k hk
  refine ⟨b, off, hA, fun w' hw => ?_⟩
  have g0 := (hw.cell (p := ⟨b, off + k * 2, none⟩) hb).trans h0
  have g1 := (hw.cell (p := ⟨b, off + k * 2 + 1, none⟩) hb).trans h1
  refine run_loadAt_mid w' b (off + k * 2) 31 [.int .i64 l[k].1, .int .i64 l[k].2] _ (fun j v hv => ?_) Try.underlying31 rfl (by kernel_rfl)
  rcases j with _ | _ | j
  · simpa using g0.trans hv
  · simpa using g1.trans hv
  · simp at hv
set_option maxRecDepth 100000 in
set_option maxHeartbeats 3200000 in
theorem flsorted_ok (w : World) (A : Option Addr) (cap : Nat) (l : List FP) (hc : FreesAt w (.slice A l.length cap) l) (hl : l.length ≤ 65536) : Calls Try.prog 44 #[.slice A l.length cap, .func (.func 34) #[] #[]] w fun e w' => ∃ b, e = .returned (.bool b) ∧ (b = true ↔ Fr.Asc l) ∧ Below w.heap.size w w' := by
  have C := fun w f g => Lib.hid (order_ok w f g)
  have HC := Lib.hid C
  have HI := Lib.hid hc
  have HL := Lib.hid hl
  clear C hc
  obtain ⟨n, hn⟩ : ∃ n, l.length = n := ⟨_, rfl⟩
  have HN := Lib.hid hn
  rw [hn] at HI hl ⊢
  clear hn
  go_enter Try.func44, Try.ntmps44
  go_wp2
  go_loopw [5] (fun ii wr => ∃ m : Int, -1 ≤ m ∧ m < n ∧ ii = .int .i64 m ∧ Hid (∀ i (h : i + 1 < l.length), m ≤ (i : Int) → Fr.less l[i + 1] l[i] = false) ∧ Below w.heap.size w wr) (fun ii _ => (intOf ii + 1).toNat)
  case atStart => exact ⟨(n : Int) - 1, by omega, by omega, rfl, Lib.hid (fun i h hm => by have := HN.out; omega), Below.refl _ _⟩
  case round =>
    obtain ⟨m, hm0, hm1, rfl, HM, hbw⟩ := hrel
    by_cases h0 : 0 < m
    · have t1 : decide (0 < m) = true := decide_eq_true h0
      obtain ⟨k, rfl⟩ : ∃ k : Nat, m = (k : Int) + 1 := ⟨(m - 1).toNat, by omega⟩
      have hk1 : k + 1 < l.length := by have := HN.out; omega
      obtain ⟨g, off, hA, hgl, c0, c1⟩ := HI.out.get k (by omega)
      obtain ⟨g2, off2, hA2, _, c2, c3⟩ := HI.out.get (k + 1) hk1
      rw [hA] at hA2
      obtain ⟨rfl, rfl⟩ : g = g2 ∧ off = off2 := by injection hA2 with e; injection e with e1 e2; exact ⟨e1, e2⟩
      subst hA
      obtain ⟨W, hW⟩ : ∃ W, wr.drew = W := ⟨_, rfl⟩
      have hbW : Below w.heap.size w W := hW ▸ hbw.drew
      have HBW := Lib.hid hbW
      have d0 := (hbW.cell (p := ⟨g, off + k * 2, none⟩) hgl).trans c0
      have d1 := (hbW.cell (p := ⟨g, off + k * 2 + 1, none⟩) hgl).trans c1
      have d2 := (hbW.cell (p := ⟨g, off + (k + 1) * 2, none⟩) hgl).trans c2
      have d3 := (hbW.cell (p := ⟨g, off + (k + 1) * 2 + 1, none⟩) hgl).trans c3
      obtain ⟨f, hf⟩ : ∃ f, l[k + 1] = f := ⟨_, rfl⟩
      obtain ⟨h, hh⟩ : ∃ h, l[k] = h := ⟨_, rfl⟩
      rw [hh] at d0 d1
      rw [hf] at d2 d3
      have CW := Lib.hid (HC.out W f h).out
      have HLS : Hid (decide (Fr.cmpF f h < 0) = Fr.less l[k + 1] l[k]) := Lib.hid (by rw [hf, hh]; exact Fr.cmpF_less f h)
      obtain ⟨c, hc⟩ : ∃ c, Fr.cmpF f h = c := ⟨_, rfl⟩
      rw [hc] at CW HLS
      obtain ⟨f1, f2⟩ := f
      obtain ⟨h1, h2⟩ := h
      unfold fv at CW
      simp only at d0 d1 d2 d3 CW
      have i0 : (0 : Int) ≤ (k : Int) := by omega
      have i1 : (k : Int) < (n : Int) := by omega
      have i2 : (0 : Int) ≤ (k : Int) + 1 := by omega
      have i3 : (k : Int) + 1 < (n : Int) := by omega
      have i4 : (k : Int) + 1 - 1 = k := by omega
      have i5 : IntKind.i64.wrap (k : Int) = k := IntWalk.i64_in _ (by omega)
      clear hbW c0 c1 c2 c3 hgl hf hh hc HC HI hA2
      go_wp2
      refine region_tail 10 (by kernel_rfl) (by kernel_rfl) (fun W2 hW2 => ?_)
      obtain rfl : W = W2 := hW.symm.trans hW2
      clear hW hW2
      simp only [List.take_succ_cons, List.take_zero, List.drop_succ_cons, List.drop_zero]
      repeat still_step
      refine wpStill_nil ?_
      have HM2 : Hid (Fr.less l[k + 1] l[k] = false → ∀ i (h : i + 1 < l.length), (k : Int) ≤ (i : Int) → Fr.less l[i + 1] l[i] = false) := Lib.hid (fun h0 i h hi => by
        by_cases e : i = k
        · subst e; exact h0
        · exact HM.out i h (by omega))
      cases hcl : decide (c < 0) with
      | true =>
        have HN0 : Hid (¬ Fr.Asc l) := Lib.hid (fun h => by have := h k hk1; rw [← HLS.out, hcl] at this; cases this)
        clear HM2 HM HLS
        go_wp2_with fail
        refine CW.out.mono ?_
        rintro _ w5 ⟨rfl, hg5⟩
        go_wp2
        go_ret
        obtain ⟨q, os', rfl⟩ := hg5
        exact ⟨false, rfl, ⟨fun h => (by cases h), fun h => (HN0.out h).elim⟩, HBW.out.trans ((grow_below W q os').mono HBW.out.size)⟩
      | false =>
        have HM3 := Lib.hid (HM2.out (by rw [← HLS.out, hcl]))
        clear HM2 HM HLS
        go_wp2_with fail
        refine CW.out.mono ?_
        rintro _ w5 ⟨rfl, hg5⟩
        go_wp2
        go_roundw
        case rel =>
          obtain ⟨q, os', rfl⟩ := hg5
          exact ⟨k, by omega, by omega, by go_num, HM3, HBW.out.trans ((grow_below W q os').mono HBW.out.size)⟩
        case measure => simp [intOf]; omega
    · have t1 : decide (0 < m) = false := decide_eq_false h0
      have HE : Hid (Fr.Asc l) := Lib.hid (fun i h => HM.out i h (by omega))
      clear HM h0
      go_wp2
      go_ret
      exact ⟨true, rfl, ⟨fun _ => HE.out, fun _ => rfl⟩, hbw⟩
end Go.Proofs.Ytjgndgcegenikaa
