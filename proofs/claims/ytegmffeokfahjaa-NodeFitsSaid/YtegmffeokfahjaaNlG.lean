/-
  Contracts of the landed functions of chapter 6: Seek's comparison, slices.BinarySearchFunc over cells that rise. Conditions: lists of at most 600.
-/
import Derived.Test.YtegmffeokfahjaaNlC
import Derived.Test.YtegmffeokfahjaaStrCmp
import Derived.Test.YtegmffeokfahjaaRNodeJ
namespace Go.Proofs.Ytegmffeokfahjaa
open Go.RowKit
theorem compare_cmpL (a b : List UInt8) : Lib.compareBytes a b = cmpL a b := by
  induction a generalizing b with
  | nil => cases b <;> rfl
  | cons x a ih =>
    cases b with
    | nil => rfl
    | cons y b =>
      rw [Lib.compareBytes, cmpL, ih]
theorem lcmp_ok (w : World) (c : CV) (k : ByteArray) : Calls Try.prog 39 #[c.v, .string k] w fun e w' => e = .returned (.int .i64 (Node.cmpK c k)) ∧ Below w.heap.size w w' := by
  obtain ⟨key, val, over, size, child⟩ := c
  unfold CV.v Node.cmpK
  simp only
  have hbl : Below w.heap.size w (w.alloc (.cells #[.string key, .string val, .int .i64 over, .int .i64 size, .int .i64 child] 35)) := (Below.refl _ w).alloc (Nat.le_refl _) _
  have C0 := fun w => Any.strings_Compare Try.compareLays key k w
  simp only [compare_cmpL] at C0
  have C : Hid (∀ w, Calls Try.prog 40 #[.string key, .string k] w fun e w' => e = .returned (.int .i64 (cmpL key.data.toList k.data.toList)) ∧ w = w') := Lib.hid (fun w => (C0 w).mono fun _ _ ⟨e, hw⟩ => ⟨e, hw.symm⟩)
  clear C0
  go_enter Try.func39, Try.ntmps39
  go_wp2_with fail
  refine (C.out _).mono ?_
  rintro _ _ ⟨rfl, rfl⟩
  go_wp2
  go_ret
  exact ⟨rfl, hbl⟩
namespace Node
/-- is the key there? -/
def there (key : ByteArray) (l : List CV) : Bool := decide (seekAt key l < l.length) && decide (cmpK (cellAt l (seekAt key l)) key = 0)
theorem cellAt_eq (l : List CV) (i : Nat) (h : i < l.length) : cellAt l i = l[i] := by
  unfold cellAt; rw [List.getD_eq_getElem?_getD, List.getElem?_eq_getElem h]; rfl
theorem less_down {l : List CV} (hr : rises l = true) (key : ByteArray) (i k : Nat) (hk : k < l.length) (hik : i ≤ k) (h : cmpK l[k] key < 0) : cmpK (l[i]'(by omega)) key < 0 := by
  by_cases e : i = k
  · subst e; exact h
  · exact cmpL_trans (rises_lt hr i k hk (by omega)) (Int.le_of_lt h)
theorem seek_is (key : ByteArray) (l : List CV) (lo : Nat) (hlo : lo ≤ l.length) (h1 : ∀ t (h : t < l.length), t < lo → cmpK l[t] key < 0) (h2 : ∀ t (h : t < l.length), lo ≤ t → 0 ≤ cmpK l[t] key) : seekAt key l = lo := by
  have hle := seekAt_le key l
  by_cases ha : seekAt key l < lo
  · have x1 := at_place key l (by omega)
    have x2 := h1 (seekAt key l) (by omega) ha
    omega
  · by_cases hb : lo < seekAt key l
    · have x1 := before key l lo (by omega) hb
      have x2 := h2 lo (by omega) (Nat.le_refl _)
      omega
    · omega
theorem lastLe_is (key : ByteArray) (l : List CV) (m : Nat) : ∀ n, m < n → n ≤ l.length → (∀ h : m < l.length, cmpK l[m] key ≤ 0) → (∀ t (h : t < l.length), m < t → 0 < cmpK l[t] key) → lastLe key l n = m := by
  intro n
  induction n with
  | zero => intro h; omega
  | succ n ih =>
    intro h1 h2 h3 h4
    rw [lastLe, dif_pos (by omega)]
    by_cases e : m = n
    · subst e
      rw [if_pos (h3 (by omega))]
    · rw [if_neg (by have := h4 n (by omega) (by omega); omega)]
      exact ih (by omega) (by omega) h3 h4
theorem cmpK_zero (c : CV) (key : ByteArray) : decide (cmpK c key = 0) = decide (c.key = key) := by
  apply decide_eq_decide.2
  unfold cmpK
  constructor
  · intro h
    have := cmpL_eq h
    apply ByteArray.ext
    apply Array.ext'
    exact this
  · intro h
    rw [h]
    exact cmpL_self _
end Node
set_option maxRecDepth 100000 in
set_option maxHeartbeats 6400000 in
theorem lbs_ok (w : World) (A : Option Addr) (cap : Nat) (k : ByteArray) (l : List CV) (hc : CellsAt w (.slice A l.length cap) l) (hl6 : l.length ≤ 600) (hr : Node.rises l = true) : Calls Try.prog 38 #[.slice A l.length cap, .string k, .func (.func 39) #[] #[]] w fun e w' => e = .returned (.tuple #[.int .i64 (Node.seekAt k l : Nat), .bool (Node.there k l)]) ∧ Below w.heap.size w w' := by
  have HC := Lib.hid hc
  have HR := Lib.hid hr
  obtain ⟨I, hI⟩ : ∃ I, Node.seekAt k l = I := ⟨_, rfl⟩
  obtain ⟨Q, hQ⟩ : ∃ Q, Node.there k l = Q := ⟨_, rfl⟩
  have HQ : Hid ((decide (I < l.length) && decide (Node.cmpK (Node.cellAt l I) k = 0)) = Q) := Lib.hid (by rw [← hQ, ← hI]; rfl)
  have HI := Lib.hid hI
  rw [hI, hQ]
  have E : ∀ args w, (callFunc 39 args).run Try.prog w = .ok (.enter 39 args) w := fun args w => by kernel_rfl
  clear hc hr hI hQ
  go_enter Try.func38, Try.ntmps38
  go_wp2
  go_loopw [9, 10] (fun ll hh wr => ∃ lo hi : Nat, ll = .int .i64 lo ∧ hh = .int .i64 hi ∧ lo ≤ hi ∧ hi ≤ l.length ∧ Hid (∀ t (h : t < l.length), t < lo → Node.cmpK l[t] k < 0) ∧ Hid (∀ t (h : t < l.length), hi ≤ t → 0 ≤ Node.cmpK l[t] k) ∧ Below w.heap.size w wr) (fun ll hh _ => (intOf hh).toNat - (intOf ll).toNat)
  case atStart => exact ⟨0, l.length, rfl, rfl, by omega, by omega, Lib.hid (fun t h ht => by omega), Lib.hid (fun t h ht => by omega), Below.refl _ _⟩
  case round =>
    obtain ⟨lo, hi, rfl, rfl, hlh, hin, HLO, HHI, hBr⟩ := hrel
    by_cases hlt : lo < hi
    · have t1 : decide (lo < hi) = true := decide_eq_true hlt
      obtain ⟨mid, hm⟩ : ∃ mid, (lo + hi) / 2 = mid := ⟨_, rfl⟩
      have hm1 : lo ≤ mid := by omega
      have hm2 : mid < hi := by omega
      have hmi : ((lo : Int) + (hi : Int)) / 2 = (mid : Int) := by omega
      obtain ⟨b, off, hA, hlb, c0, c1, c2, c3, c4⟩ := (HC.out.below hBr).get mid (by omega)
      have CC0 := fun w => lcmp_ok w l[mid] k
      obtain ⟨c, hcc⟩ : ∃ c, Node.cmpK l[mid] k = c := ⟨_, rfl⟩
      simp only [hcc] at CC0
      have HCC := Lib.hid hcc
      obtain ⟨⟨key, val, over, size, child⟩, hx⟩ : ∃ x, l[mid] = x := ⟨_, rfl⟩
      simp only [hx] at c0 c1 c2 c3 c4 CC0
      unfold CV.v at CC0
      simp only at CC0
      have CC := fun w => Lib.hid (CC0 w)
      have i0 : (0 : Int) ≤ (mid : Int) := by omega
      have i1 : (mid : Int) < (l.length : Int) := by omega
      have w1 : IntKind.i64.wrap ((lo : Int) + (hi : Int)) = (lo : Int) + hi := IntWalk.i64_in _ (by omega)
      have w2 : IntKind.i64.wrap (mid : Int) = mid := IntWalk.i64_in _ (by omega)
      have w3 : IntKind.i64.wrap ((mid : Int) + 1) = ((mid + 1 : Nat) : Int) := by rw [IntWalk.i64_in _ (by omega)]; omega
      have w4 : IntKind.u64.wrap ((lo : Int) + (hi : Int)) = (lo : Int) + hi := by
        unfold IntKind.wrap
        simp [IntKind.bits, IntKind.signed]
        omega
      have w5 : IntKind.u64.wrap (mid : Int) = mid := by
        unfold IntKind.wrap
        simp [IntKind.bits, IntKind.signed]
        omega
      have HBr := Lib.hid hBr
      subst hA
      clear hx hcc hBr CC0 hm
      by_cases hc0 : c < 0
      · have d1 : decide (c < 0) = true := decide_eq_true hc0
        have HLO2 : Hid (∀ t (h : t < l.length), t < mid + 1 → Node.cmpK l[t] k < 0) := Lib.hid (fun t h ht => Node.less_down HR.out k t mid (by omega) (by omega) (by rw [HCC.out]; exact hc0))
        clear hc0
        go_wp2_with (go_at_fn 39; refine (CC _).out.mono ?_; rintro _ wy ⟨rfl, hby⟩)
        go_roundw
        case rel => exact ⟨mid + 1, hi, by rfl, rfl, by omega, hin, HLO2, HHI, HBr.out.trans (hby.mono HBr.out.size)⟩
        case measure => simp [intOf]; omega
      · have d1 : decide (c < 0) = false := decide_eq_false hc0
        have HHI2 : Hid (∀ t (h : t < l.length), mid ≤ t → 0 ≤ Node.cmpK l[t] k) := Lib.hid (fun t h ht => Int.not_lt.1 (fun hx => hc0 (by
          have := Node.less_down HR.out k mid t h ht hx
          rw [HCC.out] at this
          exact this)))
        clear hc0
        go_wp2_with (go_at_fn 39; refine (CC _).out.mono ?_; rintro _ wy ⟨rfl, hby⟩)
        go_roundw
        case rel => exact ⟨lo, mid, rfl, by rfl, by omega, by omega, HLO, HHI2, HBr.out.trans (hby.mono HBr.out.size)⟩
        case measure => simp [intOf]; omega
    · obtain rfl : hi = lo := by omega
      have t1 : decide (hi < hi) = false := decide_eq_false (by omega)
      have HIE : Hid (I = hi) := Lib.hid (by rw [← HI.out]; exact Node.seek_is k l hi hin HLO.out HHI.out)
      by_cases hn : hi < l.length
      · have t2 : decide (hi < l.length) = true := decide_eq_true hn
        obtain ⟨b, off, hA, hlb, c0, c1, c2, c3, c4⟩ := (HC.out.below hBr).get hi hn
        have CC0 := fun w => lcmp_ok w l[hi] k
        obtain ⟨c, hcc⟩ : ∃ c, Node.cmpK l[hi] k = c := ⟨_, rfl⟩
        simp only [hcc] at CC0
        obtain ⟨q, hq⟩ : ∃ q, (c == 0) = q := ⟨_, rfl⟩
        have HQQ : Hid (Q = q) := Lib.hid (by
          rw [← HQ.out, HIE.out, decide_eq_true hn, Node.cellAt_eq l hi hn, hcc, ← hq, Bool.true_and]
          rfl)
        obtain ⟨⟨key, val, over, size, child⟩, hx⟩ : ∃ x, l[hi] = x := ⟨_, rfl⟩
        simp only [hx] at c0 c1 c2 c3 c4 CC0
        unfold CV.v at CC0
        simp only at CC0
        have CC := fun w => Lib.hid (CC0 w)
        have i0 : (0 : Int) ≤ (hi : Int) := by omega
        have i1 : (hi : Int) < (l.length : Int) := by omega
        have HBr := Lib.hid hBr
        subst hA
        clear hx hcc hBr CC0
        go_wp2_with (go_at_fn 39; refine (CC _).out.mono ?_; rintro _ wy ⟨rfl, hby⟩)
        go_ret2
        exact ⟨by rw [HIE.out, HQQ.out]; rfl, HBr.out.trans (hby.mono HBr.out.size)⟩
      · have t2 : decide (hi < l.length) = false := decide_eq_false hn
        have HQQ : Hid (Q = false) := Lib.hid (by rw [← HQ.out, HIE.out, decide_eq_false hn]; rfl)
        have HBr := Lib.hid hBr
        clear hBr
        go_wp2
        go_ret2
        exact ⟨by rw [HIE.out, HQQ.out]; rfl, HBr.out⟩
end Go.Proofs.Ytegmffeokfahjaa
