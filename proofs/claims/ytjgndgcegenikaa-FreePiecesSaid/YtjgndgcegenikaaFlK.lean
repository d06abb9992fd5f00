/-
  The landed pieces of free pages: apart, rightPiece, Encode. Conditions: those typed.
-/
import Derived.Test.YtjgndgcegenikaaFlJ
namespace Go.Proofs.Ytjgndgcegenikaa
open Go.RowKit Go.Sort Go.Lib
namespace Fr
theorem ok_take {l : List FP} (h : Ok l) (k : Nat) : Ok (l.take k) := ⟨fun f hf => h.right f (List.mem_of_mem_take hf), h.once.sublist (List.take_sublist k l)⟩
/-- the next one may be added or the list may not be -/
theorem ok_next {l : List FP} (h : Ok l) (k : Nat) (hk : k < l.length) : addE (l.take k) l[k] = 0 ∧ addL (l.take k) l[k] = l.take (k + 1) := by
  have hr := h.right l[k] (List.getElem_mem hk)
  have hn : has (l.take k) l[k].2 = false := by
    rw [has_not]
    intro f hf
    obtain ⟨i, hi, rfl⟩ := List.getElem_of_mem hf
    rw [List.length_take] at hi
    rw [List.getElem_take]
    exact List.pairwise_iff_getElem.1 h.once i k (by omega) hk (by omega)
  unfold addE addL adds
  rw [hr, hn]
  refine ⟨rfl, ?_⟩
  rw [List.take_succ_eq_append_getElem hk]
  rfl
theorem add_next {l : List FP} (k : Nat) (hk : k < l.length) (h : addE (l.take k) l[k] = 0) : addL (l.take k) l[k] = l.take (k + 1) := by
  unfold addE at h
  unfold addL adds
  cases hr : right l[k] with
  | false => rw [hr] at h; simp at h
  | true =>
    cases hn : has (l.take k) l[k].2 with
    | true => rw [hr, hn] at h; simp at h
    | false => rw [List.take_succ_eq_append_getElem hk]; rfl
theorem okP_is (next : Int) (l : List FP) : okP next l = true ↔ ((next = 0 ∨ isP next = true) ∧ l.length ≤ 40 ∧ Asc l ∧ Ok l) := by
  rw [okP_iff]
  constructor
  · intro h
    refine ⟨?_, h.few, fun i hi => ?_, ⟨h.right, h.rise.imp (fun hab => ((before_iff _ _).1 hab).2)⟩⟩
    · have := h.lo; have := h.hi
      by_cases e : next = 0
      · exact .inl e
      · exact .inr ((isP_iff next).2 ⟨by omega, by omega⟩)
    · have := ((before_iff _ _).1 (List.pairwise_iff_getElem.1 h.rise i (i + 1) (by omega) hi (by omega))).1
      rw [less_iff] at this
      rw [← Bool.not_eq_true, less_iff]
      omega
  · rintro ⟨h1, h2, h3, h4⟩
    have hs : ∀ i d (h : i + d + 1 < l.length), less l[i] l[i + d + 1] = true := by
      intro i d
      induction d with
      | zero => intro h; exact less_total (fun e => (List.pairwise_iff_getElem.1 h4.once i (i + 1) (by omega) h (by omega)) e.symm) (h3 i h)
      | succ d ih =>
        intro h
        have a := ih (by omega)
        have b := less_total (fun e => (List.pairwise_iff_getElem.1 h4.once (i + d + 1) (i + d + 1 + 1) (by omega) h (by omega)) e.symm) (h3 (i + d + 1) h)
        exact less_trans a b
    refine ⟨?_, ?_, h2, h4.right, ?_⟩
    · rcases h1 with rfl | h1
      · omega
      · have := (isP_iff next).1 h1; omega
    · rcases h1 with rfl | h1
      · omega
      · have := (isP_iff next).1 h1; omega
    · rw [List.pairwise_iff_getElem]
      intro i j hi hj hij
      rw [before_iff]
      refine ⟨?_, List.pairwise_iff_getElem.1 h4.once i j hi hj hij⟩
      obtain ⟨d, rfl⟩ : ∃ d, j = i + d + 1 := ⟨j - i - 1, by omega⟩
      exact hs i d hj
end Fr
theorem FLAt.below {w w' : World} {p : Nat} {l : List FP} {F : List Nat} (h : FLAt w p l F) (hb : Below w.heap.size w w') : FLAt w' p l F := h.touch (Touch.ofBelow hb) (by simp)
set_option maxRecDepth 100000 in
set_option maxHeartbeats 3200000 in
theorem flapart_ok (w : World) (A : Option Addr) (cap : Nat) (l : List FP) (hc : FreesAt w (.slice A l.length cap) l) (hl : l.length ≤ 65536) : Calls Try.prog 45 #[.slice A l.length cap] w fun e w' => ∃ b, e = .returned (.bool b) ∧ (b = true ↔ Fr.Ok l) ∧ Below w.heap.size w w' := by
  have CN := fun w => Lib.hid (flnew_ok w)
  have HI := Lib.hid hc
  have HAdd : Hid (∀ w p l F f, FLAt w p l F → Calls Try.prog 11 #[.pointer (some ⟨p, 0, none⟩), fv f] w (FrDid FLAt w p F (Fr.addL l f) (.returned (.int .i64 (Fr.addE l f))))) := Lib.hid (fun w p l F f hA => fladd_ok w p l F f hA)
  have hz : ∀ w, (zeroValue 31).run Try.prog w = .ok (.agg #[.int .i64 0, .int .i64 0]) w := fun w => by kernel_rfl
  obtain ⟨n, hn⟩ : ∃ n, l.length = n := ⟨_, rfl⟩
  have HN := Lib.hid hn
  rw [hn] at HI hl ⊢
  clear hn hc
  go_enter Try.func45, Try.ntmps45
  go_wp2_with fail
  refine (CN _).out.mono ?_
  rintro _ w0 ⟨p, F, rfl, hA0, hF0, hb0⟩
  obtain rfl : F = [p] := by obtain ⟨_, _, _, e⟩ := hA0; exact e
  have hpw : w.heap.size ≤ p := hF0 p (by simp)
  have HA0 := Lib.hid hA0
  have HB0 := Lib.hid hb0
  clear CN hA0 hF0 hb0
  go_wp2
  go_loopw [9] (fun ii wr => ∃ k : Nat, k ≤ n ∧ ii = .int .i64 k ∧ Hid (FLAt wr p (l.take k) [p]) ∧ Hid (∀ i (h : i < l.length), i < k → Fr.addE (l.take i) l[i] = 0) ∧ Hid (Fr.Ok (l.take k)) ∧ Below w.heap.size w wr) (fun ii _ => n - (intOf ii).toNat)
  case atStart => exact ⟨0, by omega, rfl, Lib.hid (by simpa using HA0.out), Lib.hid (fun i h hi => by omega), Lib.hid (by simpa using Fr.Ok.nil), HB0.out⟩
  case round =>
    obtain ⟨k, hk, rfl, HA, HE, HO, hbw⟩ := hrel
    by_cases hkn : k < n
    · have t1 : decide (k < n) = true := decide_eq_true hkn
      have hkl : k < l.length := by rw [HN.out]; exact hkn
      obtain ⟨g, off, hAd, hgl, c0, c1⟩ := HI.out.get k hkl
      subst hAd
      have d0 := (hbw.cell (p := ⟨g, off + k * 2, none⟩) hgl).trans c0
      have d1 := (hbw.cell (p := ⟨g, off + k * 2 + 1, none⟩) hgl).trans c1
      have hgr : g < wr.heap.size := Nat.lt_of_lt_of_le hgl hbw.size
      obtain ⟨f, hf⟩ : ∃ f, l[k] = f := ⟨_, rfl⟩
      rw [hf] at d0 d1
      have hAa := HA.out.below ((Below.refl _ wr).alloc (Nat.le_refl _) (.cells #[.int .i64 f.1, .int .i64 f.2] 31))
      have CA := Lib.hid (HAdd.out _ p (l.take k) [p] f hAa)
      have HF := Lib.hid hf
      obtain ⟨E, hE⟩ : ∃ E, Fr.addE (l.take k) f = E := ⟨_, rfl⟩
      have HEQ := Lib.hid hE
      rw [hE] at CA
      obtain ⟨f1, f2⟩ := f
      unfold fv at CA
      simp only at d0 d1 CA
      have i0 : (0 : Int) ≤ (k : Int) := by omega
      have i1 : (k : Int) < (n : Int) := by omega
      clear c0 c1 hgl hf hE hAa HAdd
      by_cases he : E = 0
      · have t2 : (E != 0) = false := by simp [he]
        have HL2 : Hid (Fr.addL (l.take k) (f1, f2) = l.take (k + 1)) := Lib.hid (by
          have := Fr.add_next k hkl (by rw [HF.out, HEQ.out, he])
          rw [HF.out] at this
          exact this)
        have HO2 : Hid (Fr.Ok (l.take (k + 1))) := Lib.hid (by rw [← HL2.out]; exact Fr.addL_ok HO.out _)
        have HE2 : Hid (∀ i (h : i < l.length), i < k + 1 → Fr.addE (l.take i) l[i] = 0) := Lib.hid (fun i h hi => by
          by_cases e : i = k
          · subst e; rw [HF.out, HEQ.out, he]
          · exact HE.out i h (by omega))
        clear HF; clear he HI
        go_wp2_with fail
        refine CA.out.mono ?_
        rintro _ w4 ⟨rfl, F', hA4, hT4, hG4⟩
        obtain rfl : F' = [p] := by obtain ⟨_, _, _, e⟩ := hA4; exact e
        rw [HL2.out] at hA4
        have HA4 := Lib.hid hA4
        have HB4 : Hid (Below w.heap.size w w4) := Lib.hid ((hbw.alloc hbw.size _).trans (hT4.below (by have := hbw.size; simp; omega) (fun k hk => by simp at hk; subst hk; exact hpw)))
        clear hA4 hT4 hG4
        go_wp2
        go_roundw
        case rel => exact ⟨k + 1, by omega, by go_num, HA4, HE2, HO2, HB4.out⟩
        case measure => simp [intOf]; omega
      · have t2 : (E != 0) = true := by simp [he]
        have HN0 : Hid (¬ Fr.Ok l) := Lib.hid (fun h => by have := (Fr.ok_next h k hkl).1; rw [HF.out, HEQ.out] at this; exact he this)
        clear HF; clear he HI
        go_wp2_with fail
        refine CA.out.mono ?_
        rintro _ w4 ⟨rfl, F', hA4, hT4, hG4⟩
        have HB4 : Hid (Below w.heap.size w w4) := Lib.hid ((hbw.alloc hbw.size _).trans (hT4.below (by have := hbw.size; simp; omega) (fun k hk => by simp at hk; subst hk; exact hpw)))
        clear hA4 hT4 hG4
        go_wp2
        go_ret
        exact ⟨false, rfl, ⟨fun h => (by cases h), fun h => (HN0.out h).elim⟩, HB4.out⟩
    · have t1 : decide (k < n) = false := decide_eq_false hkn
      have HOk : Hid (Fr.Ok l) := Lib.hid (by have := HO.out; rwa [List.take_of_length_le (by have := HN.out; omega)] at this)
      clear HI HAdd
      go_wp2
      go_ret
      exact ⟨true, rfl, ⟨fun _ => HOk.out, fun _ => rfl⟩, hbw⟩
end Go.Proofs.Ytjgndgcegenikaa
