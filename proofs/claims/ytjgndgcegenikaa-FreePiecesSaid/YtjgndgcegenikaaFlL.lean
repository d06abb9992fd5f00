/-
  The landed pieces of free pages: rightPiece. Conditions: those typed.
-/
import Derived.Test.YtjgndgcegenikaaFlK
namespace Go.Proofs.Ytjgndgcegenikaa
open Go.RowKit
set_option maxRecDepth 100000 in
set_option maxHeartbeats 3200000 in
theorem flright2_ok (w : World) (next : Int) (A : Option Addr) (cap : Nat) (l : List FP) (hc : FreesAt w (.slice A l.length cap) l) (hl : l.length ≤ 65536) : Calls Try.prog 35 #[.int .i64 next, .slice A l.length cap] w fun e w' => e = .returned (.bool (Fr.okP next l)) ∧ Below w.heap.size w w' := by
  have HS := Lib.hid (flsorted_ok w A cap l hc hl)
  have CA := fun w (h : FreesAt w (.slice A l.length cap) l) => flapart_ok w A cap l h hl
  have HI := Lib.hid hc
  have CP := fun w => Lib.hid (flpage_ok w next)
  obtain ⟨R, hR⟩ : ∃ R, Fr.okP next l = R := ⟨_, rfl⟩
  have HR := Lib.hid hR
  rw [hR]
  clear hR hc
  by_cases h0 : next = 0
  · have d0 : (next == 0) = true := by simp [h0]
    have HX : Hid (next = 0 ∨ Fr.isP next = true) := Lib.hid (.inl h0)
    clear h0
    by_cases h4 : l.length ≤ 40
    · have d4 : decide ((l.length : Int) ≤ 40) = true := decide_eq_true (by omega)
      go_enter Try.func35, Try.ntmps35
      go_wp2_with fail
      refine HS.out.mono ?_
      rintro _ w2 ⟨b2, rfl, hb2, hB2⟩
      have HB2 := Lib.hid hB2
      have HA2 := Lib.hid (CA w2 (HI.out.below hB2))
      have Hb2 := Lib.hid hb2
      clear hb2 hB2
      cases b2 with
      | false =>
        have HE : Hid (R = false) := Lib.hid (by rw [← Bool.not_eq_true]; intro h; have h1 := (Fr.okP_is next l).1 (HR.out.trans h); have := Hb2.out.2 h1.2.2.1; cases this)
        go_wp2
        go_ret
        exact ⟨by rw [HE.out]; rfl, HB2.out⟩
      | true =>
        go_wp2_with fail
        refine HA2.out.mono ?_
        rintro _ w3 ⟨b3, rfl, hb3, hB3⟩
        have HE : Hid (R = b3) := Lib.hid (by rw [← HR.out, Bool.eq_iff_iff, Fr.okP_is, hb3]; exact ⟨fun h => h.2.2.2, fun h => ⟨HX.out, h4, Hb2.out.1 (by simp), h⟩⟩)
        have HB3 := Lib.hid hB3
        clear hb3 hB3
        go_wp2
        go_ret
        exact ⟨by rw [HE.out]; rfl, HB2.out.trans (HB3.out.mono HB2.out.size)⟩
    · have d4 : decide ((l.length : Int) ≤ 40) = false := decide_eq_false (by omega)
      have HE : Hid (R = false) := Lib.hid (by rw [← Bool.not_eq_true]; intro h; exact h4 ((Fr.okP_is next l).1 (HR.out.trans h)).2.1)
      go_enter Try.func35, Try.ntmps35
      go_wp2
      go_ret
      exact ⟨by rw [HE.out]; rfl, Below.refl _ _⟩
  · have d0 : (next == 0) = false := by simp [h0]
    cases hp : Fr.isP next with
    | true =>
      have HX : Hid (next = 0 ∨ Fr.isP next = true) := Lib.hid (.inr hp)
      rw [hp] at CP
      clear h0 hp
      by_cases h4 : l.length ≤ 40
      · have d4 : decide ((l.length : Int) ≤ 40) = true := decide_eq_true (by omega)
        go_enter Try.func35, Try.ntmps35
        go_wp2_with fail
        refine (CP _).out.mono ?_
        rintro _ _ ⟨rfl, rfl⟩
        go_wp2_with fail
        refine HS.out.mono ?_
        rintro _ w2 ⟨b2, rfl, hb2, hB2⟩
        have HB2 := Lib.hid hB2
        have HA2 := Lib.hid (CA w2 (HI.out.below hB2))
        have Hb2 := Lib.hid hb2
        clear hb2 hB2
        cases b2 with
        | false =>
          have HE : Hid (R = false) := Lib.hid (by rw [← Bool.not_eq_true]; intro h; have h1 := (Fr.okP_is next l).1 (HR.out.trans h); have := Hb2.out.2 h1.2.2.1; cases this)
          go_wp2
          go_ret
          exact ⟨by rw [HE.out]; rfl, HB2.out⟩
        | true =>
          go_wp2_with fail
          refine HA2.out.mono ?_
          rintro _ w3 ⟨b3, rfl, hb3, hB3⟩
          have HE : Hid (R = b3) := Lib.hid (by rw [← HR.out, Bool.eq_iff_iff, Fr.okP_is, hb3]; exact ⟨fun h => h.2.2.2, fun h => ⟨HX.out, h4, Hb2.out.1 (by simp), h⟩⟩)
          have HB3 := Lib.hid hB3
          clear hb3 hB3
          go_wp2
          go_ret
          exact ⟨by rw [HE.out]; rfl, HB2.out.trans (HB3.out.mono HB2.out.size)⟩
      · have d4 : decide ((l.length : Int) ≤ 40) = false := decide_eq_false (by omega)
        have HE : Hid (R = false) := Lib.hid (by rw [← Bool.not_eq_true]; intro h; exact h4 ((Fr.okP_is next l).1 (HR.out.trans h)).2.1)
        go_enter Try.func35, Try.ntmps35
        go_wp2_with fail
        refine (CP _).out.mono ?_
        rintro _ _ ⟨rfl, rfl⟩
        go_wp2
        go_ret
        exact ⟨by rw [HE.out]; rfl, Below.refl _ _⟩
    | false =>
      have HE : Hid (R = false) := Lib.hid (by
        rw [← Bool.not_eq_true]
        intro h
        rcases ((Fr.okP_is next l).1 (HR.out.trans h)).1 with h1 | h1
        · exact h0 h1
        · rw [hp] at h1; cases h1)
      rw [hp] at CP
      clear h0 hp
      go_enter Try.func35, Try.ntmps35
      go_wp2_with fail
      refine (CP _).out.mono ?_
      rintro _ _ ⟨rfl, rfl⟩
      go_wp2
      go_ret
      exact ⟨by rw [HE.out]; rfl, Below.refl _ _⟩
end Go.Proofs.Ytjgndgcegenikaa
