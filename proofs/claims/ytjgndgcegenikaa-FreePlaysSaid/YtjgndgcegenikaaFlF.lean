/-
  The landed list of free pages: Take. Conditions: those of a list that may be.
-/
import Derived.Test.YtjgndgcegenikaaFlE
namespace Go.Proofs.Ytjgndgcegenikaa
open Go.RowKit
namespace Fr
theorem Fst.none {t : St} {l : List FP} (ht : Tells t l) (ok : Ok l) (h : Fst t 512 0) (u : Int) : least l u = none := by
  refine least_is_none (fun f hf => ?_)
  have hr := (right_iff f).1 (ok.right f hf)
  obtain ⟨k, hk⟩ := Int.eq_ofNat_of_zero_le (show 0 ≤ f.2 by omega)
  have h1 : t k = some f.1 := (ht k f.1).2 (by rw [← hk]; exact hf)
  rcases h with ⟨_, h⟩ | ⟨h, _⟩
  · rw [h k (by omega)] at h1; cases h1
  · omega
theorem Fst.some {t : St} {l : List FP} (ht : Tells t l) (ok : Ok l) {q : Nat} (h0 : 0 < q) (h : Fst t 512 q) : ∃ x, t q = some x ∧ q < 512 ∧ (x, (q : Int)) ∈ l ∧ ∀ g ∈ l, less g (x, (q : Int)) = false := by
  rcases h with ⟨h, _⟩ | ⟨_, hq, x, hx, h3⟩
  · omega
  · refine ⟨x, hx, hq, (ht q x).1 hx, fun f hf => ?_⟩
    have hr := (right_iff f).1 (ok.right f hf)
    obtain ⟨k, hk⟩ := Int.eq_ofNat_of_zero_le (show 0 ≤ f.2 by omega)
    have h1 : t k = Option.some f.1 := (ht k f.1).2 (by rw [← hk]; exact hf)
    have := h3 k (by omega) f.1 h1
    rw [← hk] at this
    exact this
end Fr
set_option maxRecDepth 100000 in
set_option maxHeartbeats 3200000 in
theorem fltake_ok (w : World) (p : Nat) (l : List FP) (F : List Nat) (u : Int) (ok : Fr.Ok l) (hA : FLAt w p l F) : Calls Try.prog 13 #[.pointer (some ⟨p, 0, none⟩), .int .i64 u] w (FrDid FLAt w p F (Fr.takeL l u) (.returned (.tuple #[.int .i64 (Fr.takeP l u), .bool (Fr.takeB l u)]))) := by
  have HA := Lib.hid hA
  obtain ⟨t, hp0, ht, rfl⟩ := hA
  have hp := hp0.lt
  have HP := Lib.hid hp0
  have HT := Lib.hid ht
  have HO := Lib.hid ok
  have h0 : t 0 = none := by
    cases h : t 0 with
    | none => rfl
    | some x => have := Fr.tells_lt ht ok h; omega
  have C := fun w h => Lib.hid (flfirst_ok w p t h0 h)
  have HC := Lib.hid C
  clear C h0 ht hp0 ok
  go_enter Try.func13, Try.ntmps13
  go_wp2_with fail
  refine (HC.out w HP.out).out.mono ?_
  rintro _ w1 ⟨q, rfl, hq, hb1⟩
  have HQ := Lib.hid hq
  have HB := Lib.hid hb1
  clear hq hb1
  by_cases hq0 : q = 0
  · subst hq0
    have HE := Lib.hid (HQ.out.none HT.out HO.out u)
    go_wp2
    go_ret2
    unfold Fr.takeL Fr.takeP Fr.takeB
    rw [HE.out]
    exact ⟨rfl, [p], HA.out.touch (Touch.ofBelow HB.out) (by simp), (Touch.ofBelow HB.out).more (by simp), Grows.refl _ _⟩
  · have HS := Lib.hid (HQ.out.some HT.out HO.out (by omega))
    obtain ⟨x, hx, hq5, hm, hl⟩ := HS.out
    have t2 : ((q : Int) == 0) = false := by simp; omega
    have i0 : (0 : Int) ≤ (q : Int) := by omega
    have i1 : (q : Int) < 512 := by omega
    have hP1 : Blk w1 p (Fr.stA t) 57 := (HB.out.block p hp).trans HP.out
    have c1 : w1.cell? ⟨p, q * 2 + 1, none⟩ = some (.int .i64 x) := by
      have := (hP1.cell (q * 2 + 1)).trans (Fr.stA_get t q 1 hq5 (by omega))
      rw [hx] at this
      exact this
    by_cases hu : u < x
    · have t3 : decide (u < x) = true := decide_eq_true hu
      have HE : Hid (Fr.least l u = none) := Lib.hid (Fr.least_is_none (fun f hf hfu => by
        have := hl f hf
        rw [← Bool.not_eq_true, Fr.less_iff] at this
        simp only at this
        omega))
      clear hx hm hl hq0 hu hP1 hq5
      go_wp2
      go_ret2
      unfold Fr.takeL Fr.takeP Fr.takeB
      rw [HE.out]
      exact ⟨rfl, [p], HA.out.touch (Touch.ofBelow HB.out) (by simp), (Touch.ofBelow HB.out).more (by simp), Grows.refl _ _⟩
    · have t3 : decide (u < x) = false := decide_eq_false hu
      have HE : Hid (Fr.least l u = some (x, (q : Int))) := Lib.hid (Fr.least_is HO.out hm (by simp only; omega) (fun g hg _ => hl g hg))
      obtain ⟨z, s1⟩ : ∃ z, w1.cell? ⟨p, q * 2, none⟩ = some z := ⟨_, (hP1.cell (q * 2)).trans (Fr.stA_get t q 0 hq5 (by omega))⟩
      have f0 := hP1.free (q * 2)
      have f1 := hP1.free (q * 2 + 1)
      have HD : Hid (FLAt ((w1.setCell ⟨p, q * 2, none⟩ (.bool false)).setCell ⟨p, q * 2 + 1, none⟩ (.int .i64 0)) p (l.filter (fun g => decide (g.2 ≠ (q : Int)))) [p] ∧ Touch [p] w ((w1.setCell ⟨p, q * 2, none⟩ (.bool false)).setCell ⟨p, q * 2 + 1, none⟩ (.int .i64 0))) := Lib.hid (by
        have h1 := Fr.st_put hP1 q hq5 none false 0 rfl rfl
        exact ⟨⟨_, h1, Fr.tells_drop HT.out q, rfl⟩, ((Touch.ofBelow HB.out).more (S' := [p]) (by simp)).trans (Fr.st_touch w1 p (q * 2) (q * 2 + 1) (.bool false) (.int .i64 0)) (Grows.refl _ _)⟩)
      clear hx hm hl hq0 hu hP1 hq5
      go_wp2
      go_ret2
      unfold Fr.takeL Fr.takeP Fr.takeB
      rw [HE.out]
      exact ⟨rfl, [p], HD.out.1, HD.out.2, Grows.refl _ _⟩
end Go.Proofs.Ytjgndgcegenikaa
