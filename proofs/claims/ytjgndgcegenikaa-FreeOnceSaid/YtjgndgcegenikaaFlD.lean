/-
  The landed list of free pages: Count, first, Take. Conditions: those of a list that may be.
-/
import Derived.Test.YtjgndgcegenikaaFlC
namespace Go.Proofs.Ytjgndgcegenikaa
open Go.RowKit
namespace Fr
/-- the free pages below a number, rising -/
def found (t : St) (n : Nat) : List FP := (List.range n).filterMap fun k => (t k).map fun x => (x, (k : Int))
theorem found_none {t : St} {n : Nat} (h : t n = none) : found t (n + 1) = found t n := by
  unfold found
  rw [List.range_succ, List.filterMap_append]
  simp [h]
theorem found_some {t : St} {n : Nat} {x : Int} (h : t n = some x) : found t (n + 1) = found t n ++ [(x, (n : Int))] := by
  unfold found
  rw [List.range_succ, List.filterMap_append]
  simp [h]
theorem found_mem (t : St) (n : Nat) (f : FP) : f ∈ found t n ↔ ∃ k, k < n ∧ t k = some f.1 ∧ f.2 = (k : Int) := by
  unfold found
  rw [List.mem_filterMap]
  constructor
  · rintro ⟨k, hk, h⟩
    rw [List.mem_range] at hk
    cases hx : t k with
    | none => rw [hx] at h; cases h
    | some x => rw [hx] at h; simp only [Option.map_some, Option.some.injEq] at h; subst h; exact ⟨k, hk, by rw [hx], rfl⟩
  · rintro ⟨k, hk, h1, h2⟩
    refine ⟨k, List.mem_range.2 hk, ?_⟩
    rw [h1, Option.map_some, ← h2]
theorem found_once (t : St) (n : Nat) : (found t n).Pairwise (fun a b => a.2 ≠ b.2) := by
  induction n with
  | zero => exact List.Pairwise.nil
  | succ n ih =>
    cases h : t n with
    | none => rw [found_none h]; exact ih
    | some x =>
      rw [found_some h, List.pairwise_append]
      refine ⟨ih, List.pairwise_singleton _ _, fun a ha b hb => ?_⟩
      rw [List.mem_singleton] at hb
      subst hb
      obtain ⟨k, hk, _, h2⟩ := (found_mem t n a).1 ha
      intro e
      simp only at e
      omega
theorem tells_lt {t : St} {l : List FP} (ht : Tells t l) (ok : Ok l) {k : Nat} {x : Int} (h : t k = some x) : 1 ≤ k ∧ k < 512 := by
  have := (right_iff _).1 (ok.right _ ((ht k x).1 h))
  simp only at this
  omega
theorem found_all {t : St} {l : List FP} (ht : Tells t l) (ok : Ok l) : (found t 512).Perm l := by
  have nd : ∀ {l : List FP}, l.Pairwise (fun a b => a.2 ≠ b.2) → l.Nodup := fun h => h.imp (fun hab e => hab (by rw [e]))
  refine (List.perm_ext_iff_of_nodup (nd (found_once t 512)) (nd ok.once)).2 (fun f => ?_)
  rw [found_mem]
  constructor
  · rintro ⟨k, _, h1, h2⟩
    have := (ht k f.1).1 h1
    rw [← h2] at this
    exact this
  · intro hf
    have hr := (right_iff f).1 (ok.right f hf)
    obtain ⟨k, hk⟩ := Int.eq_ofNat_of_zero_le (show 0 ≤ f.2 by omega)
    refine ⟨k, by omega, (ht k f.1).2 ?_, hk⟩
    rw [← hk]
    exact hf
/-- the first one of those below a number; 0: none -/
def Fst (t : St) (n q : Nat) : Prop := (q = 0 ∧ ∀ j, j < n → t j = none) ∨ (0 < q ∧ q < n ∧ ∃ x, t q = some x ∧ ∀ j, j < n → ∀ y, t j = some y → less (y, (j : Int)) (x, (q : Int)) = false)
theorem Fst.start (t : St) : Fst t 0 0 := .inl ⟨rfl, fun j hj => by omega⟩
theorem Fst.skip {t : St} {n q : Nat} (h : Fst t n q) (hn : t n = none) : Fst t (n + 1) q := by
  rcases h with ⟨h0, h1⟩ | ⟨h0, h1, x, h2, h3⟩
  · refine .inl ⟨h0, fun j hj => ?_⟩
    rcases Nat.lt_succ_iff_lt_or_eq.1 hj with h | rfl
    · exact h1 j h
    · exact hn
  · refine .inr ⟨h0, by omega, x, h2, fun j hj y hy => ?_⟩
    rcases Nat.lt_succ_iff_lt_or_eq.1 hj with h | rfl
    · exact h3 j h y hy
    · rw [hn] at hy; cases hy
theorem Fst.one {t : St} {n : Nat} {x : Int} (h : Fst t n 0) (h0 : 0 < n) (hn : t n = some x) : Fst t (n + 1) n := by
  rcases h with ⟨_, h1⟩ | ⟨h0, _⟩
  · refine .inr ⟨h0, by omega, x, hn, fun j hj y hy => ?_⟩
    rcases Nat.lt_succ_iff_lt_or_eq.1 hj with h | rfl
    · rw [h1 j h] at hy; cases hy
    · rw [hn] at hy; injection hy with hy; subst hy
      rw [← Bool.not_eq_true, less_iff]
      omega
  · omega
theorem Fst.next {t : St} {n q : Nat} {x z : Int} (h : Fst t n q) (hq : 0 < q) (hz : t q = some z) (hn : t n = some x) (hlt : x < z) : Fst t (n + 1) n := by
  rcases h with ⟨h0, _⟩ | ⟨h0, h1, z', h2, h3⟩
  · omega
  · rw [hz] at h2; injection h2 with h2; subst h2
    refine .inr ⟨by omega, by omega, x, hn, fun j hj y hy => ?_⟩
    rcases Nat.lt_succ_iff_lt_or_eq.1 hj with h | rfl
    · have := h3 j h y hy
      rw [← Bool.not_eq_true, less_iff] at this ⊢
      simp only at this ⊢
      omega
    · rw [hn] at hy; injection hy with hy; subst hy
      rw [← Bool.not_eq_true, less_iff]
      omega
theorem Fst.keep {t : St} {n q : Nat} {x z : Int} (h : Fst t n q) (hq : 0 < q) (hz : t q = some z) (hn : t n = some x) (hge : ¬ x < z) : Fst t (n + 1) q := by
  rcases h with ⟨h0, _⟩ | ⟨h0, h1, z', h2, h3⟩
  · omega
  · rw [hz] at h2; injection h2 with h2; subst h2
    refine .inr ⟨h0, by omega, z, hz, fun j hj y hy => ?_⟩
    rcases Nat.lt_succ_iff_lt_or_eq.1 hj with h | rfl
    · exact h3 j h y hy
    · rw [hn] at hy; injection hy with hy; subst hy
      rw [← Bool.not_eq_true, less_iff]
      simp only
      omega
end Fr
theorem stZero (w : World) : (zeroValue 54).run Try.prog w = .ok (.agg #[.bool false, .int .i64 0]) w := by kernel_rfl
set_option maxRecDepth 100000 in
set_option maxHeartbeats 3200000 in
theorem flcount_ok (w : World) (p : Nat) (l : List FP) (F : List Nat) (ok : Fr.Ok l) (hA : FLAt w p l F) : Calls Try.prog 18 #[.pointer (some ⟨p, 0, none⟩)] w fun e w' => e = .returned (.int .i64 (l.length : Nat)) ∧ Below w.heap.size w w' := by
  obtain ⟨t, hp0, ht, _⟩ := hA
  have hld := fl_load hp0
  have HIX := Lib.hid (fun k hk w => fl_index w t k hk)
  have HL : Hid ((Fr.found t 512).length = l.length) := Lib.hid (Fr.found_all ht ok).length_eq
  obtain ⟨T, hT⟩ : ∃ T, Fr.stA t = T := ⟨_, rfl⟩
  rw [hT] at hld HIX
  have hz := stZero
  clear hT ht hp0 ok
  go_enter Try.func18, Try.ntmps18
  go_wp2_with (first | (refine wpList_load_run rfl 55 _ rfl (p := .pointer (some ⟨p, 0, none⟩)) (v := .agg T) (by rfl) hld ?_))
  go_loopw [3, 12] (fun f ii wr => ∃ k q : Nat, k ≤ 512 ∧ ii = .int .i64 k ∧ f = .int .i64 q ∧ Hid (q = (Fr.found t k).length) ∧ q ≤ k ∧ Below w.heap.size w wr) (fun _ ii _ => 512 - (intOf ii).toNat)
  case atStart => exact ⟨0, 0, by omega, rfl, rfl, Lib.hid rfl, by omega, Below.refl _ _⟩
  case round =>
    obtain ⟨k, q, hk, rfl, rfl, HQ, hq, hbw⟩ := hrel
    by_cases hk5 : k < 512
    · have t1 : decide ((k : Int) < 512) = true := decide_eq_true (by omega)
      have ix := HIX.out k hk5 wr
      cases htk : t k with
      | none =>
        have HQ2 : Hid (q = (Fr.found t (k + 1)).length) := Lib.hid (by rw [Fr.found_none htk]; exact HQ.out)
        rw [htk] at ix
        simp only [Option.isSome_none, Option.getD_none] at ix
        clear HIX HQ hld htk
        go_wp2_with (refine wpList_index_run rfl 55 _ _ rfl (by rfl) (by rfl) ix ?_)
        go_roundw
        case rel => exact ⟨k + 1, q, by omega, by go_num, rfl, HQ2, by omega, hbw.alloc hbw.size _⟩
        case measure => simp [intOf]; omega
      | some x =>
        have HQ2 : Hid (q + 1 = (Fr.found t (k + 1)).length) := Lib.hid (by rw [Fr.found_some htk, List.length_append, ← HQ.out]; rfl)
        rw [htk] at ix
        simp only [Option.isSome_some, Option.getD_some] at ix
        clear HIX HQ hld htk
        go_wp2_with (refine wpList_index_run rfl 55 _ _ rfl (by rfl) (by rfl) ix ?_)
        go_roundw
        case rel => exact ⟨k + 1, q + 1, by omega, by go_num, by go_num, HQ2, by omega, hbw.alloc hbw.size _⟩
        case measure => simp [intOf]; omega
    · have t1 : decide ((k : Int) < 512) = false := decide_eq_false (by omega)
      have HE : Hid (q = l.length) := Lib.hid (by rw [HQ.out, show k = 512 by omega, HL.out])
      clear HIX hld
      go_wp2
      go_ret
      exact ⟨by rw [← HE.out]; rfl, hbw⟩
end Go.Proofs.Ytjgndgcegenikaa
