/-
  Contracts of the landed functions of chapter 6: takeCell, with field.Take and field.TakeText in one each. Conditions: texts of at most 488 bytes.
-/
import Derived.Test.YtegmffeokfahjaaNlC
import Derived.Test.YtegmffeokfahjaaNodeLand
namespace Go.Proofs.Ytegmffeokfahjaa
open Go.RowKit
/-- the error of a number that is taken -/
def numE (s : List UInt8) (a k : Nat) : Int := if a + k ≤ s.length then 0 else 3
theorem ltake_any (w : World) (s : ByteArray) (hs : s.size ≤ 1048576) (a k : Nat) (K : Int) (hK : K = k) (ha : a ≤ 10000000) (hk : 1 ≤ k) (hk4 : k ≤ 8) : Calls Try.prog 34 #[.string s, .int .i64 a, .int .i64 K] w fun e w' => e = .returned (.tuple #[.int .u64 (Node.num s.data.toList a k : Nat), .int .i64 (numE s.data.toList a k)]) ∧ w = w' := by
  subst hK
  have hl : s.data.toList.length = s.size := by rw [Array.length_toList]; rfl
  unfold Node.num numE
  rw [hl]
  by_cases h : a + k ≤ s.size
  · rw [if_pos h, if_pos h]
    exact take_ok s hs a k hk hk4 h w
  · rw [if_neg h, if_neg h]
    exact take_short s hs a k (by omega) (by omega) (by omega) (by omega) w
theorem ltext_any (w : World) (s : ByteArray) (hs : s.size ≤ 1048576) (a : Nat) (ha : a ≤ 10000000) : Calls Try.prog 49 #[.string s, .int .i64 a] w fun e w' => e = .returned (.tuple #[.string (ttS (Node.text s.data.toList a)), .int .i64 (ttA (Node.text s.data.toList a)), .int .i64 (ttE (Node.text s.data.toList a))]) ∧ w = w' := by
  have hl : s.data.toList.length = s.size := by rw [Array.length_toList]; rfl
  by_cases h2 : a + 2 ≤ s.size
  · have hn : Node.num s.data.toList a 2 = beN ((s.data.toList.drop a).take 2) := by unfold Node.num; rw [if_pos (by omega)]
    have hlt : beN ((s.data.toList.drop a).take 2) < 65536 := hn ▸ num_lt s.data.toList a 2
    by_cases h3 : a + 2 + beN ((s.data.toList.drop a).take 2) ≤ s.size
    · have e : Node.text s.data.toList a = some ((s.data.toList.drop (a + 2)).take (beN ((s.data.toList.drop a).take 2)), a + 2 + beN ((s.data.toList.drop a).take 2)) := by
        unfold Node.text; rw [hn, if_pos ⟨by omega, by omega⟩]
      rw [e]
      exact tt_ok s hs a _ h2 rfl hlt h3 w
    · have e : Node.text s.data.toList a = none := by
        unfold Node.text; rw [hn, if_neg (by omega)]
      rw [e]
      exact tt_short s hs a _ h2 rfl hlt (by omega) w
  · have e : Node.text s.data.toList a = none := by
      unfold Node.text; rw [if_neg (by omega)]
    rw [e]
    exact tt_short2 s hs a (by omega) (by omega) (by omega) w
/-- what takeCell leaves -/
def Taken (w : World) (o : Option (Node.CL × Nat)) (e : Ending) (w' : World) : Prop :=
  ∃ (c : CV) (b : Nat) (ok : Bool), e = .returned (.tuple #[c.v, .int .i64 b, .bool ok]) ∧ ok = o.isSome ∧ (∀ q, o = some q → c = CV.of q.1 ∧ b = q.2) ∧ Below w.heap.size w w'
set_option maxRecDepth 100000 in
set_option maxHeartbeats 3200000 in
theorem ltc_false (w : World) (s : ByteArray) (hs : s.size ≤ 488) (a : Nat) (ha : a ≤ 200000) : Calls Try.prog 35 #[.bool false, .string s, .int .i64 a] w (Taken w (Node.takeOne false s.data.toList a)) := by
  have hz := zeroC
  have hl : s.data.toList.length = s.size := by rw [Array.length_toList]; rfl
  have T0a := fun w => ltext_any w s (by omega) a (by omega)
  cases ht : Node.text s.data.toList a with
  | none =>
    have HN : Hid (Node.takeOne false s.data.toList a = none) := Lib.hid (by unfold Node.takeOne; rw [ht])
    simp only [ht] at T0a
    unfold ttS ttA ttE at T0a
    simp only at T0a
    have T0 := fun w => Lib.hid (T0a w)
    clear ht T0a
    go_enter Try.func35, Try.ntmps35
    go_wp2_with fail
    refine (T0 _).out.mono ?_
    rintro _ _ ⟨rfl, rfl⟩
    go_wp2
    refine bodyPost_ret (results_cell3 rfl _ _ w.heap.size 35 _ (0, 0) _ rfl (Blk.new w _ 35) Try.underlying35 rfl (by kernel_rfl)) rfl ⟨CV.none, 0, false, rfl, by rw [HN.out]; rfl, (fun q h => by rw [HN.out] at h; cases h), (Below.refl _ w).alloc (Nat.le_refl _) _⟩
  | some q =>
    obtain ⟨t, b⟩ := q
    obtain ⟨tb1, tb2, tb3⟩ := text_bnd ht
    rw [hl] at tb1 tb2
    simp only [ht] at T0a
    unfold ttS ttA ttE at T0a
    simp only at T0a
    obtain ⟨T, hT⟩ : ∃ T, ba t = T := ⟨_, rfl⟩
    simp only [hT] at T0a
    have T0 := fun w => Lib.hid (T0a w)
    have hone : Node.takeOne false s.data.toList a = (if b + 4 ≤ s.size then some (⟨t, Node.num s.data.toList b 4, [], 0, 0⟩, b + 4) else none) := by
      unfold Node.takeOne; rw [ht, hl]; rfl
    clear ht T0a
    have A0a := fun w => ltake_any w s (by omega) b 4 4 rfl (by omega) (by omega) (by omega)
    have hn32 : Node.num s.data.toList b 4 < 4294967296 := num_lt s.data.toList b 4
    obtain ⟨n, hn⟩ : ∃ n, Node.num s.data.toList b 4 = n := ⟨_, rfl⟩
    simp only [hn] at A0a hone
    rw [hn] at hn32
    unfold numE at A0a
    simp only [hl] at A0a
    have m1 : IntKind.i64.wrap (n : Int) = n := IntWalk.i64_in _ (by omega)
    have m2 : IntKind.i64.wrap ((b : Int) + 4) = ((b + 4 : Nat) : Int) := by rw [IntWalk.i64_in _ (by omega)]; omega
    have HCV : Hid (CV.of ⟨t, n, [], 0, 0⟩ = ⟨T, ⟨#[]⟩, 0, 0, n⟩) := Lib.hid (by unfold CV.of; rw [hT]; rfl)
    by_cases hb : b + 4 ≤ s.size
    · rw [if_pos hb] at hone
      simp only [if_pos hb] at A0a
      have A0 := fun w => Lib.hid (A0a w)
      have HN := Lib.hid hone
      clear hone A0a hb hn hT
      go_enter Try.func35, Try.ntmps35
      go_wp2_with fail
      refine (T0 _).out.mono ?_
      rintro _ _ ⟨rfl, rfl⟩
      go_wp2_with fail
      refine (A0 _).out.mono ?_
      rintro _ _ ⟨rfl, rfl⟩
      go_wp2
      refine bodyPost_ret (results_cell3 rfl _ _ w.heap.size 35 _ (0, 0) _ rfl (Blk.new w _ 35) Try.underlying35 rfl (by kernel_rfl)) rfl ⟨⟨T, ⟨#[]⟩, 0, 0, n⟩, b + 4, true, rfl, by rw [HN.out]; rfl, (fun q h => by rw [HN.out] at h; injection h with h; subst h; exact ⟨HCV.out.symm, rfl⟩), (Below.refl _ w).alloc (Nat.le_refl _) _⟩
    · rw [if_neg hb] at hone
      simp only [if_neg hb] at A0a
      have A0 := fun w => Lib.hid (A0a w)
      have HN := Lib.hid hone
      clear hone A0a hb hn hT
      go_enter Try.func35, Try.ntmps35
      go_wp2_with fail
      refine (T0 _).out.mono ?_
      rintro _ _ ⟨rfl, rfl⟩
      go_wp2_with fail
      refine (A0 _).out.mono ?_
      rintro _ _ ⟨rfl, rfl⟩
      go_wp2
      refine bodyPost_ret (results_cell3 rfl _ _ w.heap.size 35 _ (0, 0) _ rfl (Blk.new w _ 35) Try.underlying35 rfl (by kernel_rfl)) rfl ⟨⟨T, ⟨#[]⟩, 0, 0, n⟩, b + 4, false, rfl, by rw [HN.out]; rfl, (fun q h => by rw [HN.out] at h; cases h), (Below.refl _ w).alloc (Nat.le_refl _) _⟩
set_option maxRecDepth 100000 in
set_option maxHeartbeats 3200000 in
theorem ltc_true (w : World) (s : ByteArray) (hs : s.size ≤ 488) (a : Nat) (ha : a ≤ 200000) : Calls Try.prog 35 #[.bool true, .string s, .int .i64 a] w (Taken w (Node.takeOne true s.data.toList a)) := by
  have hz := zeroC
  have hl : s.data.toList.length = s.size := by rw [Array.length_toList]; rfl
  have T0a := fun w => ltext_any w s (by omega) a (by omega)
  cases ht : Node.text s.data.toList a with
  | none =>
    have HN : Hid (Node.takeOne true s.data.toList a = none) := Lib.hid (by unfold Node.takeOne; rw [ht])
    simp only [ht] at T0a
    unfold ttS ttA ttE at T0a
    simp only at T0a
    have T0 := fun w => Lib.hid (T0a w)
    clear ht T0a
    go_enter Try.func35, Try.ntmps35
    go_wp2_with fail
    refine (T0 _).out.mono ?_
    rintro _ _ ⟨rfl, rfl⟩
    go_wp2
    refine bodyPost_ret (results_cell3 rfl _ _ w.heap.size 35 _ (0, 0) _ rfl (Blk.new w _ 35) Try.underlying35 rfl (by kernel_rfl)) rfl ⟨CV.none, 0, false, rfl, by rw [HN.out]; rfl, (fun q h => by rw [HN.out] at h; cases h), (Below.refl _ w).alloc (Nat.le_refl _) _⟩
  | some q =>
    obtain ⟨t, b⟩ := q
    obtain ⟨tb1, tb2, tb3⟩ := text_bnd ht
    rw [hl] at tb1 tb2
    simp only [ht] at T0a
    unfold ttS ttA ttE at T0a
    simp only at T0a
    obtain ⟨T, hT⟩ : ∃ T, ba t = T := ⟨_, rfl⟩
    simp only [hT] at T0a
    have T0 := fun w => Lib.hid (T0a w)
    have hone : Node.takeOne true s.data.toList a = (if b + 1 ≤ s.size then
        (if Node.num s.data.toList b 1 = 0 then (match Node.text s.data.toList (b + 1) with
          | none => none
          | some (v, e) => some (⟨t, 0, v, 0, 0⟩, e))
        else if Node.num s.data.toList b 1 = 1 then (if b + 9 ≤ s.size ∧ 0 < Node.num s.data.toList (b + 1) 4 then some (⟨t, 0, [], Node.num s.data.toList (b + 1) 4, Node.num s.data.toList (b + 5) 4⟩, b + 9) else none)
        else none)
      else none) := by
      unfold Node.takeOne; rw [ht, hl]; rfl
    clear ht T0a
    have A0a := fun w => ltake_any w s (by omega) b 1 1 rfl (by omega) (by omega) (by omega)
    obtain ⟨n, hn⟩ : ∃ n, Node.num s.data.toList b 1 = n := ⟨_, rfl⟩
    simp only [hn] at A0a hone
    unfold numE at A0a
    simp only [hl] at A0a
    have m1 : IntKind.i64.wrap ((b : Int) + 1) = ((b + 1 : Nat) : Int) := by rw [IntWalk.i64_in _ (by omega)]; omega
    by_cases hb : b + 1 ≤ s.size
    · rw [if_pos hb] at hone
      simp only [if_pos hb] at A0a
      have A0 := fun w => Lib.hid (A0a w)
      by_cases hm : n = 0
      · subst hm
        simp only [if_true] at hone
        have T1a := fun w => ltext_any w s (by omega) (b + 1) (by omega)
        cases ht2 : Node.text s.data.toList (b + 1) with
        | none =>
          rw [ht2] at hone
          simp only [ht2] at T1a
          unfold ttS ttA ttE at T1a
          simp only at T1a
          have T1 := fun w => Lib.hid (T1a w)
          have HN := Lib.hid hone
          clear hone T1a A0a ht2 hn hb hT
          go_enter Try.func35, Try.ntmps35
          go_wp2_with fail
          refine (T0 _).out.mono ?_
          rintro _ _ ⟨rfl, rfl⟩
          go_wp2_with fail
          refine (A0 _).out.mono ?_
          rintro _ _ ⟨rfl, rfl⟩
          go_wp2_with fail
          refine (T1 _).out.mono ?_
          rintro _ _ ⟨rfl, rfl⟩
          go_wp2
          refine bodyPost_ret (results_cell3 rfl _ _ w.heap.size 35 _ (0, 0) _ rfl (Blk.new w _ 35) Try.underlying35 rfl (by kernel_rfl)) rfl ⟨⟨T, ⟨#[]⟩, 0, 0, 0⟩, 0, false, rfl, by rw [HN.out]; rfl, (fun q h => by rw [HN.out] at h; cases h), (Below.refl _ w).alloc (Nat.le_refl _) _⟩
        | some q2 =>
          obtain ⟨v, e⟩ := q2
          rw [ht2] at hone
          simp only at hone
          simp only [ht2] at T1a
          unfold ttS ttA ttE at T1a
          simp only at T1a
          obtain ⟨V, hV⟩ : ∃ V, ba v = V := ⟨_, rfl⟩
          simp only [hV] at T1a
          have T1 := fun w => Lib.hid (T1a w)
          have HCV : Hid (CV.of ⟨t, 0, v, 0, 0⟩ = ⟨T, V, 0, 0, 0⟩) := Lib.hid (by unfold CV.of; rw [hT, hV]; rfl)
          have HN := Lib.hid hone
          clear hone T1a A0a ht2 hn hb hT hV
          go_enter Try.func35, Try.ntmps35
          go_wp2_with fail
          refine (T0 _).out.mono ?_
          rintro _ _ ⟨rfl, rfl⟩
          go_wp2_with fail
          refine (A0 _).out.mono ?_
          rintro _ _ ⟨rfl, rfl⟩
          go_wp2_with fail
          refine (T1 _).out.mono ?_
          rintro _ _ ⟨rfl, rfl⟩
          go_wp2
          refine bodyPost_ret (results_cell3 rfl _ _ w.heap.size 35 _ (0, 0) _ rfl (Blk.new w _ 35) Try.underlying35 rfl (by kernel_rfl)) rfl ⟨⟨T, V, 0, 0, 0⟩, e, true, rfl, by rw [HN.out]; rfl, (fun q h => by rw [HN.out] at h; injection h with h; subst h; exact ⟨HCV.out.symm, rfl⟩), (Below.refl _ w).alloc (Nat.le_refl _) _⟩
      · rw [if_neg hm] at hone
        have d0 : ((n : Int) == 0) = false := by rw [beq_eq_false_iff_ne]; omega
        by_cases hm1 : n = 1
        · subst hm1
          simp only [if_true] at hone
          have A1a := fun w => ltake_any w s (by omega) (b + 1) 4 4 rfl (by omega) (by omega) (by omega)
          have A2a := fun w => ltake_any w s (by omega) (b + 5) 4 4 rfl (by omega) (by omega) (by omega)
          have hx32 : Node.num s.data.toList (b + 1) 4 < 4294967296 := num_lt s.data.toList (b + 1) 4
          have hy32 : Node.num s.data.toList (b + 5) 4 < 4294967296 := num_lt s.data.toList (b + 5) 4
          obtain ⟨x, hx⟩ : ∃ x, Node.num s.data.toList (b + 1) 4 = x := ⟨_, rfl⟩
          obtain ⟨y, hy⟩ : ∃ y, Node.num s.data.toList (b + 5) 4 = y := ⟨_, rfl⟩
          simp only [hx] at A1a hone
          simp only [hy] at A2a hone
          rw [hx] at hx32
          rw [hy] at hy32
          unfold numE at A1a A2a
          simp only [hl] at A1a A2a
          have m2 : IntKind.i64.wrap (((b + 1 : Nat) : Int) + 4) = ((b + 5 : Nat) : Int) := by rw [IntWalk.i64_in _ (by omega)]; omega
          have m3 : IntKind.i64.wrap (((b + 5 : Nat) : Int) + 4) = ((b + 9 : Nat) : Int) := by rw [IntWalk.i64_in _ (by omega)]; omega
          have m2b : IntKind.i64.wrap ((b : Int) + 1 + 4) = ((b + 5 : Nat) : Int) := by rw [IntWalk.i64_in _ (by omega)]; omega
          have m3b : IntKind.i64.wrap ((b : Int) + 5 + 4) = ((b + 9 : Nat) : Int) := by rw [IntWalk.i64_in _ (by omega)]; omega
          have m4 : IntKind.i64.wrap (x : Int) = x := IntWalk.i64_in _ (by omega)
          have m5 : IntKind.i64.wrap (y : Int) = y := IntWalk.i64_in _ (by omega)
          have HCV : Hid (CV.of ⟨t, 0, [], x, y⟩ = ⟨T, ⟨#[]⟩, x, y, 0⟩) := Lib.hid (by unfold CV.of; rw [hT]; rfl)
          by_cases h5 : b + 1 + 4 ≤ s.size
          · simp only [if_pos h5] at A1a
            have A1 := fun w => Lib.hid (A1a w)
            by_cases h9 : b + 5 + 4 ≤ s.size
            · simp only [if_pos h9] at A2a
              have A2 := fun w => Lib.hid (A2a w)
              by_cases hx0 : 0 < x
              · rw [if_pos ⟨by omega, hx0⟩] at hone
                have d1 : decide (0 < x) = true := decide_eq_true hx0
                have HN := Lib.hid hone
                clear hone A0a A1a A2a hn hb hT hx hy h5 h9 hx0
                go_enter Try.func35, Try.ntmps35
                go_wp2_with fail
                refine (T0 _).out.mono ?_
                rintro _ _ ⟨rfl, rfl⟩
                go_wp2_with fail
                refine (A0 _).out.mono ?_
                rintro _ _ ⟨rfl, rfl⟩
                go_wp2_with fail
                refine (A1 _).out.mono ?_
                rintro _ _ ⟨rfl, rfl⟩
                go_wp2_with fail
                refine (A2 _).out.mono ?_
                rintro _ _ ⟨rfl, rfl⟩
                go_wp2
                refine bodyPost_ret (results_cell3 rfl _ _ w.heap.size 35 _ (0, 0) _ rfl (Blk.new w _ 35) Try.underlying35 rfl (by kernel_rfl)) rfl ⟨⟨T, ⟨#[]⟩, x, y, 0⟩, b + 9, true, rfl, by rw [HN.out]; rfl, (fun q h => by rw [HN.out] at h; injection h with h; subst h; exact ⟨HCV.out.symm, rfl⟩), (Below.refl _ w).alloc (Nat.le_refl _) _⟩
              · rw [if_neg (fun h => hx0 h.2)] at hone
                have d1 : decide (0 < x) = false := decide_eq_false hx0
                have HN := Lib.hid hone
                clear hone A0a A1a A2a hn hb hT hx hy h5 h9 hx0
                go_enter Try.func35, Try.ntmps35
                go_wp2_with fail
                refine (T0 _).out.mono ?_
                rintro _ _ ⟨rfl, rfl⟩
                go_wp2_with fail
                refine (A0 _).out.mono ?_
                rintro _ _ ⟨rfl, rfl⟩
                go_wp2_with fail
                refine (A1 _).out.mono ?_
                rintro _ _ ⟨rfl, rfl⟩
                go_wp2_with fail
                refine (A2 _).out.mono ?_
                rintro _ _ ⟨rfl, rfl⟩
                go_wp2
                refine bodyPost_ret (results_cell3 rfl _ _ w.heap.size 35 _ (0, 0) _ rfl (Blk.new w _ 35) Try.underlying35 rfl (by kernel_rfl)) rfl ⟨⟨T, ⟨#[]⟩, x, y, 0⟩, b + 9, false, rfl, by rw [HN.out]; rfl, (fun q h => by rw [HN.out] at h; cases h), (Below.refl _ w).alloc (Nat.le_refl _) _⟩
            · simp only [if_neg h9] at A2a
              have A2 := fun w => Lib.hid (A2a w)
              rw [if_neg (fun h => h9 (by omega))] at hone
              have HN := Lib.hid hone
              clear hone A0a A1a A2a hn hb hT hx hy h5 h9
              go_enter Try.func35, Try.ntmps35
              go_wp2_with fail
              refine (T0 _).out.mono ?_
              rintro _ _ ⟨rfl, rfl⟩
              go_wp2_with fail
              refine (A0 _).out.mono ?_
              rintro _ _ ⟨rfl, rfl⟩
              go_wp2_with fail
              refine (A1 _).out.mono ?_
              rintro _ _ ⟨rfl, rfl⟩
              go_wp2_with fail
              refine (A2 _).out.mono ?_
              rintro _ _ ⟨rfl, rfl⟩
              go_wp2
              refine bodyPost_ret (results_cell3 rfl _ _ w.heap.size 35 _ (0, 0) _ rfl (Blk.new w _ 35) Try.underlying35 rfl (by kernel_rfl)) rfl ⟨⟨T, ⟨#[]⟩, x, y, 0⟩, b + 9, false, rfl, by rw [HN.out]; rfl, (fun q h => by rw [HN.out] at h; cases h), (Below.refl _ w).alloc (Nat.le_refl _) _⟩
          · simp only [if_neg h5] at A1a
            have A1 := fun w => Lib.hid (A1a w)
            simp only [if_neg (show ¬ b + 5 + 4 ≤ s.size by omega)] at A2a
            have A2 := fun w => Lib.hid (A2a w)
            rw [if_neg (fun h => h5 (by omega))] at hone
            have HN := Lib.hid hone
            clear hone A0a A1a A2a hn hb hT hx hy h5
            go_enter Try.func35, Try.ntmps35
            go_wp2_with fail
            refine (T0 _).out.mono ?_
            rintro _ _ ⟨rfl, rfl⟩
            go_wp2_with fail
            refine (A0 _).out.mono ?_
            rintro _ _ ⟨rfl, rfl⟩
            go_wp2_with fail
            refine (A1 _).out.mono ?_
            rintro _ _ ⟨rfl, rfl⟩
            go_wp2_with fail
            refine (A2 _).out.mono ?_
            rintro _ _ ⟨rfl, rfl⟩
            go_wp2
            refine bodyPost_ret (results_cell3 rfl _ _ w.heap.size 35 _ (0, 0) _ rfl (Blk.new w _ 35) Try.underlying35 rfl (by kernel_rfl)) rfl ⟨⟨T, ⟨#[]⟩, x, y, 0⟩, b + 9, false, rfl, by rw [HN.out]; rfl, (fun q h => by rw [HN.out] at h; cases h), (Below.refl _ w).alloc (Nat.le_refl _) _⟩
        · rw [if_neg hm1] at hone
          have d2 : ((n : Int) == 1) = false := by rw [beq_eq_false_iff_ne]; omega
          have HN := Lib.hid hone
          clear hone A0a hn hb hT hm hm1
          go_enter Try.func35, Try.ntmps35
          go_wp2_with fail
          refine (T0 _).out.mono ?_
          rintro _ _ ⟨rfl, rfl⟩
          go_wp2_with fail
          refine (A0 _).out.mono ?_
          rintro _ _ ⟨rfl, rfl⟩
          go_wp2
          refine bodyPost_ret (results_cell3 rfl _ _ w.heap.size 35 _ (0, 0) _ rfl (Blk.new w _ 35) Try.underlying35 rfl (by kernel_rfl)) rfl ⟨CV.none, 0, false, rfl, by rw [HN.out]; rfl, (fun q h => by rw [HN.out] at h; cases h), (Below.refl _ w).alloc (Nat.le_refl _) _⟩
    · rw [if_neg hb] at hone
      simp only [if_neg hb] at A0a
      have A0 := fun w => Lib.hid (A0a w)
      have HN := Lib.hid hone
      clear hone A0a hn hb hT
      go_enter Try.func35, Try.ntmps35
      go_wp2_with fail
      refine (T0 _).out.mono ?_
      rintro _ _ ⟨rfl, rfl⟩
      go_wp2_with fail
      refine (A0 _).out.mono ?_
      rintro _ _ ⟨rfl, rfl⟩
      go_wp2
      refine bodyPost_ret (results_cell3 rfl _ _ w.heap.size 35 _ (0, 0) _ rfl (Blk.new w _ 35) Try.underlying35 rfl (by kernel_rfl)) rfl ⟨CV.none, 0, false, rfl, by rw [HN.out]; rfl, (fun q h => by rw [HN.out] at h; cases h), (Below.refl _ w).alloc (Nat.le_refl _) _⟩
theorem ltc_ok (w : World) (leaf : Bool) (s : ByteArray) (hs : s.size ≤ 488) (a : Nat) (ha : a ≤ 200000) : Calls Try.prog 35 #[.bool leaf, .string s, .int .i64 a] w (Taken w (Node.takeOne leaf s.data.toList a)) := by
  cases leaf
  · exact ltc_false w s hs a ha
  · exact ltc_true w s hs a ha
end Go.Proofs.Ytegmffeokfahjaa
