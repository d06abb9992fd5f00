/-
  FieldOrder (P1.4, P1.5): for every two lists of texts the statement's function returns true, and each argument reads behind the call as it read before. No conditions but the statement's own.
-/
import Derived.Test.YtkbhjpgadhbakaaLists
import Derived.Test.YtkbhjpgadhbakaaAwake
import Derived.Test.YtkbhjpgadhbakaaTuples1
import Derived.Test.YtkbhjpgadhbakaaComp
import Derived.WalkSpells
namespace Go.Proofs.Ytkbhjpgadhbakaa
namespace FieldOrder
open Go.ChangeShapes Go.WideShapes Go.ChangeAt Go.RowKit

theorem frame {w0 w1 w2 : World} (h1 : Below w0.heap.size w0 w1) (h2 : Below w1.heap.size w1 w2) : Below w0.heap.size w0 w2 := h1.trans (h2.mono h1.size)

/-- the two ways a Tuple of texts goes -/
theorem tupleOf_cases (L : List ByteArray) : (∃ e : Int, tupleOf L = .tuple #[.string ⟨#[]⟩, .int .i64 e] ∧ (e == 0) = false) ∨ (tupleOf L = .tuple #[.string ⟨(tup L).toArray⟩, .int .i64 0] ∧ L.length ≤ 16 ∧ (tup L).length ≤ 4096) := by
  by_cases h : 16 < L.length
  · exact .inl ⟨1, by rw [tupleOf, if_pos h], by decide⟩
  · by_cases h4 : (tup L).length ≤ 4096
    · exact .inr ⟨by rw [tupleOf, if_neg h, tupleV_ok L h4], by omega, h4⟩
    · exact .inl ⟨5, by rw [tupleOf, if_neg h, tupleV_long L (by omega)], by decide⟩
theorem nlt (x : UInt8) : ¬ x < x := by rw [UInt8.lt_iff_toNat_lt]; omega
theorem cmpL_lt {x y : UInt8} (h : x < y) (a b : List UInt8) : cmpL (x :: a) (y :: b) = -1 := by simp only [cmpL, if_pos h]
theorem cmpL_gt {x y : UInt8} (h : y < x) (a b : List UInt8) : cmpL (x :: a) (y :: b) = 1 := by
  have : ¬ x < y := by rw [UInt8.lt_iff_toNat_lt] at h ⊢; omega
  simp only [cmpL, if_neg this, if_pos h]
theorem cmpL_eq (x : UInt8) (a b : List UInt8) : cmpL (x :: a) (x :: b) = cmpL a b := by simp only [cmpL, if_neg (nlt x)]
theorem pos_of_ne {x : UInt8} (h : ¬ x = 0) : 0 < x := by
  rw [UInt8.lt_iff_toNat_lt]
  have : x.toNat ≠ 0 := fun e => h (UInt8.toNat_inj.1 e)
  show 0 < x.toNat
  omega
/-- an end is less than whatever goes on -/
theorem cmpL_esc (p q X Y : List UInt8) : cmpL (esc p ++ 0 :: 1 :: X) (esc q ++ 0 :: 1 :: Y) = if cmpL p q = 0 then cmpL X Y else cmpL p q := by
  induction p generalizing q with
  | nil =>
    cases q with
    | nil =>
      simp only [esc, List.nil_append, cmpL_eq]
      have e : cmpL [] [] = 0 := rfl
      rw [if_pos e]
    | cons c q =>
      have e : cmpL ([] : List UInt8) (c :: q) = -1 := rfl
      rw [e, if_neg (by decide)]
      by_cases h : c = 0
      · subst h
        simp only [esc, if_true, List.nil_append, List.cons_append, cmpL_eq]
        exact cmpL_lt (by decide) _ _
      · simp only [esc, if_neg h, List.nil_append, List.cons_append]
        exact cmpL_lt (pos_of_ne h) _ _
  | cons b p ih =>
    cases q with
    | nil =>
      have e : cmpL (b :: p) ([] : List UInt8) = 1 := rfl
      rw [e, if_neg (by decide)]
      by_cases h : b = 0
      · subst h
        simp only [esc, if_true, List.nil_append, List.cons_append, cmpL_eq]
        exact cmpL_gt (by decide) _ _
      · simp only [esc, if_neg h, List.nil_append, List.cons_append]
        exact cmpL_gt (pos_of_ne h) _ _
    | cons c q =>
      by_cases hbc : b = c
      · subst hbc
        rw [cmpL_eq, ← ih q]
        by_cases h : b = 0
        · subst h
          simp only [esc, if_true, List.nil_append, List.cons_append, cmpL_eq]
        · simp only [esc, if_neg h, List.nil_append, List.cons_append, cmpL_eq]
      · by_cases hlt : b < c
        · rw [cmpL_lt hlt, if_neg (by decide)]
          by_cases h : b = 0
          · subst h
            have hc : ¬ c = 0 := fun e => hbc e.symm
            simp only [esc, if_true, if_neg hc, List.nil_append, List.cons_append]
            exact cmpL_lt hlt _ _
          · have hc : ¬ c = 0 := by
              rintro rfl
              rw [UInt8.lt_iff_toNat_lt] at hlt
              have : (0 : UInt8).toNat = 0 := rfl
              omega
            simp only [esc, if_neg h, if_neg hc, List.nil_append, List.cons_append]
            exact cmpL_lt hlt _ _
        · have hgt : c < b := by
            rw [UInt8.lt_iff_toNat_lt] at hlt ⊢
            have : b.toNat ≠ c.toNat := fun e => hbc (UInt8.toNat_inj.1 e)
            omega
          rw [cmpL_gt hgt, if_neg (by decide)]
          have hb : ¬ b = 0 := by
            rintro rfl
            rw [UInt8.lt_iff_toNat_lt] at hgt
            have : (0 : UInt8).toNat = 0 := rfl
            omega
          by_cases h : c = 0
          · subst h
            simp only [esc, if_true, if_neg hb, List.nil_append, List.cons_append]
            exact cmpL_gt hgt _ _
          · simp only [esc, if_neg h, if_neg hb, List.nil_append, List.cons_append]
            exact cmpL_gt hgt _ _
theorem tup_cons (p : ByteArray) (L : List ByteArray) : tup (p :: L) = esc p.data.toList ++ 0 :: 1 :: tup L := by simp [tup]
theorem part_first (p : ByteArray) (L : List ByteArray) : ∃ x r, tup (p :: L) = x :: r := by
  rw [tup_cons]
  cases h : p.data.toList with
  | nil => exact ⟨0, _, rfl⟩
  | cons b l =>
    by_cases h0 : b = 0
    · exact ⟨0, _, by simp only [esc, if_pos h0]; rfl⟩
    · exact ⟨b, _, by simp only [esc, if_neg h0]; rfl⟩
/-- tuples stand in the order of their lists -/
theorem cmp_tup (L M : List ByteArray) : cmpL (tup L) (tup M) = cmpS L M := by
  induction L generalizing M with
  | nil =>
    cases M with
    | nil => rfl
    | cons q M =>
      obtain ⟨x, r, e⟩ := part_first q M
      rw [e]; rfl
  | cons p L ih =>
    cases M with
    | nil =>
      obtain ⟨x, r, e⟩ := part_first p L
      rw [e]; rfl
    | cons q M =>
      rw [tup_cons, tup_cons, cmpL_esc, ih M]
      rfl
theorem cmpL_neg (a b : List UInt8) : cmpL b a = - cmpL a b := by
  induction a generalizing b with
  | nil => cases b <;> rfl
  | cons x a ih =>
    cases b with
    | nil => rfl
    | cons y b =>
      by_cases h1 : x < y
      · rw [cmpL_lt h1, cmpL_gt h1]; rfl
      · by_cases h2 : y < x
        · rw [cmpL_gt h2, cmpL_lt h2]
        · simp only [cmpL, if_neg h1, if_neg h2]
          exact ih b
theorem cmpS_neg (L M : List ByteArray) : cmpS M L = - cmpS L M := by
  induction L generalizing M with
  | nil => cases M <;> rfl
  | cons p L ih =>
    cases M with
    | nil => rfl
    | cons q M =>
      simp only [cmpS]
      rw [cmpL_neg p.data.toList q.data.toList]
      by_cases h : cmpL p.data.toList q.data.toList = 0
      · rw [if_pos h, if_pos (by omega)]
        exact ih M
      · rw [if_neg h, if_neg (by omega)]
theorem cmpS_range (L M : List ByteArray) : -1 ≤ cmpS L M ∧ cmpS L M ≤ 1 := by
  rw [← cmp_tup]
  rcases cmpL_facts (tup L) (tup M) with ⟨h, _⟩ | ⟨h, _⟩ | ⟨h, _⟩ <;> rw [h] <;> decide
theorem go_app (L : List ByteArray) (r : List UInt8) : go [] (tup L ++ r) = (go [] r).map (L ++ ·) := by
  induction L with
  | nil => simp [tup]
  | cons p L ih =>
    have e : tup (p :: L) ++ r = esc p.data.toList ++ 0 :: 1 :: (tup L ++ r) := by simp [tup]
    rw [e, go_esc, ih, Option.map_map]
    congr 1
theorem prefix_tup (L M : List ByteArray) : tup L <+: tup M ↔ L <+: M := by
  constructor
  · rintro ⟨r, hr⟩
    have h := go_app L r
    rw [hr, go_tup] at h
    cases hg : go [] r with
    | none => rw [hg] at h; simp at h
    | some N =>
      rw [hg] at h
      simp only [Option.map_some, Option.some.injEq] at h
      exact ⟨N, h.symm⟩
  · rintro ⟨N, rfl⟩
    exact ⟨tup N, (tup_append L N).symm⟩
theorem data_tup (L : List ByteArray) : (⟨(tup L).toArray⟩ : ByteArray).data.toList = tup L := by simp

theorem reads_take {w : World} {B : Option Addr} {M : List ByteArray} (h : Reads w B M) (n : Nat) : Reads w B (M.take n) := by
  rcases h with rfl | ⟨b, off, rfl, h1, h2⟩
  · exact .inl (by simp)
  · refine .inr ⟨b, off, rfl, h1, fun i hi => ?_⟩
    rw [List.length_take] at hi
    rw [h2 i (by omega), List.getElem_take]
theorem take_iff (L M : List ByteArray) : decide (L = M.take L.length) = decide (L <+: M) := by
  rw [decide_eq_decide]
  exact (List.prefix_iff_eq_take).symm

theorem tup_size (L : List ByteArray) (h : (tup L).length ≤ 4096) : (⟨(tup L).toArray⟩ : ByteArray).size ≤ 1048576 := by
  rw [ByteArray.size_mk', List.size_toArray]; omega
theorem less_tup (L M : List ByteArray) (h : (tup L).length ≤ 4096) (w : World) :
    Calls Try.prog 26 #[.string ⟨(tup L).toArray⟩, .string ⟨(tup M).toArray⟩] w fun e w' => e = .returned (.int .i64 (cmpS L M)) ∧ Below w.heap.size w w' := by
  have := less_any ⟨(tup L).toArray⟩ ⟨(tup M).toArray⟩ (tup_size L h) w
  rw [data_tup, data_tup, cmp_tup] at this
  exact this
theorem begins_tup (L M : List ByteArray) (w : World) :
    Calls Try.prog 27 #[.string ⟨(tup L).toArray⟩, .string ⟨(tup M).toArray⟩] w fun e w' => e = .returned (.bool (decide (L <+: M))) ∧ w = w' := by
  by_cases h : L <+: M
  · rw [decide_eq_true h]
    exact begins_yes _ _ (by rw [data_tup, data_tup]; exact (prefix_tup L M).2 h) w
  · rw [decide_eq_false h]
    exact begins_no _ _ (by rw [data_tup, data_tup]; exact fun e => h ((prefix_tup L M).1 e)) w

set_option maxHeartbeats 3200000 in
theorem any (A B : Option Addr) (c d : Nat) (L M : List ByteArray) (w : World) (hA : Reads w A L) (hB : Reads w B M) (hL : L.length ≤ c) (hM : M.length ≤ d) (hc : c ≤ 9223372036854775807) (hd : d ≤ 9223372036854775807) :
    Calls Try.prog 7 #[.slice A L.length c, .slice B M.length d] w fun e w' => e = .returned (.bool true) ∧ Below w.heap.size w w' := by
  have HA := Lib.hid hA
  have HB := Lib.hid hB
  clear hA hB
  go_enter Try.func7, Try.ntmps7
  go_wp2_with fail
  refine (awake_any _).mono ?_
  rintro _ w0 ⟨rfl, hb0⟩
  have HA0 := Lib.hid (HA.out.below hb0)
  have HB0 := Lib.hid (HB.out.below hb0)
  go_wp2_with fail
  refine (long_any A c L w0 HA0.out (by omega)).mono ?_
  rintro _ _ ⟨b, rfl, rfl, hlong⟩
  cases b with
  | true =>
    go_wp2
    go_ret
    exact ⟨rfl, hb0⟩
  | false =>
    have hsz := Lib.hid (hlong rfl).2
    have h40 := (hlong rfl).1
    clear hlong
    go_wp2_with fail
    refine (long_any B d M w0 HB0.out (by omega)).mono ?_
    rintro _ _ ⟨b, rfl, rfl, hlong⟩
    cases b with
    | true =>
      go_wp2
      go_ret
      exact ⟨rfl, hb0⟩
    | false =>
      have hszM := Lib.hid (hlong rfl).2
      have h40M := (hlong rfl).1
      clear hlong
      have hr := cmpS_range L M
      have K1 := Lib.hid (compare_any A B c d L M h40 h40M w0 HA0.out HB0.out)
      have K2 := Lib.hid (rcompare_any A B c d L M h40 h40M hsz.out w0 HA0.out HB0.out)
      have K3 := fun w hA hB => Lib.hid (compare_any B A d c M L h40M h40 w hB hA)
      rw [cmpS_neg L M] at K3
      have T1 := fun w hA => Lib.hid (tuple_any A c L w hA)
      have T2 := fun w hB => Lib.hid (tuple_any B d M w hB)
      have D1 := fun h w => Lib.hid (less_tup L M h w)
      have D2 := fun w => Lib.hid (begins_tup L M w)
      generalize cmpS L M = r at *
      have hr1 := hr.1
      have hr2 := hr.2
      clear hr
      go_wp2_with fail
      refine K1.out.mono ?_
      rintro _ _ ⟨rfl, rfl⟩
      go_wp2_with fail
      refine K2.out.mono ?_
      rintro _ w1 ⟨rfl, hb1⟩
      clear K1 K2
      have HA1 := Lib.hid (HA0.out.below hb1)
      have HB1 := Lib.hid (HB0.out.below hb1)
      go_wp2_with fail
      refine (K3 w1 HA1.out HB1.out).out.mono ?_
      rintro _ _ ⟨rfl, rfl⟩
      clear K3
      rcases tupleOf_cases L with ⟨e, he, he0⟩ | ⟨he, h16, h4⟩
      · have he1 : (e != 0) = true := by rw [bne, he0]; rfl
        rw [he] at T1
        clear he
        rcases tupleOf_cases M with ⟨f, hf, hf0⟩ | ⟨hf, h16', h4'⟩
        · rw [hf] at T2
          clear hf
          go_wp2_with fail
          refine (T1 w1 HA1.out).out.mono ?_
          rintro _ w2 ⟨rfl, hb2⟩
          go_wp2_with fail
          refine (T2 w2 (HB1.out.below hb2)).out.mono ?_
          rintro _ w3 ⟨rfl, hb3⟩
          go_wp2
          go_ret
          exact ⟨rfl, frame (frame (frame hb0 hb1) hb2) hb3⟩
        · rw [hf] at T2
          clear hf h4'
          go_wp2_with fail
          refine (T1 w1 HA1.out).out.mono ?_
          rintro _ w2 ⟨rfl, hb2⟩
          go_wp2_with fail
          refine (T2 w2 (HB1.out.below hb2)).out.mono ?_
          rintro _ w3 ⟨rfl, hb3⟩
          go_wp2
          go_ret
          exact ⟨rfl, frame (frame (frame hb0 hb1) hb2) hb3⟩
      · rw [he] at T1
        clear he
        rcases tupleOf_cases M with ⟨f, hf, hf0⟩ | ⟨hf, h16', h4'⟩
        · have hf1 : (f != 0) = true := by rw [bne, hf0]; rfl
          rw [hf] at T2
          clear hf h4
          go_wp2_with fail
          refine (T1 w1 HA1.out).out.mono ?_
          rintro _ w2 ⟨rfl, hb2⟩
          go_wp2_with fail
          refine (T2 w2 (HB1.out.below hb2)).out.mono ?_
          rintro _ w3 ⟨rfl, hb3⟩
          go_wp2
          go_ret
          exact ⟨rfl, frame (frame (frame hb0 hb1) hb2) hb3⟩
        · rw [hf] at T2
          have D1' := fun w => Lib.hid (D1 h4 w).out
          clear hf h4 h4' D1
          by_cases hle : L.length ≤ M.length
          · have d1 : decide ((L.length : Int) ≤ M.length) = true := by simp; omega
            have d2 : decide ((M.length : Int) < L.length) = false := by simp; omega
            have hlt : (M.take L.length).length = L.length := by rw [List.length_take]; omega
            have S := fun w hA hB => Lib.hid (same_any A B L (M.take L.length) c d w hA (reads_take hB _) (by omega))
            rw [hlt, take_iff L M] at S
            clear hlt
            go_wp2_with fail
            refine (T1 w1 HA1.out).out.mono ?_
            rintro _ w2 ⟨rfl, hb2⟩
            have HA2 := Lib.hid (HA1.out.below hb2)
            have HB2 := Lib.hid (HB1.out.below hb2)
            go_wp2_with fail
            refine (T2 w2 HB2.out).out.mono ?_
            rintro _ w3 ⟨rfl, hb3⟩
            have HA3 := Lib.hid (HA2.out.below hb3)
            have HB3 := Lib.hid (HB2.out.below hb3)
            clear T1 T2
            generalize decide (L <+: M) = pb at *
            go_wp2_with fail
            refine (S w3 HA3.out HB3.out).out.mono ?_
            rintro _ w4 ⟨rfl, hb4⟩
            clear S
            go_wp2_with fail
            refine (D1' w4).out.mono ?_
            rintro _ w5 ⟨rfl, hb5⟩
            go_wp2_with fail
            refine (D2 w5).out.mono ?_
            rintro _ _ ⟨rfl, rfl⟩
            go_wp2
            go_ret
            exact ⟨by simp, frame (frame (frame (frame (frame hb0 hb1) hb2) hb3) hb4) hb5⟩
          · have d1 : decide ((L.length : Int) ≤ M.length) = false := by simp; omega
            have hp : decide (L <+: M) = false := by
              rw [decide_eq_false_iff_not]
              intro h
              have := h.length_le
              omega
            rw [hp] at D2
            clear hp
            go_wp2_with fail
            refine (T1 w1 HA1.out).out.mono ?_
            rintro _ w2 ⟨rfl, hb2⟩
            have HB2 := Lib.hid (HB1.out.below hb2)
            go_wp2_with fail
            refine (T2 w2 HB2.out).out.mono ?_
            rintro _ w3 ⟨rfl, hb3⟩
            clear T1 T2
            go_wp2_with fail
            refine (D1' w3).out.mono ?_
            rintro _ w4 ⟨rfl, hb4⟩
            go_wp2_with fail
            refine (D2 w4).out.mono ?_
            rintro _ _ ⟨rfl, rfl⟩
            go_wp2
            go_ret
            exact ⟨by simp, frame (frame (frame (frame hb0 hb1) hb2) hb3) hb4⟩

theorem own : ownKnob Try.prog.godebug = none := by kernel_rfl
set_option maxRecDepth 100000 in
theorem lifted (os : Os) (started : os.Started) (H : Type) (enc : TypeId × Value → H) :
    ReturnsInHanded {} Try.checked os 7 .any (Rows.fieldOrderSpec.pre6 enc Try.prog Try.f7 Rows.fieldOrderRow.domain false) (Rows.fieldOrderSpec.post enc Try.prog Try.f7 false true false false) := by
  refine returnsInHanded_of_change (C := Try.checked) own started (by kernel_rfl) Try.func7
    (ChangeSpec.witness6 (enc := enc) (C := Try.checked) false ⟨#[], #[.slice none 0 0, .slice none 0 0], []⟩ 8 (by kernel_rfl) (by kernel_rfl) (by kernel_rfl) (by kernel_rfl)) ?_
  intro W base args ds gs before hval0 hW hcnd _
  have hval : ∀ (j : Nat) t v, Try.f7.params[j]? = some t → args[j]? = some v → Value.okWide Try.prog W .any base t v := hval0
  have hW' := hW
  obtain ⟨p, q, hA0, hV, rfl, hfz, hnd⟩ := hW
  have hA : DataW.TrodAll enc Try.prog W 0 (fun _ => true) true Try.f7.params.toList args.toList ds p := hA0
  rw [Try.params7] at hA hval
  obtain ⟨v0, vs0, d0, ds0, p0, q0, hargs, rfl, rfl, h0, r0⟩ := trodAll_cons hA
  obtain ⟨v1, vs1, d1, ds1, p1, q1, rfl, rfl, rfl, h1, r1⟩ := trodAll_cons r0
  obtain ⟨rfl, rfl, rfl⟩ := trodAll_nil r1
  obtain rfl : args = #[v0, v1] := by cases args; simp_all
  obtain ⟨rfl, rfl⟩ := trodVars_none hV
  clear hA0 hval0
  simp only [List.append_nil] at hW'
  have hlt0 : ∀ x ∈ p0, x.block < W.heap.size := fun x hx => hW'.lt x (by simp [hx])
  have hlt1 : ∀ x ∈ p1, x.block < W.heap.size := fun x hx => hW'.lt x (by simp [hx])
  obtain ⟨A, c, L, rfl, hRA, hL, hc⟩ := open_texts (hval 0 34 v0 rfl rfl) h0 hlt0
  obtain ⟨B, d, M, rfl, hRB, hM, hd⟩ := open_texts (hval 1 34 v1 rfl rfl) h1 hlt1
  refine (any A B c d L M W hRA hRB hL hM hc hd).mono fun e W' ⟨he, hb⟩ => ?_
  subst he
  refine ⟨_, rfl, _, _, _, [], p0 ++ p1, [], hW', trodAll_cons_mk (shut_bool Try.underlying4 _) trodAll_mk0, ?_, rfl, hb.frame _, fun h => by cases h⟩
  exact trodAll_mk2 (Below.trod laidOut (by kernel_rfl) (of_decide_eq_true (by kernel_rfl)) h0 hb hlt0) (Below.trod laidOut (by kernel_rfl) (of_decide_eq_true (by kernel_rfl)) h1 hb hlt1)
end FieldOrder

theorem fieldOrder_holds : Rows.FieldOrderSaid :=
  OpenClaim.holds_of_wide 7 Try.f7 rfl rfl rfl rfl rfl rfl rfl ⟨rfl, rfl, rfl, rfl, rfl⟩ rfl rfl rfl rfl rfl (by kernel_rfl) Try.func7 (by kernel_rfl)
    (of_decide_eq_true (by kernel_rfl)) (by unfold Func.isWrapper; first | (rw [if_pos (by decide +kernel)]; kernel_rfl) | (rw [if_neg (by decide +kernel)]; exact ⟨rfl, rfl⟩))
    (fun os started H enc _ => FieldOrder.lifted os started H enc)
end Go.Proofs.Ytkbhjpgadhbakaa
