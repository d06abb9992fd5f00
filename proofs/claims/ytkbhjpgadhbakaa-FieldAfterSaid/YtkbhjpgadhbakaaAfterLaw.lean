/-
  FieldAfter (P1.4): for all texts s, tail and other the statement's function returns true, and each argument reads behind the call as it read before. No conditions but the statement's own.
-/
import Derived.Test.YtkbhjpgadhbakaaRows
import Derived.Test.YtkbhjpgadhbakaaAwake
import Derived.Test.YtkbhjpgadhbakaaLess
import Derived.Test.YtkbhjpgadhbakaaPost
import Derived.ProofKit
import Derived.OpenShut
namespace Go.Proofs.Ytkbhjpgadhbakaa
namespace FieldAfter
open Go.ChangeShapes Go.WideShapes Go.ChangeAt Go.RowKit
open Go.ChangeMaps (open_string shut_string)

def All255 (l : List UInt8) : Prop := ∀ b ∈ l, b = 255
theorem le255 (b : UInt8) : ¬ 255 < b := by
  rw [UInt8.lt_iff_toNat_lt]
  have := b.toNat_lt
  show ¬ 255 < b.toNat
  omega
theorem lt_of_ne255 (b : UInt8) (h : b ≠ 255) : b < b + 1 := by
  have h1 := b.toNat_lt
  have h2 : b.toNat ≠ 255 := fun e => h (UInt8.toNat_inj.1 e)
  rw [UInt8.lt_iff_toNat_lt, UInt8.toNat_add]
  show b.toNat < (b.toNat + 1) % 256
  omega
theorem eq_of_not_lt {x y : UInt8} (h1 : ¬ x < y) (h2 : ¬ y < x) : x = y := by
  rw [UInt8.lt_iff_toNat_lt] at h1 h2
  apply UInt8.toNat_inj.1
  omega
theorem ends (r : List UInt8) (hr : All255 r) (o : List UInt8) : cmpL o r < 0 ∨ r <+: o := by
  induction r generalizing o with
  | nil => exact .inr (List.nil_prefix)
  | cons x r ih =>
    cases o with
    | nil => left; show (-1 : Int) < 0; decide
    | cons y o =>
      obtain rfl : x = 255 := hr x (by simp)
      by_cases h : y < 255
      · left; simp only [cmpL, if_pos h]; decide
      · obtain rfl := eq_of_not_lt h (le255 y)
        rcases ih (fun b hb => hr b (by simp [hb])) o with h1 | h1
        · left; simpa only [cmpL, if_neg h] using h1
        · right; simpa using h1
theorem below (p : List UInt8) (x : UInt8) (hx : x ≠ 255) (r t : List UInt8) : cmpL (p ++ x :: r ++ t) (p ++ [x + 1]) < 0 := by
  induction p with
  | nil => simp only [List.nil_append, List.cons_append, cmpL, if_pos (lt_of_ne255 x hx)]; decide
  | cons z p ih =>
    have hz : ¬ z < z := by rw [UInt8.lt_iff_toNat_lt]; omega
    simpa only [List.cons_append, cmpL, if_neg hz] using ih
theorem least (p : List UInt8) (x : UInt8) (hx : x ≠ 255) (r : List UInt8) (hr : All255 r) (o : List UInt8) : 0 ≤ cmpL o (p ++ [x + 1]) ∨ cmpL o (p ++ x :: r) < 0 ∨ (p ++ x :: r) <+: o := by
  induction p generalizing o with
  | nil =>
    cases o with
    | nil => right; left; show (-1 : Int) < 0; decide
    | cons y o =>
      simp only [List.nil_append]
      by_cases h1 : y < x
      · right; left; simp only [cmpL, if_pos h1]; decide
      · by_cases h2 : x < y
        · left
          have hx1 := lt_of_ne255 x hx
          have h3 : ¬ y < x + 1 := by
            rw [UInt8.lt_iff_toNat_lt] at h2 hx1 ⊢
            have hb := x.toNat_lt
            have h4 : x.toNat ≠ 255 := fun e => hx (UInt8.toNat_inj.1 e)
            have h5 : (x + 1).toNat = x.toNat + 1 := by
              rw [UInt8.toNat_add]
              show (x.toNat + 1) % 256 = _
              omega
            omega
          by_cases h6 : x + 1 < y
          · simp only [cmpL, if_neg h3, if_pos h6]; decide
          · simp only [cmpL, if_neg h3, if_neg h6]
            cases o <;> simp [cmpL]
        · obtain rfl := eq_of_not_lt h1 h2
          rcases ends r hr o with h3 | h3
          · right; left; simpa only [cmpL, if_neg h1] using h3
          · right; right; simpa using h3
  | cons z p ih =>
    cases o with
    | nil => right; left; show (-1 : Int) < 0; decide
    | cons y o =>
      simp only [List.cons_append]
      by_cases h1 : y < z
      · right; left; simp only [cmpL, if_pos h1]; decide
      · by_cases h2 : z < y
        · left; simp only [cmpL, if_neg h1, if_pos h2]; decide
        · obtain rfl := eq_of_not_lt h1 h2
          rcases ih o with h3 | h3 | h3
          · left; simpa only [cmpL, if_neg h1] using h3
          · right; left; simpa only [cmpL, if_neg h1] using h3
          · right; right; simpa using h3

theorem stem_from (s : ByteArray) (m : Nat) (hm : m ≤ s.size) (h : ∀ j (h : j < s.size), m ≤ j → s[j] = 255) : ∃ n, Stem s n := by
  induction m with
  | zero => exact ⟨0, Nat.zero_le _, h, fun _ h0 => absurd h0 (by omega)⟩
  | succ m ih =>
    by_cases h0 : s[m] = 255
    · refine ih (by omega) fun j hj hmj => ?_
      by_cases e : j = m
      · subst e; exact h0
      · exact h j hj (by omega)
    · exact ⟨m + 1, hm, h, fun _ _ => h0⟩
theorem stem_exists (s : ByteArray) : ∃ n, Stem s n := stem_from s s.size (Nat.le_refl _) fun j hj h => absurd hj (by omega)
theorem stem_all (s : ByteArray) (n : Nat) (h : Stem s n) : All255 (s.data.toList.drop n) := by
  intro b hb
  obtain ⟨i, hi, rfl⟩ := List.getElem_of_mem hb
  rw [List.length_drop, Array.length_toList] at hi
  rw [List.getElem_drop]
  exact h.rest (n + i) (by have : s.data.size = s.size := rfl; omega) (by omega)

def LessGives (a b : ByteArray) (c : Int) : Prop := ∀ w, Calls Try.prog 26 #[.string a, .string b] w fun e w' => e = .returned (.int .i64 c) ∧ Below w.heap.size w w'
def BeginsGives (a b : ByteArray) (c : Bool) : Prop := ∀ w, Calls Try.prog 27 #[.string a, .string b] w fun e w' => e = .returned (.bool c) ∧ w = w'

/-- there is no text behind all -/
theorem none_facts (s o : ByteArray) (ho : o.size ≤ 9000) (hn : Stem s 0) : (∃ c, LessGives o s c ∧ c < 0) ∨ (∃ c, LessGives o s c ∧ 0 ≤ c ∧ BeginsGives s o true) := by
  have ha := stem_all s 0 hn
  have hl : LessGives o s (cmpL o.data.toList s.data.toList) := less_any o s (by omega)
  rcases ends s.data.toList (by simpa using ha) o.data.toList with h | h
  · exact .inl ⟨_, hl, h⟩
  · by_cases h0 : cmpL o.data.toList s.data.toList < 0
    · exact .inl ⟨_, hl, h0⟩
    · exact .inr ⟨_, hl, by omega, begins_yes s o h⟩

theorem some_facts (s t o : ByteArray) (hs : s.size ≤ 9000) (ht : t.size ≤ 9000) (ho : o.size ≤ 9000) (q : Nat) (hn : Stem s (q + 1)) : ∃ (A : ByteArray) (c1 : Int),
    (∀ w, Calls Try.prog 28 #[.string s] w fun e w' => e = .returned (.tuple #[.string A, .bool true]) ∧ Below w.heap.size w w') ∧
    (∀ w, Calls Try.prog 29 #[.string s] w fun e w' => e = .returned (.tuple #[.string A, .bool true]) ∧ Below w.heap.size w w') ∧
    LessGives (s ++ t) A c1 ∧ c1 < 0 ∧
    ((∃ c, LessGives o A c ∧ 0 ≤ c) ∨ (∃ c d, LessGives o A c ∧ c < 0 ∧ LessGives o s d ∧ d < 0) ∨ (∃ c d, LessGives o A c ∧ c < 0 ∧ LessGives o s d ∧ 0 ≤ d ∧ BeginsGives s o true)) := by
  have hle := hn.le
  have hx : s[q] ≠ 255 := hn.stop (by simp only [Nat.add_sub_cancel]; exact hle) (by omega)
  have hr := stem_all s (q + 1) hn
  have hsplit : s.data.toList = s.data.toList.take q ++ s[q] :: s.data.toList.drop (q + 1) := by
    conv => lhs; rw [← List.take_append_drop q s.data.toList, drop_at s q hle]
  have hA : (⟨(s.data.toList.take q ++ [s.data.toList.getD q 0 + 1]).toArray⟩ : ByteArray).data.toList = s.data.toList.take q ++ [s[q] + 1] := by
    rw [getD_at s q hle]
  refine ⟨⟨(s.data.toList.take q ++ [s.data.toList.getD q 0 + 1]).toArray⟩, cmpL (s ++ t).data.toList (s.data.toList.take q ++ [s[q] + 1]), after_some s (by omega) q hn, rafter_some s (by omega) q hn, ?_, ?_, ?_⟩
  · rw [← hA]
    exact less_any (s ++ t) _ (by rw [ByteArray.size_append]; omega)
  · rw [ByteArray.data_append, Array.toList_append, hsplit]
    have := below (s.data.toList.take q) s[q] hx (s.data.toList.drop (q + 1)) t.data.toList
    rw [← hsplit]
    rw [← hsplit] at this
    exact this
  · have hlA : LessGives o ⟨(s.data.toList.take q ++ [s.data.toList.getD q 0 + 1]).toArray⟩ (cmpL o.data.toList (s.data.toList.take q ++ [s[q] + 1])) := by
      rw [← hA]
      exact less_any o _ (by omega)
    have hls : LessGives o s (cmpL o.data.toList s.data.toList) := less_any o s (by omega)
    have h3 := least (s.data.toList.take q) s[q] hx (s.data.toList.drop (q + 1)) hr o.data.toList
    rw [← hsplit] at h3
    by_cases h0 : 0 ≤ cmpL o.data.toList (s.data.toList.take q ++ [s[q] + 1])
    · exact .inl ⟨_, hlA, h0⟩
    · by_cases h1 : cmpL o.data.toList s.data.toList < 0
      · exact .inr (.inl ⟨_, _, hlA, by omega, hls, h1⟩)
      · rcases h3 with h3 | h3 | h3
        · exact absurd h3 h0
        · exact absurd h3 h1
        · exact .inr (.inr ⟨_, _, hlA, by omega, hls, by omega, begins_yes s o h3⟩)

theorem frame {w0 w1 w2 : World} (h1 : Below w0.heap.size w0 w1) (h2 : Below w1.heap.size w1 w2) : Below w0.heap.size w0 w2 := h1.trans (h2.mono h1.size)

set_option maxHeartbeats 800000 in
theorem good_none (s t o : ByteArray) (hs : s.size ≤ 9000) (ht : t.size ≤ 9000) (ho : o.size ≤ 9000) (hn : Stem s 0) (w : World) :
    Calls Try.prog 8 #[.string s, .string t, .string o] w fun e w' => e = .returned (.bool true) ∧ Below w.heap.size w w' := by
  have d1 : decide ((9000 : Int) < (s.size : Int)) = false := by simp; omega
  have d2 : decide ((9000 : Int) < (t.size : Int)) = false := by simp; omega
  have d3 : decide ((9000 : Int) < (o.size : Int)) = false := by simp; omega
  have P1 := fun w => Lib.hid (after_none s (by omega) hn w)
  have P2 := fun w => Lib.hid (rafter_none s (by omega) hn w)
  rcases none_facts s o ho hn with ⟨c, hl, hc⟩ | ⟨c, hl, hc, hb⟩
  · have d4 : decide (c < 0) = true := by simpa using hc
    clear hn
    go_enter Try.func8, Try.ntmps8
    go_wp2_with fail
    refine (awake_any _).mono ?_
    rintro _ w0 ⟨rfl, hb0⟩
    go_wp2_with fail
    refine (P1 _).out.mono ?_
    rintro _ _ ⟨rfl, rfl⟩
    go_wp2_with fail
    refine (P2 _).out.mono ?_
    rintro _ _ ⟨rfl, rfl⟩
    go_wp2_with fail
    refine (hl _).mono ?_
    rintro _ w1 ⟨rfl, hb1⟩
    go_wp2
    go_ret
    exact ⟨rfl, frame hb0 hb1⟩
  · have d4 : decide (c < 0) = false := by simpa using hc
    clear hn
    go_enter Try.func8, Try.ntmps8
    go_wp2_with fail
    refine (awake_any _).mono ?_
    rintro _ w0 ⟨rfl, hb0⟩
    go_wp2_with fail
    refine (P1 _).out.mono ?_
    rintro _ _ ⟨rfl, rfl⟩
    go_wp2_with fail
    refine (P2 _).out.mono ?_
    rintro _ _ ⟨rfl, rfl⟩
    go_wp2_with fail
    refine (hl _).mono ?_
    rintro _ w1 ⟨rfl, hb1⟩
    go_wp2_with fail
    refine (hb _).mono ?_
    rintro _ _ ⟨rfl, rfl⟩
    go_wp2
    go_ret
    exact ⟨rfl, frame hb0 hb1⟩

set_option maxHeartbeats 1600000 in
theorem good_some (s t o : ByteArray) (hs : s.size ≤ 9000) (ht : t.size ≤ 9000) (ho : o.size ≤ 9000) (q : Nat) (hn : Stem s (q + 1)) (w : World) :
    Calls Try.prog 8 #[.string s, .string t, .string o] w fun e w' => e = .returned (.bool true) ∧ Below w.heap.size w w' := by
  have d1 : decide ((9000 : Int) < (s.size : Int)) = false := by simp; omega
  have d2 : decide ((9000 : Int) < (t.size : Int)) = false := by simp; omega
  have d3 : decide ((9000 : Int) < (o.size : Int)) = false := by simp; omega
  have hsum : s.size + t.size ≤ 9223372036854775807 := by omega
  obtain ⟨A, c1, p1, p2, l1, hc1, h3⟩ := some_facts s t o hs ht ho q hn
  have P1 := fun w => Lib.hid (p1 w)
  have P2 := fun w => Lib.hid (p2 w)
  have e1 : decide (0 ≤ c1) = false := by simpa using hc1
  clear p1 p2 hn
  rcases h3 with ⟨c, l2, hc⟩ | ⟨c, d, l2, hc, l3, hd⟩ | ⟨c, d, l2, hc, l3, hd, hb⟩
  · have e2 : decide (0 ≤ c) = true := by simpa using hc
    go_enter Try.func8, Try.ntmps8
    go_wp2_with fail
    refine (awake_any _).mono ?_
    rintro _ w0 ⟨rfl, hb0⟩
    go_wp2_with fail
    refine (P1 _).out.mono ?_
    rintro _ w1 ⟨rfl, hb1⟩
    go_wp2_with fail
    refine (P2 _).out.mono ?_
    rintro _ w2 ⟨rfl, hb2⟩
    go_wp2_with fail
    refine (l1 _).mono ?_
    rintro _ w3 ⟨rfl, hb3⟩
    go_wp2_with fail
    refine (l2 _).mono ?_
    rintro _ w4 ⟨rfl, hb4⟩
    go_wp2
    go_ret
    exact ⟨rfl, frame (frame (frame (frame hb0 hb1) hb2) hb3) hb4⟩
  · have e2 : decide (0 ≤ c) = false := by simpa using hc
    have e3 : decide (d < 0) = true := by simpa using hd
    go_enter Try.func8, Try.ntmps8
    go_wp2_with fail
    refine (awake_any _).mono ?_
    rintro _ w0 ⟨rfl, hb0⟩
    go_wp2_with fail
    refine (P1 _).out.mono ?_
    rintro _ w1 ⟨rfl, hb1⟩
    go_wp2_with fail
    refine (P2 _).out.mono ?_
    rintro _ w2 ⟨rfl, hb2⟩
    go_wp2_with fail
    refine (l1 _).mono ?_
    rintro _ w3 ⟨rfl, hb3⟩
    go_wp2_with fail
    refine (l2 _).mono ?_
    rintro _ w4 ⟨rfl, hb4⟩
    go_wp2_with fail
    refine (l3 _).mono ?_
    rintro _ w5 ⟨rfl, hb5⟩
    go_wp2
    go_ret
    exact ⟨rfl, frame (frame (frame (frame (frame hb0 hb1) hb2) hb3) hb4) hb5⟩
  · have e2 : decide (0 ≤ c) = false := by simpa using hc
    have e3 : decide (d < 0) = false := by simpa using hd
    go_enter Try.func8, Try.ntmps8
    go_wp2_with fail
    refine (awake_any _).mono ?_
    rintro _ w0 ⟨rfl, hb0⟩
    go_wp2_with fail
    refine (P1 _).out.mono ?_
    rintro _ w1 ⟨rfl, hb1⟩
    go_wp2_with fail
    refine (P2 _).out.mono ?_
    rintro _ w2 ⟨rfl, hb2⟩
    go_wp2_with fail
    refine (l1 _).mono ?_
    rintro _ w3 ⟨rfl, hb3⟩
    go_wp2_with fail
    refine (l2 _).mono ?_
    rintro _ w4 ⟨rfl, hb4⟩
    go_wp2_with fail
    refine (l3 _).mono ?_
    rintro _ w5 ⟨rfl, hb5⟩
    go_wp2_with fail
    refine (hb _).mono ?_
    rintro _ _ ⟨rfl, rfl⟩
    go_wp2
    go_ret
    exact ⟨rfl, frame (frame (frame (frame (frame hb0 hb1) hb2) hb3) hb4) hb5⟩

set_option maxHeartbeats 800000 in
theorem long (s t o : ByteArray) (h : ¬ (s.size ≤ 9000 ∧ t.size ≤ 9000 ∧ o.size ≤ 9000)) (w : World) :
    Calls Try.prog 8 #[.string s, .string t, .string o] w fun e w' => e = .returned (.bool true) ∧ Below w.heap.size w w' := by
  by_cases h1 : s.size ≤ 9000
  · have d1 : decide ((9000 : Int) < (s.size : Int)) = false := by simp; omega
    by_cases h2 : t.size ≤ 9000
    · have d2 : decide ((9000 : Int) < (t.size : Int)) = false := by simp; omega
      have d3 : decide ((9000 : Int) < (o.size : Int)) = true := by simp; omega
      clear h
      go_enter Try.func8, Try.ntmps8
      go_wp2_with fail
      refine (awake_any _).mono ?_
      rintro _ w0 ⟨rfl, hb0⟩
      go_wp2
      go_ret
      exact ⟨rfl, hb0⟩
    · have d2 : decide ((9000 : Int) < (t.size : Int)) = true := by simp; omega
      clear h
      go_enter Try.func8, Try.ntmps8
      go_wp2_with fail
      refine (awake_any _).mono ?_
      rintro _ w0 ⟨rfl, hb0⟩
      go_wp2
      go_ret
      exact ⟨rfl, hb0⟩
  · have d1 : decide ((9000 : Int) < (s.size : Int)) = true := by simp; omega
    clear h
    go_enter Try.func8, Try.ntmps8
    go_wp2_with fail
    refine (awake_any _).mono ?_
    rintro _ w0 ⟨rfl, hb0⟩
    go_wp2
    go_ret
    exact ⟨rfl, hb0⟩

theorem any (s t o : ByteArray) (w : World) :
    Calls Try.prog 8 #[.string s, .string t, .string o] w fun e w' => e = .returned (.bool true) ∧ Below w.heap.size w w' := by
  by_cases h : s.size ≤ 9000 ∧ t.size ≤ 9000 ∧ o.size ≤ 9000
  · obtain ⟨n, hn⟩ := stem_exists s
    cases n with
    | zero => exact good_none s t o h.1 h.2.1 h.2.2 hn w
    | succ q => exact good_some s t o h.1 h.2.1 h.2.2 q hn w
  · exact long s t o h w

theorem own : ownKnob Try.prog.godebug = none := by kernel_rfl

set_option maxRecDepth 100000 in
theorem lifted (os : Os) (started : os.Started) (H : Type) (enc : TypeId × Value → H) :
    ReturnsInHanded {} Try.checked os 8 .any (Rows.fieldAfterSpec.pre6 enc Try.prog Try.f8 Rows.fieldAfterRow.domain false) (Rows.fieldAfterSpec.post enc Try.prog Try.f8 false true false false) := by
  refine returnsInHanded_of_change (C := Try.checked) own started (by kernel_rfl) Try.func8
    (ChangeSpec.witness6 (enc := enc) (C := Try.checked) false ⟨#[], #[.string .empty, .string .empty, .string .empty], []⟩ 8 (by kernel_rfl) (by kernel_rfl) (by kernel_rfl) (by kernel_rfl)) ?_
  intro W base args ds gs before hval0 hW hcnd _
  have hval : ∀ (j : Nat) t v, Try.f8.params[j]? = some t → args[j]? = some v → Value.okWide Try.prog W .any base t v := hval0
  have hW' := hW
  obtain ⟨p, q, hA0, hV, rfl, hfz, hnd⟩ := hW
  have hA : DataW.TrodAll enc Try.prog W 0 (fun _ => true) true Try.f8.params.toList args.toList ds p := hA0
  rw [Try.params8] at hA hval
  obtain ⟨v0, vs0, d0, ds0, p0, q0, hargs, rfl, rfl, h0, r0⟩ := trodAll_cons hA
  obtain ⟨v1, vs1, d1, ds1, p1, q1, rfl, rfl, rfl, h1, r1⟩ := trodAll_cons r0
  obtain ⟨v2, vs2, d2, ds2, p2, q2, rfl, rfl, rfl, h2, r2⟩ := trodAll_cons r1
  obtain ⟨rfl, rfl, rfl⟩ := trodAll_nil r2
  obtain rfl : args = #[v0, v1, v2] := by cases args; simp_all
  obtain ⟨rfl, rfl⟩ := trodVars_none hV
  obtain ⟨s, rfl, rfl, rfl, hs⟩ := open_string Try.underlying9 (hval 0 9 v0 rfl rfl) h0
  obtain ⟨t, rfl, rfl, rfl, ht⟩ := open_string Try.underlying9 (hval 1 9 v1 rfl rfl) h1
  obtain ⟨l, rfl, rfl, rfl, hl⟩ := open_string Try.underlying9 (hval 2 9 v2 rfl rfl) h2
  clear hA0 hval0
  simp only [List.append_nil] at hW'
  refine (any s t l W).mono fun e W' ⟨he, hb⟩ => ?_
  subst he
  exact ⟨_, rfl, post_old hW' hb (fun _ _ _ => trodAll_cons_mk (shut_bool Try.underlying4 _) trodAll_mk0)
    (fun _ _ => trodAll_cons_mk (shut_string Try.underlying9 hs) (trodAll_cons_mk (shut_string Try.underlying9 ht) (trodAll_cons_mk (shut_string Try.underlying9 hl) trodAll_mk0)))
    (fun _ => rfl) (ok_one (by kernel_rfl) rfl (okWide_bool_mk Try.underlying4 _))⟩
end FieldAfter

theorem fieldAfter_holds : Rows.FieldAfterSaid :=
  OpenClaim.holds_of_wide 8 Try.f8 rfl rfl rfl rfl rfl rfl rfl ⟨rfl, rfl, rfl, rfl, rfl⟩ rfl rfl rfl rfl rfl (by kernel_rfl) Try.func8 (by kernel_rfl)
    (of_decide_eq_true (by kernel_rfl)) (by unfold Func.isWrapper; first | (rw [if_pos (by decide +kernel)]; kernel_rfl) | (rw [if_neg (by decide +kernel)]; exact ⟨rfl, rfl⟩))
    (fun os started H enc _ => FieldAfter.lifted os started H enc)
end Go.Proofs.Ytkbhjpgadhbakaa
