/-
  FieldTexts (P1.2): for all texts s, t and tail and every place the statement's function returns true, and each argument reads behind the call as it read before. No conditions but the statement's own.
-/
import Derived.Test.YtkbhjpgadhbakaaRows
import Derived.Test.YtkbhjpgadhbakaaAwake
import Derived.Test.YtkbhjpgadhbakaaTexts1
import Derived.Test.YtkbhjpgadhbakaaPost
import Derived.ProofKit
import Derived.OpenShut
namespace Go.Proofs.Ytkbhjpgadhbakaa
namespace FieldTexts
open Go.ChangeShapes Go.WideShapes Go.ChangeAt Go.RowKit
open Go.ChangeMaps (open_string shut_string)

def Gives (f : FuncId) (s : ByteArray) (a : Int) (u : ByteArray) (p e : Int) : Prop :=
  ∀ w, Calls Try.prog f #[.string s, .int .i64 a] w fun r w' => r = .returned (.tuple #[.string u, .int .i64 p, .int .i64 e]) ∧ Below w.heap.size w w'
theorem same_below {P : Program} {f : FuncId} {args : Array Value} {w : World} {v : Value} (h : Calls P f args w fun r w' => r = .returned v ∧ w = w') : Calls P f args w fun r w' => r = .returned v ∧ Below w.heap.size w w' :=
  h.mono fun _ _ ⟨h1, h2⟩ => ⟨h1, h2 ▸ Below.refl _ _⟩
theorem both (s : ByteArray) (hs : s.size ≤ 1048576) (a : Int) (h9 : a ≤ 9223372036854775807) : ∃ u p e, Gives 16 s a u p e ∧ Gives 17 s a u p e := by
  by_cases h0 : a < 0
  · exact ⟨_, _, _, fun w => same_below (tt_neg s a h0 w), fun w => same_below (rtt_neg s a h0 w)⟩
  · by_cases h2 : (s.size : Int) < a + 2
    · exact ⟨_, _, _, fun w => same_below (tt_short2 s hs a (by omega) h9 h2 w), fun w => same_below (rtt_short2 s hs a (by omega) h9 h2 w)⟩
    · obtain ⟨a, rfl⟩ := Int.eq_ofNat_of_zero_le (show 0 ≤ a by omega)
      by_cases h3 : s.size < a + 2 + beN ((s.data.toList.drop a).take 2)
      · exact ⟨_, _, _, fun w => same_below (tt_short s hs a _ (by omega) rfl (two_lt _) h3 w), rtt_short s hs a _ (by omega) rfl (two_lt _) h3⟩
      · exact ⟨_, _, _, fun w => same_below (tt_ok s hs a _ (by omega) rfl (two_lt _) (by omega) w), rtt_ok s hs a _ (by omega) rfl (two_lt _) (by omega)⟩

theorem laid (s t tail : ByteArray) (hs : s.size ≤ 9000) (ht : t.size ≤ 65535) (hl : tail.size ≤ 9000) : ∃ X : ByteArray, X.size = s.size + 2 + t.size ∧
    (∀ w, Calls Try.prog 14 #[.string s, .string t] w fun e w' => e = .returned (.tuple #[.string X, .int .i64 0]) ∧ Below w.heap.size w w') ∧
    (∀ w, Calls Try.prog 15 #[.string s, .string t] w fun e w' => e = .returned (.tuple #[.string X, .int .i64 0]) ∧ Below w.heap.size w w') ∧
    (∀ w, Calls Try.prog 16 #[.string (X ++ tail), .int .i64 s.size] w fun e w' => e = .returned (.tuple #[.string t, .int .i64 X.size, .int .i64 0]) ∧ w = w') := by
  have hsl : s.data.toList.length = s.size := by rw [Array.length_toList]; rfl
  have htl : t.data.toList.length = t.size := by rw [Array.length_toList]; rfl
  have hbl := beB_length t.size 2 0
  have hX : (⟨(s.data.toList ++ beB t.size 2 0 ++ t.data.toList).toArray⟩ : ByteArray).size = s.size + 2 + t.size := by
    rw [ByteArray.size_mk', List.size_toArray]
    simp only [List.length_append]
    omega
  refine ⟨⟨(s.data.toList ++ beB t.size 2 0 ++ t.data.toList).toArray⟩, hX, text_ok s t (by omega) ht, rtext_ok s t (by omega) ht, ?_⟩
  intro w
  have hd : ((⟨(s.data.toList ++ beB t.size 2 0 ++ t.data.toList).toArray⟩ : ByteArray) ++ tail).data.toList = s.data.toList ++ (beB t.size 2 0 ++ (t.data.toList ++ tail.data.toList)) := by
    rw [ByteArray.data_append]
    simp
  have hsz : ((⟨(s.data.toList ++ beB t.size 2 0 ++ t.data.toList).toArray⟩ : ByteArray) ++ tail).size = s.size + 2 + t.size + tail.size := by
    rw [ByteArray.size_append, hX]
  have h := tt_ok ((⟨(s.data.toList ++ beB t.size 2 0 ++ t.data.toList).toArray⟩ : ByteArray) ++ tail) (by omega) s.size t.size (by omega)
    (by rw [hd, ← hsl, List.drop_left, List.take_left' (by omega), beN_beB _ _ _ (by omega) (by omega)]; simp) (by omega) (by omega) w
  rw [hd] at h
  have e : s.data.toList ++ (beB t.size 2 0 ++ (t.data.toList ++ tail.data.toList)) = (s.data.toList ++ beB t.size 2 0) ++ (t.data.toList ++ tail.data.toList) := by simp
  rw [e, List.drop_left' (by rw [List.length_append]; omega), List.take_left' htl, str_data] at h
  rw [hX]
  exact h

set_option maxHeartbeats 800000 in
theorem good (s t tail : ByteArray) (hs : s.size ≤ 9000) (ht : t.size ≤ 65535) (hl : tail.size ≤ 9000) (a : Int) (h9 : a ≤ 9223372036854775807) (w : World) :
    Calls Try.prog 4 #[.string s, .string t, .string tail, .int .i64 a] w fun e w' => e = .returned (.bool true) ∧ Below w.heap.size w w' := by
  obtain ⟨u, p, e, t1, t2⟩ := both s (by omega) a h9
  obtain ⟨X, hX, p1, p2, p3⟩ := laid s t tail hs ht hl
  have P1 := fun w => Lib.hid (p1 w)
  have P2 := fun w => Lib.hid (p2 w)
  have P3 := fun w => Lib.hid (p3 w)
  have hsum : X.size + tail.size ≤ 9223372036854775807 := by omega
  clear p1 p2 p3 hX
  have d1 : decide ((9000 : Int) < (s.size : Int)) = false := by simp; omega
  have d2 : decide ((70000 : Int) < (t.size : Int)) = false := by simp; omega
  have d3 : decide ((9000 : Int) < (tail.size : Int)) = false := by simp; omega
  go_enter Try.func4, Try.ntmps4
  go_wp2_with fail
  refine (awake_any _).mono ?_
  rintro _ w0 ⟨rfl, hb0⟩
  go_wp2_with fail
  refine (P1 _).out.mono ?_
  rintro _ w1 ⟨rfl, hb1⟩
  go_wp2_with fail
  refine (P2 _).out.mono ?_
  rintro _ w2 ⟨rfl, hb2⟩
  go_wp2_with fail
  refine (t1 _).mono ?_
  rintro _ w3 ⟨rfl, hb3⟩
  go_wp2_with fail
  refine (t2 _).mono ?_
  rintro _ w4 ⟨rfl, hb4⟩
  go_wp2_with fail
  refine (P3 _).out.mono ?_
  rintro _ _ ⟨rfl, rfl⟩
  go_wp2
  go_ret
  have b1 := hb0.trans (hb1.mono hb0.size)
  have b2 := b1.trans (hb2.mono b1.size)
  have b3 := b2.trans (hb3.mono b2.size)
  exact ⟨rfl, b3.trans (hb4.mono b3.size)⟩

set_option maxHeartbeats 800000 in
theorem great (s t tail : ByteArray) (hs : s.size ≤ 9000) (ht : 65535 < t.size) (ht7 : t.size ≤ 70000) (hl : tail.size ≤ 9000) (a : Int) (h9 : a ≤ 9223372036854775807) (w : World) :
    Calls Try.prog 4 #[.string s, .string t, .string tail, .int .i64 a] w fun e w' => e = .returned (.bool true) ∧ Below w.heap.size w w' := by
  obtain ⟨u, p, e, t1, t2⟩ := both s (by omega) a h9
  have d1 : decide ((9000 : Int) < (s.size : Int)) = false := by simp; omega
  have d2 : decide ((70000 : Int) < (t.size : Int)) = false := by simp; omega
  have d3 : decide ((9000 : Int) < (tail.size : Int)) = false := by simp; omega
  have d4 : decide ((65535 : Int) < (t.size : Int)) = true := by simp; omega
  go_enter Try.func4, Try.ntmps4
  go_wp2_with fail
  refine (awake_any _).mono ?_
  rintro _ w0 ⟨rfl, hb0⟩
  go_wp2_with fail
  refine (text_long s t ht _).mono ?_
  rintro _ _ ⟨rfl, rfl⟩
  go_wp2_with fail
  refine (rtext_long s t ht _).mono ?_
  rintro _ _ ⟨rfl, rfl⟩
  go_wp2_with fail
  refine (t1 _).mono ?_
  rintro _ w3 ⟨rfl, hb3⟩
  go_wp2_with fail
  refine (t2 _).mono ?_
  rintro _ w4 ⟨rfl, hb4⟩
  go_wp2
  go_ret
  have b3 := hb0.trans (hb3.mono hb0.size)
  exact ⟨rfl, b3.trans (hb4.mono b3.size)⟩

set_option maxHeartbeats 800000 in
theorem long (s t tail : ByteArray) (h : ¬ (s.size ≤ 9000 ∧ t.size ≤ 70000 ∧ tail.size ≤ 9000)) (a : Int) (w : World) :
    Calls Try.prog 4 #[.string s, .string t, .string tail, .int .i64 a] w fun e w' => e = .returned (.bool true) ∧ Below w.heap.size w w' := by
  by_cases h1 : s.size ≤ 9000
  · have d1 : decide ((9000 : Int) < (s.size : Int)) = false := by simp; omega
    by_cases h2 : t.size ≤ 70000
    · have d2 : decide ((70000 : Int) < (t.size : Int)) = false := by simp; omega
      have d3 : decide ((9000 : Int) < (tail.size : Int)) = true := by simp; omega
      clear h
      go_enter Try.func4, Try.ntmps4
      go_wp2_with fail
      refine (awake_any _).mono ?_
      rintro _ w0 ⟨rfl, hb0⟩
      go_wp2
      go_ret
      exact ⟨rfl, hb0⟩
    · have d2 : decide ((70000 : Int) < (t.size : Int)) = true := by simp; omega
      clear h
      go_enter Try.func4, Try.ntmps4
      go_wp2_with fail
      refine (awake_any _).mono ?_
      rintro _ w0 ⟨rfl, hb0⟩
      go_wp2
      go_ret
      exact ⟨rfl, hb0⟩
  · have d1 : decide ((9000 : Int) < (s.size : Int)) = true := by simp; omega
    clear h
    go_enter Try.func4, Try.ntmps4
    go_wp2_with fail
    refine (awake_any _).mono ?_
    rintro _ w0 ⟨rfl, hb0⟩
    go_wp2
    go_ret
    exact ⟨rfl, hb0⟩

theorem any (s t tail : ByteArray) (a : Int) (h9 : a ≤ 9223372036854775807) (w : World) :
    Calls Try.prog 4 #[.string s, .string t, .string tail, .int .i64 a] w fun e w' => e = .returned (.bool true) ∧ Below w.heap.size w w' := by
  by_cases h : s.size ≤ 9000 ∧ t.size ≤ 70000 ∧ tail.size ≤ 9000
  · by_cases ht : t.size ≤ 65535
    · exact good s t tail h.1 ht h.2.2 a h9 w
    · exact great s t tail h.1 (by omega) h.2.1 h.2.2 a h9 w
  · exact long s t tail h a w

theorem own : ownKnob Try.prog.godebug = none := by kernel_rfl

set_option maxRecDepth 100000 in
theorem lifted (os : Os) (started : os.Started) (H : Type) (enc : TypeId × Value → H) :
    ReturnsInHanded {} Try.checked os 4 .any (Rows.fieldTextsSpec.pre6 enc Try.prog Try.f4 Rows.fieldTextsRow.domain false) (Rows.fieldTextsSpec.post enc Try.prog Try.f4 false true false false) := by
  refine returnsInHanded_of_change (C := Try.checked) own started (by kernel_rfl) Try.func4
    (ChangeSpec.witness6 (enc := enc) (C := Try.checked) false ⟨#[], #[.string .empty, .string .empty, .string .empty, .int .i64 0], []⟩ 8 (by kernel_rfl) (by kernel_rfl) (by kernel_rfl) (by kernel_rfl)) ?_
  intro W base args ds gs before hval0 hW hcnd _
  have hval : ∀ (j : Nat) t v, Try.f4.params[j]? = some t → args[j]? = some v → Value.okWide Try.prog W .any base t v := hval0
  have hW' := hW
  obtain ⟨p, q, hA0, hV, rfl, hfz, hnd⟩ := hW
  have hA : DataW.TrodAll enc Try.prog W 0 (fun _ => true) true Try.f4.params.toList args.toList ds p := hA0
  rw [Try.params4] at hA hval
  obtain ⟨v0, vs0, d0, ds0, p0, q0, hargs, rfl, rfl, h0, r0⟩ := trodAll_cons hA
  obtain ⟨v1, vs1, d1, ds1, p1, q1, rfl, rfl, rfl, h1, r1⟩ := trodAll_cons r0
  obtain ⟨v2, vs2, d2, ds2, p2, q2, rfl, rfl, rfl, h2, r2⟩ := trodAll_cons r1
  obtain ⟨v3, vs3, d3, ds3, p3, q3, rfl, rfl, rfl, h3, r3⟩ := trodAll_cons r2
  obtain ⟨rfl, rfl, rfl⟩ := trodAll_nil r3
  obtain rfl : args = #[v0, v1, v2, v3] := by cases args; simp_all
  obtain ⟨rfl, rfl⟩ := trodVars_none hV
  obtain ⟨s, rfl, rfl, rfl, hs⟩ := open_string Try.underlying9 (hval 0 9 v0 rfl rfl) h0
  obtain ⟨t, rfl, rfl, rfl, ht⟩ := open_string Try.underlying9 (hval 1 9 v1 rfl rfl) h1
  obtain ⟨l, rfl, rfl, rfl, hl⟩ := open_string Try.underlying9 (hval 2 9 v2 rfl rfl) h2
  obtain ⟨a, rfl, rfl, rfl, wa⟩ := open_int Try.underlying3 (hval 3 3 v3 rfl rfl) h3
  clear hA0 hval0
  simp only [List.append_nil] at hW'
  have ba := bounds_i64 wa
  refine (any s t l a ba.2 W).mono fun e W' ⟨he, hb⟩ => ?_
  subst he
  exact ⟨_, rfl, post_old hW' hb (fun _ _ _ => trodAll_cons_mk (shut_bool Try.underlying4 _) trodAll_mk0)
    (fun _ _ => trodAll_cons_mk (shut_string Try.underlying9 hs) (trodAll_cons_mk (shut_string Try.underlying9 ht) (trodAll_cons_mk (shut_string Try.underlying9 hl) (trodAll_cons_mk (shut_int Try.underlying3 wa) trodAll_mk0))))
    (fun _ => rfl) (ok_one (by kernel_rfl) rfl (okWide_bool_mk Try.underlying4 _))⟩
end FieldTexts

theorem fieldTexts_holds : Rows.FieldTextsSaid :=
  OpenClaim.holds_of_wide 4 Try.f4 rfl rfl rfl rfl rfl rfl rfl ⟨rfl, rfl, rfl, rfl, rfl⟩ rfl rfl rfl rfl rfl (by kernel_rfl) Try.func4 (by kernel_rfl)
    (of_decide_eq_true (by kernel_rfl)) (by unfold Func.isWrapper; first | (rw [if_pos (by decide +kernel)]; kernel_rfl) | (rw [if_neg (by decide +kernel)]; exact ⟨rfl, rfl⟩))
    (fun os started H enc _ => FieldTexts.lifted os started H enc)
end Go.Proofs.Ytkbhjpgadhbakaa
