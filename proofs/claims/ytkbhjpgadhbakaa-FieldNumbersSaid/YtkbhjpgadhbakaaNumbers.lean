/-
  FieldNumbers (P1.1): for every text s, number n, size and place the statement's function returns true, and each argument reads behind the call as it read before. No conditions but the statement's own.
-/
import Derived.Test.YtkbhjpgadhbakaaRows
import Derived.Test.YtkbhjpgadhbakaaAwake
import Derived.ProofKit
import Derived.OpenShut
import Derived.Test.YtkbhjpgadhbakaaPost
namespace Go.Proofs.Ytkbhjpgadhbakaa
open Go.ChangeShapes Go.WideShapes Go.ChangeAt Go.RowKit
open Go.ChangeMaps (open_string shut_string)

def TakeGives (f : FuncId) (s : ByteArray) (a k : Int) (v : Nat) (e : Int) : Prop :=
  ∀ w, Calls Try.prog f #[.string s, .int .i64 a, .int .i64 k] w fun r w' => r = .returned (.tuple #[.int .u64 v, .int .i64 e]) ∧ w = w'
theorem take_both (s : ByteArray) (hs : s.size ≤ 1048576) (a k : Int) (h9 : a ≤ 9223372036854775807) : ∃ v e, TakeGives 12 s a k v e ∧ TakeGives 13 s a k v e := by
  by_cases hk : 1 ≤ k ∧ k ≤ 8
  · by_cases h0 : a < 0
    · exact ⟨0, 1, fun w => take_neg s a k hk h0 w, fun w => rtake_neg s a k hk h0 w⟩
    · by_cases h2 : (s.size : Int) < a + k
      · exact ⟨0, 3, fun w => take_short s hs a k hk (by omega) h9 h2 w, fun w => rtake_short s hs a k hk (by omega) h9 h2 w⟩
      · obtain ⟨a, rfl⟩ := Int.eq_ofNat_of_zero_le (show 0 ≤ a by omega)
        obtain ⟨k, rfl⟩ := Int.eq_ofNat_of_zero_le (show 0 ≤ k by omega)
        exact ⟨_, 0, fun w => take_ok s hs a k (by omega) (by omega) (by omega) w, fun w => rtake_ok s hs a k (by omega) (by omega) (by omega) w⟩
  · exact ⟨0, 1, fun w => take_bad s a k hk w, fun w => rtake_bad s a k hk w⟩

theorem put_read (s : ByteArray) (n k : Nat) (hn : n < 2 ^ (8 * k)) :
    beN (((⟨(s.data.toList ++ beB n k 0).toArray⟩ : ByteArray).data.toList.drop s.size).take k) = n := by
  have hl : s.data.toList.length = s.size := by rw [Array.length_toList]; rfl
  have : (⟨(s.data.toList ++ beB n k 0).toArray⟩ : ByteArray).data.toList = s.data.toList ++ beB n k 0 := by simp
  rw [this, ← hl, List.drop_left, List.take_of_length_le (by rw [beB_length]; omega), beN_beB n k 0 (by omega) hn]
  simp

set_option maxHeartbeats 800000 in
theorem numbers_ok (s : ByteArray) (hs : s.size ≤ 9000) (n k : Nat) (hk : 1 ≤ k) (hk8 : k ≤ 8) (hn : n < 2 ^ (8 * k)) (a : Int) (h9 : a ≤ 9223372036854775807) (w : World) :
    Calls Try.prog 3 #[.string s, .int .u64 n, .int .i64 k, .int .i64 a] w fun e w' => e = .returned (.bool true) ∧ Below w.heap.size w w' := by
  obtain ⟨v, e, t1, t2⟩ := take_both s (by omega) a k h9
  have p1 := fun w => Lib.hid (put_ok s n k (by omega) hn hk hk8 w)
  have p2 := fun w => Lib.hid (rput_ok s n k (by omega) hn hk hk8 w)
  have hr := put_read s n k hn
  have hsz : (⟨(s.data.toList ++ beB n k 0).toArray⟩ : ByteArray).size = s.size + k := by
    rw [ByteArray.size_mk', List.size_toArray, List.length_append, beB_length, Array.length_toList]; rfl
  have t3 := fun w => take_ok ⟨(s.data.toList ++ beB n k 0).toArray⟩ (by omega) s.size k hk hk8 (by omega) w
  rw [hr] at t3
  have T3 := fun w => Lib.hid (t3 w)
  clear t3 hr hsz
  have hd : decide ((9000 : Int) < (s.size : Int)) = false := by simp; omega
  go_enter Try.func3, Try.ntmps3
  go_wp2_with fail
  refine (awake_any _).mono ?_
  rintro _ w0 ⟨rfl, hb0⟩
  go_wp2_with fail
  refine (p1 _).out.mono ?_
  rintro _ w1 ⟨rfl, hb1⟩
  go_wp2_with fail
  refine (p2 _).out.mono ?_
  rintro _ w2 ⟨rfl, hb2⟩
  go_wp2_with fail
  refine (t1 _).mono ?_
  rintro _ _ ⟨rfl, rfl⟩
  go_wp2_with fail
  refine (t2 _).mono ?_
  rintro _ _ ⟨rfl, rfl⟩
  go_wp2_with fail
  refine (T3 _).out.mono ?_
  rintro _ _ ⟨rfl, rfl⟩
  go_wp2
  go_ret
  exact ⟨rfl, (hb0.trans (hb1.mono hb0.size)).trans (hb2.mono (Nat.le_trans hb0.size hb1.size))⟩

def PutErrs (f : FuncId) (s : ByteArray) (n : Nat) (k : Int) : Prop :=
  ∀ w, Calls Try.prog f #[.string s, .int .u64 n, .int .i64 k] w fun r w' => r = .returned (.tuple #[.string ⟨#[]⟩, .int .i64 1]) ∧ Below w.heap.size w w'
theorem put_errs (s : ByteArray) (n : Nat) (hn : n < 2 ^ 64) (k : Int) (h : ¬ (∃ j : Nat, k = j ∧ 1 ≤ j ∧ j ≤ 8 ∧ n < 2 ^ (8 * j))) : PutErrs 10 s n k ∧ PutErrs 11 s n k := by
  by_cases hk : 1 ≤ k ∧ k ≤ 8
  · obtain ⟨j, rfl⟩ := Int.eq_ofNat_of_zero_le (show 0 ≤ k by omega)
    have hj : ¬ n < 2 ^ (8 * j) := fun hh => h ⟨j, rfl, by omega, by omega, hh⟩
    exact ⟨fun w => (put_great s n j (by omega) (by omega) hj w).mono fun _ _ ⟨h1, h2⟩ => ⟨h1, h2 ▸ Below.refl _ _⟩, fun w => rput_great s n j hj hn (by omega) (by omega) w⟩
  · exact ⟨fun w => (put_bad s n k hk w).mono fun _ _ ⟨h1, h2⟩ => ⟨h1, h2 ▸ Below.refl _ _⟩, fun w => (rput_bad s n k hk w).mono fun _ _ ⟨h1, h2⟩ => ⟨h1, h2 ▸ Below.refl _ _⟩⟩

set_option maxHeartbeats 800000 in
theorem numbers_errs (s : ByteArray) (hs : s.size ≤ 9000) (n : Nat) (hn : n < 2 ^ 64) (k : Int) (h : ¬ (∃ j : Nat, k = j ∧ 1 ≤ j ∧ j ≤ 8 ∧ n < 2 ^ (8 * j))) (a : Int) (h9 : a ≤ 9223372036854775807) (w : World) :
    Calls Try.prog 3 #[.string s, .int .u64 n, .int .i64 k, .int .i64 a] w fun e w' => e = .returned (.bool true) ∧ Below w.heap.size w w' := by
  obtain ⟨v, e, t1, t2⟩ := take_both s (by omega) a k h9
  obtain ⟨p1, p2⟩ := put_errs s n hn k h
  clear hn h
  have hd : decide ((9000 : Int) < (s.size : Int)) = false := by simp; omega
  go_enter Try.func3, Try.ntmps3
  go_wp2_with fail
  refine (awake_any _).mono ?_
  rintro _ w0 ⟨rfl, hb0⟩
  go_wp2_with fail
  refine (p1 _).mono ?_
  rintro _ w1 ⟨rfl, hb1⟩
  go_wp2_with fail
  refine (p2 _).mono ?_
  rintro _ w2 ⟨rfl, hb2⟩
  go_wp2_with fail
  refine (t1 _).mono ?_
  rintro _ _ ⟨rfl, rfl⟩
  go_wp2_with fail
  refine (t2 _).mono ?_
  rintro _ _ ⟨rfl, rfl⟩
  go_wp2
  go_ret
  exact ⟨rfl, (hb0.trans (hb1.mono hb0.size)).trans (hb2.mono (Nat.le_trans hb0.size hb1.size))⟩

theorem numbers_long (s : ByteArray) (hs : 9000 < s.size) (n : Nat) (k : Int) (a : Int) (w : World) :
    Calls Try.prog 3 #[.string s, .int .u64 n, .int .i64 k, .int .i64 a] w fun e w' => e = .returned (.bool true) ∧ Below w.heap.size w w' := by
  have hd : decide ((9000 : Int) < (s.size : Int)) = true := by simp; omega
  go_enter Try.func3, Try.ntmps3
  go_wp2_with fail
  refine (awake_any _).mono ?_
  rintro _ w0 ⟨rfl, hb0⟩
  go_wp2
  go_ret
  exact ⟨rfl, hb0⟩

theorem numbers_any (s : ByteArray) (n : Int) (hn0 : 0 ≤ n) (hn : n < 2 ^ 64) (k a : Int) (h9 : a ≤ 9223372036854775807) (w : World) :
    Calls Try.prog 3 #[.string s, .int .u64 n, .int .i64 k, .int .i64 a] w fun e w' => e = .returned (.bool true) ∧ Below w.heap.size w w' := by
  obtain ⟨n, rfl⟩ := Int.eq_ofNat_of_zero_le hn0
  by_cases hs : 9000 < s.size
  · exact numbers_long s hs n k a w
  · by_cases h : ∃ j : Nat, k = j ∧ 1 ≤ j ∧ j ≤ 8 ∧ n < 2 ^ (8 * j)
    · obtain ⟨j, rfl, h1, h8, hj⟩ := h
      exact numbers_ok s (by omega) n j h1 h8 hj a h9 w
    · exact numbers_errs s (by omega) n (by omega) k h a h9 w

theorem own : ownKnob Try.prog.godebug = none := by kernel_rfl

set_option maxRecDepth 100000 in
theorem fieldNumbers_lifted (os : Os) (started : os.Started) (H : Type) (enc : TypeId × Value → H) :
    ReturnsInHanded {} Try.checked os 3 .any (Rows.fieldNumbersSpec.pre6 enc Try.prog Try.f3 Rows.fieldNumbersRow.domain false) (Rows.fieldNumbersSpec.post enc Try.prog Try.f3 false true false false) := by
  refine returnsInHanded_of_change (C := Try.checked) own started (by kernel_rfl) Try.func3
    (ChangeSpec.witness6 (enc := enc) (C := Try.checked) false ⟨#[], #[.string .empty, .int .u64 0, .int .i64 0, .int .i64 0], []⟩ 8 (by kernel_rfl) (by kernel_rfl) (by kernel_rfl) (by kernel_rfl)) ?_
  intro W base args ds gs before hval0 hW hcnd _
  have hval : ∀ (j : Nat) t v, Try.f3.params[j]? = some t → args[j]? = some v → Value.okWide Try.prog W .any base t v := hval0
  have hW' := hW
  obtain ⟨p, q, hA0, hV, rfl, hfz, hnd⟩ := hW
  have hA : DataW.TrodAll enc Try.prog W 0 (fun _ => true) true Try.f3.params.toList args.toList ds p := hA0
  rw [Try.params3] at hA hval
  obtain ⟨v0, vs0, d0, ds0, p0, q0, hargs, rfl, rfl, h0, r0⟩ := trodAll_cons hA
  obtain ⟨v1, vs1, d1, ds1, p1, q1, rfl, rfl, rfl, h1, r1⟩ := trodAll_cons r0
  obtain ⟨v2, vs2, d2, ds2, p2, q2, rfl, rfl, rfl, h2, r2⟩ := trodAll_cons r1
  obtain ⟨v3, vs3, d3, ds3, p3, q3, rfl, rfl, rfl, h3, r3⟩ := trodAll_cons r2
  obtain ⟨rfl, rfl, rfl⟩ := trodAll_nil r3
  obtain rfl : args = #[v0, v1, v2, v3] := by cases args; simp_all
  obtain ⟨rfl, rfl⟩ := trodVars_none hV
  obtain ⟨s, rfl, rfl, rfl, hs⟩ := open_string Try.underlying9 (hval 0 9 v0 rfl rfl) h0
  obtain ⟨n, rfl, rfl, rfl, wn⟩ := open_int Try.underlying22 (hval 1 22 v1 rfl rfl) h1
  obtain ⟨k, rfl, rfl, rfl, wk⟩ := open_int Try.underlying3 (hval 2 3 v2 rfl rfl) h2
  obtain ⟨a, rfl, rfl, rfl, wa⟩ := open_int Try.underlying3 (hval 3 3 v3 rfl rfl) h3
  clear hA0 hval0
  simp only [List.append_nil] at hW'
  have bn := bounds_u64 wn
  have ba := bounds_i64 wa
  refine (numbers_any s n bn.1 (by omega) k a ba.2 W).mono fun e W' ⟨he, hb⟩ => ?_
  subst he
  exact ⟨_, rfl, post_old hW' hb (fun _ _ _ => trodAll_cons_mk (shut_bool Try.underlying4 _) trodAll_mk0)
    (fun _ _ => trodAll_cons_mk (shut_string Try.underlying9 hs) (trodAll_cons_mk (shut_int Try.underlying22 wn) (trodAll_cons_mk (shut_int Try.underlying3 wk) (trodAll_cons_mk (shut_int Try.underlying3 wa) trodAll_mk0))))
    (fun _ => rfl) (ok_one (by kernel_rfl) rfl (okWide_bool_mk Try.underlying4 _))⟩

theorem fieldNumbers_holds : Rows.FieldNumbersSaid :=
  OpenClaim.holds_of_wide 3 Try.f3 rfl rfl rfl rfl rfl rfl rfl ⟨rfl, rfl, rfl, rfl, rfl⟩ rfl rfl rfl rfl rfl (by kernel_rfl) Try.func3 (by kernel_rfl)
    (of_decide_eq_true (by kernel_rfl)) (by unfold Func.isWrapper; first | (rw [if_pos (by decide +kernel)]; kernel_rfl) | (rw [if_neg (by decide +kernel)]; exact ⟨rfl, rfl⟩))
    (fun os started H enc _ => fieldNumbers_lifted os started H enc)
end Go.Proofs.Ytkbhjpgadhbakaa
