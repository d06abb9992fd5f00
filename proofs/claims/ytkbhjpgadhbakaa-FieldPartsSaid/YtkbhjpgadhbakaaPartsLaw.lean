/-
  FieldParts (P1.3): for every text s the statement's function returns true, and the argument reads behind the call as it read before. No conditions but the statement's own.
-/
import Derived.Test.YtkbhjpgadhbakaaRows
import Derived.Test.YtkbhjpgadhbakaaAwake
import Derived.Test.YtkbhjpgadhbakaaParts2
import Derived.Test.YtkbhjpgadhbakaaPost
import Derived.ProofKit
import Derived.OpenShut
namespace Go.Proofs.Ytkbhjpgadhbakaa
namespace FieldParts
open Go.ChangeShapes Go.WideShapes Go.ChangeAt Go.RowKit
open Go.ChangeMaps (open_string shut_string)

theorem frame {w0 w1 w2 : World} (h1 : Below w0.heap.size w0 w1) (h2 : Below w1.heap.size w1 w2) : Below w0.heap.size w0 w2 := h1.trans (h2.mono h1.size)

set_option maxHeartbeats 800000 in
theorem yes (s : ByteArray) (hs : s.size ≤ 9000) (L : List ByteArray) (hL : Good s L) (w : World) :
    Calls Try.prog 6 #[.string s] w fun e w' => e = .returned (.bool true) ∧ Below w.heap.size w w' := by
  have d1 : decide ((9000 : Int) < (s.size : Int)) = false := by simp; omega
  have P1 := fun w => Lib.hid (parts_yes s L hL w)
  have P2 := fun w => Lib.hid (rparts_yes s L hL w)
  have hn : L.length ≤ 1048576 := by have := hL.2.1; omega
  clear hL
  go_enter Try.func6, Try.ntmps6
  go_wp2_with fail
  refine (awake_any _).mono ?_
  rintro _ w0 ⟨rfl, hb0⟩
  go_wp2_with fail
  refine (P1 _).out.mono ?_
  rintro _ w1 ⟨A, c, rfl, hA, hb1⟩
  go_wp2_with fail
  refine (P2 _).out.mono ?_
  rintro _ w2 ⟨B, d, rfl, hB, hb2⟩
  have C := Lib.hid (same_any A B L L c d w2 (hA.below hb2) hB hn)
  rw [decide_eq_true (rfl : L = L)] at C
  clear hA hB
  go_wp2_with fail
  refine C.out.mono ?_
  rintro _ w3 ⟨rfl, hb3⟩
  go_wp2
  go_ret
  exact ⟨rfl, frame (frame (frame hb0 hb1) hb2) hb3⟩
set_option maxHeartbeats 800000 in
theorem no (s : ByteArray) (hs : s.size ≤ 9000) (hL : ∀ L, ¬ Good s L) (w : World) :
    Calls Try.prog 6 #[.string s] w fun e w' => e = .returned (.bool true) ∧ Below w.heap.size w w' := by
  have d1 : decide ((9000 : Int) < (s.size : Int)) = false := by simp; omega
  have P1 := fun w => Lib.hid (parts_no s hL w)
  have P2 := fun w => Lib.hid (rparts_no s hL w)
  clear hL
  go_enter Try.func6, Try.ntmps6
  go_wp2_with fail
  refine (awake_any _).mono ?_
  rintro _ w0 ⟨rfl, hb0⟩
  go_wp2_with fail
  refine (P1 _).out.mono ?_
  rintro _ w1 ⟨rfl, hb1⟩
  go_wp2_with fail
  refine (P2 _).out.mono ?_
  rintro _ w2 ⟨rfl, hb2⟩
  go_wp2_with fail
  refine (same_none none none 0 0 _).mono ?_
  rintro _ _ ⟨rfl, rfl⟩
  go_wp2
  go_ret
  exact ⟨rfl, frame (frame hb0 hb1) hb2⟩
theorem long (s : ByteArray) (hs : 9000 < s.size) (w : World) :
    Calls Try.prog 6 #[.string s] w fun e w' => e = .returned (.bool true) ∧ Below w.heap.size w w' := by
  have d1 : decide ((9000 : Int) < (s.size : Int)) = true := by simp; omega
  go_enter Try.func6, Try.ntmps6
  go_wp2_with fail
  refine (awake_any _).mono ?_
  rintro _ w0 ⟨rfl, hb0⟩
  go_wp2
  go_ret
  exact ⟨rfl, hb0⟩
theorem any (s : ByteArray) (w : World) : Calls Try.prog 6 #[.string s] w fun e w' => e = .returned (.bool true) ∧ Below w.heap.size w w' := by
  by_cases hs : 9000 < s.size
  · exact long s hs w
  · by_cases h : ∃ L, Good s L
    · obtain ⟨L, hL⟩ := h
      exact yes s (by omega) L hL w
    · exact no s (by omega) (fun L hL => h ⟨L, hL⟩) w

theorem own : ownKnob Try.prog.godebug = none := by kernel_rfl
set_option maxRecDepth 100000 in
theorem lifted (os : Os) (started : os.Started) (H : Type) (enc : TypeId × Value → H) :
    ReturnsInHanded {} Try.checked os 6 .any (Rows.fieldPartsSpec.pre6 enc Try.prog Try.f6 Rows.fieldPartsRow.domain false) (Rows.fieldPartsSpec.post enc Try.prog Try.f6 false true false false) := by
  refine returnsInHanded_of_change (C := Try.checked) own started (by kernel_rfl) Try.func6
    (ChangeSpec.witness6 (enc := enc) (C := Try.checked) false ⟨#[], #[.string .empty], []⟩ 8 (by kernel_rfl) (by kernel_rfl) (by kernel_rfl) (by kernel_rfl)) ?_
  intro W base args ds gs before hval0 hW hcnd _
  have hval : ∀ (j : Nat) t v, Try.f6.params[j]? = some t → args[j]? = some v → Value.okWide Try.prog W .any base t v := hval0
  have hW' := hW
  obtain ⟨p, q, hA0, hV, rfl, hfz, hnd⟩ := hW
  have hA : DataW.TrodAll enc Try.prog W 0 (fun _ => true) true Try.f6.params.toList args.toList ds p := hA0
  rw [Try.params6] at hA hval
  obtain ⟨v0, vs0, d0, ds0, p0, q0, hargs, rfl, rfl, h0, r0⟩ := trodAll_cons hA
  obtain ⟨rfl, rfl, rfl⟩ := trodAll_nil r0
  obtain rfl : args = #[v0] := by cases args; simp_all
  obtain ⟨rfl, rfl⟩ := trodVars_none hV
  obtain ⟨s, rfl, rfl, rfl, hs⟩ := open_string Try.underlying9 (hval 0 9 v0 rfl rfl) h0
  clear hA0 hval0
  simp only [List.append_nil] at hW'
  refine (any s W).mono fun e W' ⟨he, hb⟩ => ?_
  subst he
  exact ⟨_, rfl, post_old hW' hb (fun _ _ _ => trodAll_cons_mk (shut_bool Try.underlying4 _) trodAll_mk0)
    (fun _ _ => trodAll_cons_mk (shut_string Try.underlying9 hs) trodAll_mk0)
    (fun _ => rfl) (ok_one (by kernel_rfl) rfl (okWide_bool_mk Try.underlying4 _))⟩
end FieldParts

theorem fieldParts_holds : Rows.FieldPartsSaid :=
  OpenClaim.holds_of_wide 6 Try.f6 rfl rfl rfl rfl rfl rfl rfl ⟨rfl, rfl, rfl, rfl, rfl⟩ rfl rfl rfl rfl rfl (by kernel_rfl) Try.func6 (by kernel_rfl)
    (of_decide_eq_true (by kernel_rfl)) (by unfold Func.isWrapper; first | (rw [if_pos (by decide +kernel)]; kernel_rfl) | (rw [if_neg (by decide +kernel)]; exact ⟨rfl, rfl⟩))
    (fun os started H enc _ => FieldParts.lifted os started H enc)
end Go.Proofs.Ytkbhjpgadhbakaa
