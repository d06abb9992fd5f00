/-
  FieldTuples (P1.3): for every list of texts the statement's function returns true, and the argument reads behind the call as it read before. No conditions but the statement's own.
-/
import Derived.Test.YtkbhjpgadhbakaaLists
import Derived.Test.YtkbhjpgadhbakaaAwake
import Derived.Test.YtkbhjpgadhbakaaTuples1
namespace Go.Proofs.Ytkbhjpgadhbakaa
namespace FieldTuples
open Go.ChangeShapes Go.WideShapes Go.ChangeAt Go.RowKit

theorem frame {w0 w1 w2 : World} (h1 : Below w0.heap.size w0 w1) (h2 : Below w1.heap.size w1 w2) : Below w0.heap.size w0 w2 := h1.trans (h2.mono h1.size)

/-- the two ways a Tuple of texts that aren't too many goes -/
theorem tupleOf_cases (L : List ByteArray) : (∃ e : Int, tupleOf L = .tuple #[.string ⟨#[]⟩, .int .i64 e] ∧ (e == 0) = false) ∨ (tupleOf L = .tuple #[.string ⟨(tup L).toArray⟩, .int .i64 0] ∧ L.length ≤ 16 ∧ (tup L).length ≤ 4096) := by
  by_cases h : 16 < L.length
  · exact .inl ⟨1, by rw [tupleOf, if_pos h], by decide⟩
  · by_cases h4 : (tup L).length ≤ 4096
    · exact .inr ⟨by rw [tupleOf, if_neg h, tupleV_ok L h4], by omega, h4⟩
    · exact .inl ⟨5, by rw [tupleOf, if_neg h, tupleV_long L (by omega)], by decide⟩

set_option maxHeartbeats 1600000 in
theorem any (A : Option Addr) (cap : Nat) (L : List ByteArray) (w : World) (hA : Reads w A L) (h63 : L.length ≤ 9223372036854775807) :
    Calls Try.prog 5 #[.slice A L.length cap] w fun e w' => e = .returned (.bool true) ∧ Below w.heap.size w w' := by
  have HA := Lib.hid hA
  clear hA
  go_enter Try.func5, Try.ntmps5
  go_wp2_with fail
  refine (awake_any _).mono ?_
  rintro _ w0 ⟨rfl, hb0⟩
  have HA0 := Lib.hid (HA.out.below hb0)
  go_wp2_with fail
  refine (long_any A cap L w0 HA0.out h63).mono ?_
  rintro _ _ ⟨b, rfl, rfl, hlong⟩
  cases b with
  | true =>
    go_wp2
    go_ret
    exact ⟨rfl, hb0⟩
  | false =>
    have hsz := (hlong rfl).2
    have h40 := (hlong rfl).1
    have C1 := Lib.hid (tuple_any A cap L w0 HA0.out)
    have C2 := fun w hA => Lib.hid (rtuple_any A cap L hsz w hA)
    clear hlong hsz
    go_wp2_with fail
    refine C1.out.mono ?_
    rintro _ w1 ⟨rfl, hb1⟩
    have HA1 := Lib.hid (HA0.out.below hb1)
    clear C1
    rcases tupleOf_cases L with ⟨e, he, he0⟩ | ⟨he, h16, h4⟩
    · rw [he] at C2 ⊢
      clear he
      have he1 : (e != 0) = true := by rw [bne, he0]; rfl
      go_wp2_with fail
      refine (C2 w1 HA1.out).out.mono ?_
      rintro _ w2 ⟨rfl, hb2⟩
      clear C2
      go_wp2
      go_ret
      exact ⟨rfl, frame (frame hb0 hb1) hb2⟩
    · rw [he] at C2 ⊢
      clear he
      have P := fun w => Lib.hid (parts_yes ⟨(tup L).toArray⟩ L (good_tup L h16 h4) w)
      clear h16 h4
      go_wp2_with fail
      refine (C2 w1 HA1.out).out.mono ?_
      rintro _ w2 ⟨rfl, hb2⟩
      have HA2 := Lib.hid (HA1.out.below hb2)
      clear C2
      go_wp2_with fail
      refine (P _).out.mono ?_
      rintro _ w3 ⟨B, d, rfl, hB, hb3⟩
      have C := Lib.hid (same_any A B L L cap d w3 (HA2.out.below hb3) hB (by omega))
      rw [decide_eq_true (rfl : L = L)] at C
      clear hB P
      go_wp2_with fail
      refine C.out.mono ?_
      rintro _ w4 ⟨rfl, hb4⟩
      go_wp2
      go_ret
      exact ⟨rfl, frame (frame (frame (frame hb0 hb1) hb2) hb3) hb4⟩

theorem own : ownKnob Try.prog.godebug = none := by kernel_rfl
set_option maxRecDepth 100000 in
theorem lifted (os : Os) (started : os.Started) (H : Type) (enc : TypeId × Value → H) :
    ReturnsInHanded {} Try.checked os 5 .any (Rows.fieldTuplesSpec.pre6 enc Try.prog Try.f5 Rows.fieldTuplesRow.domain false) (Rows.fieldTuplesSpec.post enc Try.prog Try.f5 false true false false) := by
  refine returnsInHanded_of_change (C := Try.checked) own started (by kernel_rfl) Try.func5
    (ChangeSpec.witness6 (enc := enc) (C := Try.checked) false ⟨#[], #[.slice none 0 0], []⟩ 8 (by kernel_rfl) (by kernel_rfl) (by kernel_rfl) (by kernel_rfl)) ?_
  intro W base args ds gs before hval0 hW hcnd _
  have hval : ∀ (j : Nat) t v, Try.f5.params[j]? = some t → args[j]? = some v → Value.okWide Try.prog W .any base t v := hval0
  have hW' := hW
  obtain ⟨p, q, hA0, hV, rfl, hfz, hnd⟩ := hW
  have hA : DataW.TrodAll enc Try.prog W 0 (fun _ => true) true Try.f5.params.toList args.toList ds p := hA0
  rw [Try.params5] at hA hval
  obtain ⟨v0, vs0, d0, ds0, p0, q0, hargs, rfl, rfl, h0, r0⟩ := trodAll_cons hA
  obtain ⟨rfl, rfl, rfl⟩ := trodAll_nil r0
  obtain rfl : args = #[v0] := by cases args; simp_all
  obtain ⟨rfl, rfl⟩ := trodVars_none hV
  clear hA0 hval0
  simp only [List.append_nil] at hW'
  have hlt : ∀ x ∈ p0, x.block < W.heap.size := fun x hx => by simpa using hW'.lt x hx
  obtain ⟨A, cap, L, rfl, hR, hlc, h63⟩ := open_texts (hval 0 34 v0 rfl rfl) h0 hlt
  refine (any A cap L W hR (by omega)).mono fun e W' ⟨he, hb⟩ => ?_
  subst he
  refine ⟨_, rfl, _, _, _, [], p0, [], hW', trodAll_cons_mk (shut_bool Try.underlying4 _) trodAll_mk0, ?_, rfl, hb.frame _, fun h => by cases h⟩
  exact trodAll_mk1 (Below.trod laidOut (by kernel_rfl) (of_decide_eq_true (by kernel_rfl)) h0 hb hlt)
end FieldTuples

theorem fieldTuples_holds : Rows.FieldTuplesSaid :=
  OpenClaim.holds_of_wide 5 Try.f5 rfl rfl rfl rfl rfl rfl rfl ⟨rfl, rfl, rfl, rfl, rfl⟩ rfl rfl rfl rfl rfl (by kernel_rfl) Try.func5 (by kernel_rfl)
    (of_decide_eq_true (by kernel_rfl)) (by unfold Func.isWrapper; first | (rw [if_pos (by decide +kernel)]; kernel_rfl) | (rw [if_neg (by decide +kernel)]; exact ⟨rfl, rfl⟩))
    (fun os started H enc _ => FieldTuples.lifted os started H enc)
end Go.Proofs.Ytkbhjpgadhbakaa
