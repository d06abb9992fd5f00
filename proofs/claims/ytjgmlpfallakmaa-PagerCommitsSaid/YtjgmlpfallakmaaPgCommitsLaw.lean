/-
  PagerCommits (P5.4): of any program's device and pager that meet the kits the statement holds: whatever the input the statement's function returns true, and each argument reads behind the call as it read before. No conditions but the kits.
-/
import Derived.Test.YtjgmlpfallakmaaRows
import Derived.Test.YtjgmlpfallakmaaPgCommitsW
import Derived.Test.YtjgmlpfallakmaaOpenActs
import Derived.Test.YtjgmlpfallakmaaPost
import Derived.ProofKit
import Derived.OpenShut
import Derived.Carry
namespace Go.Proofs.Ytjgmlpfallakmaa
open Go.ChangeShapes Go.WideShapes Go.ChangeAt Go.RowKit
open Go.ChangeMaps (open_string shut_string)
namespace PagerCommits
theorem own : ownKnob Try.prog.godebug = none := by kernel_rfl
theorem laidOut : laidOutB Try.prog = true := by kernel_rfl
set_option maxRecDepth 100000 in
theorem lifted (At : World → Nat → RD → List Nat → Prop) (PAt : World → Nat → Nat → PS → List Nat → Prop) (lt : ∀ {w : World} {p : Nat} {d : RD} {F : List Nat}, At w p d F → ∀ k ∈ F, k < w.heap.size)
    (tch : ∀ {w w' : World} {p : Nat} {d : RD} {F S : List Nat}, At w p d F → Touch S w w' → (∀ k ∈ S, k ∉ F) → At w' p d F) (N : HasNew At 8) (U : LandUse At) (S : HasSteps At 19) (O : HasOn At 16) (P : PgKit At PAt) (os : Os) (started : os.Started) (H : Type) (enc : TypeId × Value → H) :
    ReturnsInHanded {} Try.checked os 4 .any (Rows.pagerCommitsSpec.pre6 enc Try.prog Try.f4 Rows.pagerCommitsRow.domain false) (Rows.pagerCommitsSpec.post enc Try.prog Try.f4 false true false false) := by
  refine returnsInHanded_of_change (C := Try.checked) own started (by kernel_rfl) Try.func4
    (ChangeSpec.witness6 (enc := enc) (C := Try.checked) false ⟨#[], #[.int .i64 0, .int .i64 0, .int .i64 0, .slice none 0 0], []⟩ 8 (by kernel_rfl) (by kernel_rfl) (by kernel_rfl) (by kernel_rfl)) ?_
  intro W base args ds gs before hval0 hW hcnd _
  have hval : ∀ (j : Nat) t v, Try.f4.params[j]? = some t → args[j]? = some v → Value.okWide Try.prog W .any base t v := hval0
  have hW' := hW
  obtain ⟨p, q, hA0, hV, rfl, hfz, hnd⟩ := hW
  have hA : DataW.TrodAll enc Try.prog W 0 (fun _ => true) true Try.f4.params.toList args.toList ds p := hA0
  rw [Try.params4] at hA hval
  obtain ⟨v0, vs0, d0, ds0, p0, q0, hargs, rfl, rfl, h0, r0⟩ := trodAll_cons hA
  obtain ⟨v1, vs1, d1, ds1, p1, q1, rfl, rfl, rfl, h1, r1⟩ := trodAll_cons r0
  obtain ⟨v2, vs2, d2, ds2, p2, q2, rfl, rfl, rfl, h2, r2⟩ := trodAll_cons r1
  obtain ⟨v3, vs3, d3, ds3, p3, q3, rfl, rfl, rfl, h3, r3⟩ := trodAll_cons r2
  obtain ⟨rfl, rfl, rfl⟩ := trodAll_nil r3
  obtain rfl : args = #[v0, v1, v2, v3] := by cases args; simp_all
  obtain ⟨rfl, rfl⟩ := trodVars_none hV
  clear hA0 hval0
  simp only [List.append_nil] at hW'
  have hlt3 : ∀ x ∈ p3, x.block < W.heap.size := fun x hx => hW'.lt x (by simp [hx])
  obtain ⟨a, rfl, rfl, rfl, wa⟩ := open_int Try.underlying3 (hval 0 3 v0 rfl rfl) h0
  obtain ⟨b, rfl, rfl, rfl, wb⟩ := open_int Try.underlying3 (hval 1 3 v1 rfl rfl) h1
  obtain ⟨c, rfl, rfl, rfl, wc⟩ := open_int Try.underlying3 (hval 2 3 v2 rfl rfl) h2
  obtain ⟨b3, len3, cap3, rfl⟩ := okWide_slice Try.underlying35 (hval 3 35 v3 rfl rfl)
  obtain ⟨fuel3, hf3⟩ := h3
  have h3 : DataW.Trod enc Try.prog W 0 (fun _ => true) true 35 (.slice b3 len3 cap3) d3 p3 := ⟨fuel3, hf3⟩
  obtain ⟨l, hl⟩ := nums_of_trod (B := W.heap.size) hf3 hlt3
  refine (pgcommits_any At PAt lt tch N U S O P W a b c (bounds_i64 wc).2 _ l hl).mono fun e W' ⟨he, hb⟩ => ?_
  subst he
  refine ⟨_, rfl, _, _, _, [], [] ++ ([] ++ ([] ++ (p3 ++ []))), [], hW', trodAll_cons_mk (shut_bool Try.underlying4 _) trodAll_mk0, ?_, rfl, hb.frame _, fun h => by cases h⟩
  exact trodAll_cons_mk (shut_int Try.underlying3 wa) (trodAll_cons_mk (shut_int Try.underlying3 wb) (trodAll_cons_mk (shut_int Try.underlying3 wc) (trodAll_cons_mk (Below.trod laidOut (by kernel_rfl) (of_decide_eq_true (by kernel_rfl)) h3 hb hlt3) trodAll_mk0)))
end PagerCommits
theorem pagerCommits_of (At : World → Nat → RD → List Nat → Prop) (PAt : World → Nat → Nat → PS → List Nat → Prop) (lt : ∀ {w : World} {p : Nat} {d : RD} {F : List Nat}, At w p d F → ∀ k ∈ F, k < w.heap.size)
    (tch : ∀ {w w' : World} {p : Nat} {d : RD} {F S : List Nat}, At w p d F → Touch S w w' → (∀ k ∈ S, k ∉ F) → At w' p d F) (N : HasNew At 8) (U : LandUse At) (S : HasSteps At 19) (O : HasOn At 16) (P : PgKit At PAt) : Rows.PagerCommitsSaid :=
  OpenClaim.holds_of_wide 4 Try.f4 rfl rfl rfl rfl rfl rfl rfl ⟨rfl, rfl, rfl, rfl, rfl⟩ rfl rfl rfl rfl rfl (by kernel_rfl) Try.func4 (by kernel_rfl)
    (of_decide_eq_true (by kernel_rfl)) (by unfold Func.isWrapper; first | (rw [if_pos (by decide +kernel)]; kernel_rfl) | (rw [if_neg (by decide +kernel)]; exact ⟨rfl, rfl⟩))
    (fun os started H enc _ => PagerCommits.lifted At PAt lt tch N U S O P os started H enc)
end Go.Proofs.Ytjgmlpfallakmaa
