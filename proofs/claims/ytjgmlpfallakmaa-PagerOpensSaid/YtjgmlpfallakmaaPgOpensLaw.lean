/-
  PagerOpens (P5.1): of any program's device and pager that meet the kits the statement holds: whatever the input the statement's function returns true, and each argument reads behind the call as it read before. No conditions but the kits.
-/
import Derived.Test.YtjgmlpfallakmaaRows
import Derived.Test.YtjgmlpfallakmaaPgOpensW
import Derived.Test.YtjgmlpfallakmaaPost
import Derived.ProofKit
import Derived.OpenShut
import Derived.Carry
namespace Go.Proofs.Ytjgmlpfallakmaa
open Go.ChangeShapes Go.WideShapes Go.ChangeAt Go.RowKit
open Go.ChangeMaps (open_string shut_string)
namespace PagerOpens
theorem own : ownKnob Try.prog.godebug = none := by kernel_rfl
set_option maxRecDepth 100000 in
theorem lifted (At : World → Nat → RD → List Nat → Prop) (PAt : World → Nat → Nat → PS → List Nat → Prop) (lt : ∀ {w : World} {p : Nat} {d : RD} {F : List Nat}, At w p d F → ∀ k ∈ F, k < w.heap.size)
    (tch : ∀ {w w' : World} {p : Nat} {d : RD} {F S : List Nat}, At w p d F → Touch S w w' → (∀ k ∈ S, k ∉ F) → At w' p d F) (N : HasNew At 8) (U : LandUse At) (K : HasNewest 22) (P : PgKit At PAt) (os : Os) (started : os.Started) (H : Type) (enc : TypeId × Value → H) :
    ReturnsInHanded {} Try.checked os 5 .any (Rows.pagerOpensSpec.pre6 enc Try.prog Try.f5 Rows.pagerOpensRow.domain false) (Rows.pagerOpensSpec.post enc Try.prog Try.f5 false true false false) := by
  refine returnsInHanded_of_change (C := Try.checked) own started (by kernel_rfl) Try.func5
    (ChangeSpec.witness6 (enc := enc) (C := Try.checked) false ⟨#[], #[.string .empty, .string .empty], []⟩ 8 (by kernel_rfl) (by kernel_rfl) (by kernel_rfl) (by kernel_rfl)) ?_
  intro W base args ds gs before hval0 hW hcnd _
  have hval : ∀ (j : Nat) t v, Try.f5.params[j]? = some t → args[j]? = some v → Value.okWide Try.prog W .any base t v := hval0
  have hW' := hW
  obtain ⟨p, q, hA0, hV, rfl, hfz, hnd⟩ := hW
  have hA : DataW.TrodAll enc Try.prog W 0 (fun _ => true) true Try.f5.params.toList args.toList ds p := hA0
  rw [Try.params5] at hA hval
  obtain ⟨v0, vs0, d0, ds0, p0, q0, hargs, rfl, rfl, h0, r0⟩ := trodAll_cons hA
  obtain ⟨v1, vs1, d1, ds1, p1, q1, rfl, rfl, rfl, h1, r1⟩ := trodAll_cons r0
  obtain ⟨rfl, rfl, rfl⟩ := trodAll_nil r1
  obtain rfl : args = #[v0, v1] := by cases args; simp_all
  obtain ⟨rfl, rfl⟩ := trodVars_none hV
  clear hA0 hval0
  simp only [List.append_nil] at hW'
  obtain ⟨a, rfl, rfl, rfl, wa⟩ := open_string Try.underlying9 (hval 0 9 v0 rfl rfl) h0
  obtain ⟨b, rfl, rfl, rfl, wb⟩ := open_string Try.underlying9 (hval 1 9 v1 rfl rfl) h1
  refine (pgopens_any At PAt lt tch N U K P W a b).mono fun e W' ⟨he, hb⟩ => ?_
  subst he
  exact ⟨_, rfl, post_old hW' hb (fun _ _ _ => trodAll_cons_mk (shut_bool Try.underlying4 _) trodAll_mk0)
    (fun _ _ => trodAll_cons_mk (shut_string Try.underlying9 wa) (trodAll_cons_mk (shut_string Try.underlying9 wb) trodAll_mk0))
    (fun _ => rfl) (ok_one (by kernel_rfl) rfl (okWide_bool_mk Try.underlying4 _))⟩
end PagerOpens
theorem pagerOpens_of (At : World → Nat → RD → List Nat → Prop) (PAt : World → Nat → Nat → PS → List Nat → Prop) (lt : ∀ {w : World} {p : Nat} {d : RD} {F : List Nat}, At w p d F → ∀ k ∈ F, k < w.heap.size)
    (tch : ∀ {w w' : World} {p : Nat} {d : RD} {F S : List Nat}, At w p d F → Touch S w w' → (∀ k ∈ S, k ∉ F) → At w' p d F) (N : HasNew At 8) (U : LandUse At) (K : HasNewest 22) (P : PgKit At PAt) : Rows.PagerOpensSaid :=
  OpenClaim.holds_of_wide 5 Try.f5 rfl rfl rfl rfl rfl rfl rfl ⟨rfl, rfl, rfl, rfl, rfl⟩ rfl rfl rfl rfl rfl (by kernel_rfl) Try.func5 (by kernel_rfl)
    (of_decide_eq_true (by kernel_rfl)) (by unfold Func.isWrapper; first | (rw [if_pos (by decide +kernel)]; kernel_rfl) | (rw [if_neg (by decide +kernel)]; exact ⟨rfl, rfl⟩))
    (fun os started H enc _ => PagerOpens.lifted At PAt lt tch N U K P os started H enc)
end Go.Proofs.Ytjgmlpfallakmaa
