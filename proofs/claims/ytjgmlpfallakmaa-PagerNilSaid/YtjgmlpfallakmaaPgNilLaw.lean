/-
  PagerNil (P5.1 to P5.3): of any program's device and pager that meet the kits the statement holds: whatever the input the statement's function returns true, and each argument reads behind the call as it read before. No conditions but the kits.
-/
import Derived.Test.YtjgmlpfallakmaaRows
import Derived.Test.YtjgmlpfallakmaaPgOpenA
import Derived.Test.YtjgmlpfallakmaaPost
import Derived.ProofKit
import Derived.OpenShut
import Derived.Carry
namespace Go.Proofs.Ytjgmlpfallakmaa
open Go.ChangeShapes Go.WideShapes Go.ChangeAt Go.RowKit
open Go.ChangeMaps (open_string shut_string)
namespace PagerNil
theorem own : ownKnob Try.prog.godebug = none := by kernel_rfl
theorem laidOut : laidOutB Try.prog = true := by kernel_rfl
set_option maxRecDepth 100000 in
theorem lifted (At : World → Nat → RD → List Nat → Prop) (PAt : World → Nat → Nat → PS → List Nat → Prop) (lt : ∀ {w : World} {p : Nat} {d : RD} {F : List Nat}, At w p d F → ∀ k ∈ F, k < w.heap.size)
    (tch : ∀ {w w' : World} {p : Nat} {d : RD} {F S : List Nat}, At w p d F → Touch S w w' → (∀ k ∈ S, k ∉ F) → At w' p d F) (N : HasNew At 8) (P : PgKit At PAt) (os : Os) (started : os.Started) (H : Type) (enc : TypeId × Value → H) :
    ReturnsInHanded {} Try.checked os 6 .any (Rows.pagerNilSpec.pre6 enc Try.prog Try.f6 Rows.pagerNilRow.domain false) (Rows.pagerNilSpec.post enc Try.prog Try.f6 false true false false) := by
  refine returnsInHanded_of_change (C := Try.checked) own started (by kernel_rfl) Try.func6
    (ChangeSpec.witness6 (enc := enc) (C := Try.checked) false ⟨#[], #[.agg ((⟨0, ⟨0, 0, 0, .empty⟩, ⟨0, 0, 0, 0, 0⟩, false, 0, .empty, []⟩ : ActP).cells (.slice none 0 0))], []⟩ 8 (by kernel_rfl) (by kernel_rfl) (by kernel_rfl) (by kernel_rfl)) ?_
  intro W base args ds gs before hval0 hW hcnd _
  have hval : ∀ (j : Nat) t v, Try.f6.params[j]? = some t → args[j]? = some v → Value.okWide Try.prog W .any base t v := hval0
  have hW' := hW
  obtain ⟨p, q, hA0, hV, rfl, hfz, hnd⟩ := hW
  have hA : DataW.TrodAll enc Try.prog W 0 (fun _ => true) true Try.f6.params.toList args.toList ds p := hA0
  rw [Try.params6] at hA hval
  obtain ⟨v0, vs0, d0, ds0, p0, q0, hargs, rfl, rfl, h0, r0⟩ := trodAll_cons hA
  obtain ⟨rfl, rfl, rfl⟩ := trodAll_nil r0
  obtain rfl : args = #[v0] := by cases args; simp_all
  obtain ⟨rfl, rfl⟩ := trodVars_none hV
  clear hA0 hval0
  simp only [List.append_nil] at hW'
  have hlt : ∀ x ∈ p0, x.block < W.heap.size := fun x hx => by simpa using hW'.lt x hx
  obtain ⟨cs, rfl, hsz⟩ := okWide_struct Try.underlying53 (hval 0 53 v0 rfl rfl)
  obtain ⟨fuel, hf⟩ := h0
  have h0 : DataW.Trod enc Try.prog W 0 (fun _ => true) true 53 (.agg cs) d0 p0 := ⟨fuel, hf⟩
  obtain ⟨y, pv, hy, hn, _⟩ := act5_of_trod (B := W.heap.size) hf hlt
  obtain ⟨PA, pcap, rfl, _⟩ := hn
  have hcs : cs = y.cells (.slice PA y.picks.length pcap) := Array.ext' (by simpa [Value.cells] using hy)
  subst hcs
  refine (pgnil_any At PAt lt tch N P W y PA y.picks.length pcap).mono fun e W' ⟨he, hb⟩ => ?_
  subst he
  refine ⟨_, rfl, _, _, _, [], p0 ++ [], [], hW', trodAll_cons_mk (shut_bool Try.underlying4 _) trodAll_mk0, ?_, rfl, hb.frame _, fun h => by cases h⟩
  exact trodAll_cons_mk (Below.trod laidOut (by kernel_rfl) (of_decide_eq_true (by kernel_rfl)) h0 hb hlt) trodAll_mk0
end PagerNil
theorem pagerNil_of (At : World → Nat → RD → List Nat → Prop) (PAt : World → Nat → Nat → PS → List Nat → Prop) (lt : ∀ {w : World} {p : Nat} {d : RD} {F : List Nat}, At w p d F → ∀ k ∈ F, k < w.heap.size)
    (tch : ∀ {w w' : World} {p : Nat} {d : RD} {F S : List Nat}, At w p d F → Touch S w w' → (∀ k ∈ S, k ∉ F) → At w' p d F) (N : HasNew At 8) (P : PgKit At PAt) : Rows.PagerNilSaid :=
  OpenClaim.holds_of_wide 6 Try.f6 rfl rfl rfl rfl rfl rfl rfl ⟨rfl, rfl, rfl, rfl, rfl⟩ rfl rfl rfl rfl rfl (by kernel_rfl) Try.func6 (by kernel_rfl)
    (of_decide_eq_true (by kernel_rfl)) (by unfold Func.isWrapper; first | (rw [if_pos (by decide +kernel)]; kernel_rfl) | (rw [if_neg (by decide +kernel)]; exact ⟨rfl, rfl⟩))
    (fun os started H enc _ => PagerNil.lifted At PAt lt tch N P os started H enc)
end Go.Proofs.Ytjgmlpfallakmaa
