/-
  Plain law of no statement: what a statement's proof owes at its end, where the call has made memory of its own and old memory is as it was. No conditions but those typed.
-/
import Derived.Below
import Derived.ChangeSame
namespace Go.Proofs.Ytjgmlpfallakmaa
open Go.RowKit Go.WideShapes Go.ChangeShapes

/-- no variables are read; the arguments read behind the call as ahead of it -/
theorem post_old {H : Type} {enc : TypeId × Value → H} {P : Program} {f : Func} {s : ChangeSpec} {fresh handsOn again : Bool} {W W' : World} {args : Array Value} {v : Value} {ds gs : List (DataW H)} {places : List MemPlace}
    (hW : DataW.Whole enc P f.params.toList s.vars false W args.toList ds gs places) (hb : Below W.heap.size W W')
    (hr : ∀ (b : Nat) (sp : Nat → Bool) (hd : Bool), DataW.TrodAll enc P W' b sp hd f.resultTypes.toList (v.resultList f.resultTypes.size) (s.fn H (ds ++ gs)).results [])
    (ha : ∀ sp : Nat → Bool, (∀ p ∈ places, sp p.block = true) → DataW.TrodAll enc P W' 0 sp true f.params.toList args.toList (s.fn H (ds ++ gs)).args places)
    (hv : ∀ sp : Nat → Bool, DataW.TrodVars enc P W' sp s.vars (s.fn H (ds ++ gs)).vars [])
    (hok : ∀ (j : Nat) (t : TypeId) (r : Value), f.resultTypes[j]? = some t → (v.resultList f.resultTypes.size)[j]? = some r → Value.okWide P W' .any 0 t r) :
    s.post enc P f false fresh handsOn again W args v W' := by
  have low : ∀ p ∈ places, p.block < W.heap.size := fun p hp => hW.lt p hp
  have lowB : ∀ p ∈ places, decide (p.block < W.heap.size) = true := fun p hp => decide_eq_true (low p hp)
  have kept : W.keptBut W' (fun p => p ∈ places ∧ (p ∈ ([] : List MemPlace) ∨ p ∈ places ∨ p ∈ ([] : List MemPlace))) := World.keptBut_mono (fun p hp => ⟨hp, by simpa using hp⟩) (hb.frame (· ∈ places))
  refine ⟨ds, gs, places, [], places, [], hW, hr _ _ _, ha (fun b => decide (b < W.heap.size)) lowB, hv _, kept, ?_⟩
  intro _
  obtain ⟨_, _, _, _, _, hz, _⟩ := hW
  have both := trodAll_append (ha (fun _ => true) (fun _ _ => rfl)) (hr 0 (fun _ => true) true)
  refine ⟨hok, _, _, places ++ [], ⟨places, [], both, hv _, by simp, ?_, by simp⟩, fun p hp _ => by simpa using hp⟩
  intro b off hp
  have hin : MemPlace.cell b off ∈ places := by simpa using hp
  exact (hb.frozen (low _ hin)).trans (hz b off hin)
end Go.Proofs.Ytjgmlpfallakmaa
