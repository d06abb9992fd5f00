/-
  Contracts of the statements' helpers (rollbooklaw03.does, means), of any device that meets the kit: a call that is played, whichever it is. Conditions: at most 1000000 calls before.
-/
import Derived.Test.YtjgmlpfallakmaaGreatB1
import Derived.Deep.RegionHeld3
import Derived.Deep.DrawnRows
namespace Go.Proofs.YtjgmlpfallakmaaGreat
open Go.RowKit
attribute [local go_sem ↓] Go.wp_at_zero Go.wp_at_succ
/-- a call's value, as it is handed on -/
def actV (x : ActM) (v : Value) : Value := .agg #[.int .i64 x.kind, .int .i64 x.i, .int .i64 x.n, .int .u8 x.c.toNat, .string x.text, v]
theorem Did.after {At : World → Nat → RD → List Nat → Prop} {w w1 : World} {p : Nat} {F : List Nat} {d' : RD} {e0 : Ending} {e : Ending} {w' : World} (hT : Touch [] w w1) (h : Did At w1 p F d' e0 e w') : Did At w p F d' e0 e w' := by
  obtain ⟨he, F', hA, hT', hG⟩ := h
  exact ⟨he, F', hA, (hT.more (by simp)).trans hT' (Grows.refl _ _), fun k hk => (hG k hk).elim .inl (fun h => .inr (Nat.le_trans hT.size h))⟩
end Go.Proofs.YtjgmlpfallakmaaGreat
