/-
  The landed table of readers in memory: one block of four slots, each a mark and a number. Conditions: the table has four slots, each free or a transaction's.
-/
import Derived.Test.YtmfbjdfekgbamaaProg
import Derived.Test.YtmfbjdfekgbamaaRdKit
import Derived.WalkKit
import Derived.Lib.Hide
import Derived.Deep.QuietTactic
import Derived.BigQuiet
namespace Go.Proofs.Ytmfbjdfekgbamaa
open Go.RowKit
namespace Rd
def hd (x : Int) : Bool := decide (0 ≤ x)
def tx (x : Int) : Int := if 0 ≤ x then x else 0
theorem four {l : List Int} (h : l.length = 4) : ∃ a b c d, l = [a, b, c, d] := by
  match l, h with
  | [a, b, c, d], _ => exact ⟨a, b, c, d, rfl⟩
end Rd
def tabCells (a b c d : Int) : Array Value := #[.bool (Rd.hd a), .int .i64 (Rd.tx a), .bool (Rd.hd b), .int .i64 (Rd.tx b), .bool (Rd.hd c), .int .i64 (Rd.tx c), .bool (Rd.hd d), .int .i64 (Rd.tx d)]
def RLAt (w : World) (p : Nat) (l : List Int) (F : List Nat) : Prop := ∃ a b c d, l = [a, b, c, d] ∧ Blk w p (tabCells a b c d) 47 ∧ F = [p]
theorem RLAt.lt {w : World} {p : Nat} {l : List Int} {F : List Nat} (h : RLAt w p l F) : ∀ k ∈ F, k < w.heap.size := by
  obtain ⟨a, b, c, d, _, hp, rfl⟩ := h
  intro k hk
  simp only [List.mem_cons, List.not_mem_nil, or_false] at hk
  subst hk
  exact hp.lt
theorem RLAt.touch {w w' : World} {p : Nat} {l : List Int} {F S : List Nat} (h : RLAt w p l F) (hT : Touch S w w') (hS : ∀ k ∈ S, k ∉ F) : RLAt w' p l F := by
  obtain ⟨a, b, c, d, hl, hp, rfl⟩ := h
  exact ⟨a, b, c, d, hl, hp.touch hT (fun hk => hS _ hk (by simp)), rfl⟩
/-- a slot's two cells -/
theorem RLAt.cells {w : World} {p : Nat} {l : List Int} {F : List Nat} (h : RLAt w p l F) : F = [p] ∧ p < w.heap.size ∧ (∀ k (hk : k < l.length), w.cell? ⟨p, k * 2, none⟩ = some (.bool (Rd.hd l[k])) ∧ w.cell? ⟨p, k * 2 + 1, none⟩ = some (.int .i64 (Rd.tx l[k]))) ∧ (∀ k, w.frozen? ⟨p, k, none⟩ = false) := by
  obtain ⟨a, b, c, d, rfl, hp, rfl⟩ := h
  refine ⟨rfl, hp.lt, fun k hk => ?_, fun k => hp.free k⟩
  have h4 : k < 4 := hk
  rcases (by omega : k = 0 ∨ k = 1 ∨ k = 2 ∨ k = 3) with rfl | rfl | rfl | rfl <;> exact ⟨hp.cell _, hp.cell _⟩
/-- a slot that is written -/
theorem RLAt.put {w : World} {p : Nat} {l : List Int} {F : List Nat} (h : RLAt w p l F) (k : Nat) (hk : k < 4) (x : Int) : RLAt ((w.setCell ⟨p, k * 2, none⟩ (.bool (Rd.hd x))).setCell ⟨p, k * 2 + 1, none⟩ (.int .i64 (Rd.tx x))) p (l.set k x) F ∧ Touch F w ((w.setCell ⟨p, k * 2, none⟩ (.bool (Rd.hd x))).setCell ⟨p, k * 2 + 1, none⟩ (.int .i64 (Rd.tx x))) := by
  obtain ⟨a, b, c, d, rfl, hp, rfl⟩ := h
  refine ⟨?_, ((Touch.refl _ w).setCell (.inl (by simp)) _).setCell (.inl (by simp)) _⟩
  have h2 := (hp.set (k * 2) (.bool (Rd.hd x))).set (k * 2 + 1) (.int .i64 (Rd.tx x))
  rcases (by omega : k = 0 ∨ k = 1 ∨ k = 2 ∨ k = 3) with rfl | rfl | rfl | rfl
  · exact ⟨x, b, c, d, rfl, h2, rfl⟩
  · exact ⟨a, x, c, d, rfl, h2, rfl⟩
  · exact ⟨a, b, x, d, rfl, h2, rfl⟩
  · exact ⟨a, b, c, x, rfl, h2, rfl⟩
/-- the table as a value -/
def tabV (a b c d : Int) : Value := .agg (tabCells a b c d)
theorem tab_index (a b c d : Int) (k : Nat) (hk : k < 4) (w : World) : (Instr.index 45 (tabV a b c d) (.int .i64 (k : Nat))).run Try.prog w = .ok (.agg #[.bool (Rd.hd ([a, b, c, d].getD k 0)), .int .i64 (Rd.tx ([a, b, c, d].getD k 0))]) w := by
  rcases (by omega : k = 0 ∨ k = 1 ∨ k = 2 ∨ k = 3) with rfl | rfl | rfl | rfl <;> kernel_rfl
set_option maxRecDepth 100000 in
set_option maxHeartbeats 1600000 in
theorem rlnew_ok (w : World) : Calls Try.prog 7 #[] w (RdMade RLAt w) := by
  go_enter Try.func7, Try.ntmps7
  go_wp2
  go_ret
  exact ⟨w.heap.size, [w.heap.size], rfl, ⟨-1, -1, -1, -1, rfl, Blk.new w _ _, rfl⟩, by simp, (Below.refl _ w).alloc (Nat.le_refl _) _⟩
set_option maxRecDepth 100000 in
set_option maxHeartbeats 1600000 in
theorem rlslot_ok (w : World) (i : Int) : Calls Try.prog 21 #[.int .i64 i] w fun e w' => e = .returned (.bool (Rd.has i)) ∧ w = w' := by
  by_cases h0 : 0 ≤ i
  · have d1 : decide (0 ≤ i) = true := decide_eq_true h0
    by_cases h4 : i < 4
    · have d2 : decide (i < 4) = true := decide_eq_true h4
      have HE : Hid (Rd.has i = true) := Lib.hid ((rd_has i).2 ⟨h0, by omega⟩)
      clear h0 h4
      go_enter Try.func21, Try.ntmps21
      go_wp2
      go_ret
      exact ⟨by rw [HE.out]; rfl, rfl⟩
    · have d2 : decide (i < 4) = false := decide_eq_false h4
      have HE : Hid (Rd.has i = false) := Lib.hid (by rw [Bool.eq_false_iff]; intro h; have := (rd_has i).1 h; omega)
      clear h0 h4
      go_enter Try.func21, Try.ntmps21
      go_wp2
      go_ret
      exact ⟨by rw [HE.out]; rfl, rfl⟩
  · have d1 : decide (0 ≤ i) = false := decide_eq_false h0
    have HE : Hid (Rd.has i = false) := Lib.hid (by rw [Bool.eq_false_iff]; intro h; have := (rd_has i).1 h; omega)
    clear h0
    go_enter Try.func21, Try.ntmps21
    go_wp2
    go_ret
    exact ⟨by rw [HE.out]; rfl, rfl⟩
end Go.Proofs.Ytmfbjdfekgbamaa
