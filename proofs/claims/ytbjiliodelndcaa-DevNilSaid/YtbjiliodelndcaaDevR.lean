/-
  How the program's device lies in memory (sectors as arrays by value, what waits in a map of slices of them), and the calls that write its head alone. No conditions but those typed.
-/
import Derived.Test.YtbjiliodelndcaaDevT
import Derived.Test.YtbjiliodelndcaaIMap
import Derived.Test.YtbjiliodelndcaaDevOk
import Derived.Deep.RegionHeld3
import Derived.Deep.RegionLaw
import Derived.Deep.DrawnRows
import Derived.Outline
namespace Go.Proofs.Ytbjiliodelndcaa
open Go.RowKit
attribute [local go_sem ↓] Go.wp_at_zero Go.wp_at_succ
/-- the cells of a row of sectors -/
def secs (l : List ByteArray) : List Value := l.flatMap sbytes
/-- all are of a sector's size -/
def All128 (l : List ByteArray) : Prop := ∀ s ∈ l, s.size = 128
theorem All128.get {l : List ByteArray} (h : All128 l) {i : Nat} (hi : i < l.length) : l[i].size = 128 := h _ (List.getElem_mem hi)
theorem All128.append {l k : List ByteArray} (h : All128 l) (h' : All128 k) : All128 (l ++ k) := fun s hs => (List.mem_append.1 hs).elim (h s) (h' s)
theorem All128.set {l : List ByteArray} (h : All128 l) (i : Nat) {x : ByteArray} (hx : x.size = 128) : All128 (l.set i x) := fun s hs => (List.mem_or_eq_of_mem_set hs).elim (h s) (fun e => e ▸ hx)
theorem secs_length {l : List ByteArray} (h : All128 l) : (secs l).length = l.length * 128 := by
  induction l with
  | nil => rfl
  | cons x l ih =>
    have e : secs (x :: l) = sbytes x ++ secs l := rfl
    rw [e, List.length_append, sbytes_length, h x (by simp), ih (fun s hs => h s (by simp [hs])), List.length_cons]
    omega
theorem secs_append (l k : List ByteArray) : secs (l ++ k) = secs l ++ secs k := by unfold secs; rw [List.flatMap_append]
theorem secs_one (l : List ByteArray) : ∀ u ∈ secs l, u.oneCell' = true := by
  intro u hu
  obtain ⟨s, _, hs⟩ := List.mem_flatMap.1 hu
  exact sbytes_one s u hs
theorem secs_split {l : List ByteArray} {i : Nat} (hi : i < l.length) : secs l = secs (l.take i) ++ sbytes l[i] ++ secs (l.drop (i + 1)) := by
  have e : l = l.take i ++ ([l[i]] ++ l.drop (i + 1)) := by
    rw [List.singleton_append, List.getElem_cons_drop, List.take_append_drop]
  conv => lhs; rw [e]
  rw [secs_append, secs_append, List.append_assoc]
  congr 2
  simp [secs]
theorem secs_at {l : List ByteArray} (h : All128 l) {i : Nat} (hi : i < l.length) (j : Nat) (v : Value) (hv : (sbytes l[i])[j]? = some v) : (secs l)[i * 128 + j]? = some v := by
  have hj := (List.getElem?_eq_some_iff.1 hv).1
  have ht : All128 (l.take i) := fun s hs => h s (List.mem_of_mem_take hs)
  have hl : (secs (l.take i)).length = i * 128 := by rw [secs_length ht, List.length_take, Nat.min_eq_left (by omega)]
  rw [secs_split hi, List.append_assoc, List.getElem?_append_right (by omega), hl, show i * 128 + j - i * 128 = j by omega, List.getElem?_append_left hj]
  exact hv
theorem splice_in {α : Type} (A B X D : List α) : A ++ X ++ D = (A ++ B ++ D).take A.length ++ X ++ (A ++ B ++ D).drop (A.length + B.length) := by
  rw [← List.length_append, List.drop_left, List.append_assoc A B D, List.take_left]
theorem take_splice {α : Type} (c X : List α) (a N : Nat) (h : a + X.length ≤ N) (hN : N ≤ c.length) :
    (c.take a ++ X ++ c.drop (a + X.length)).take N = (c.take N).take a ++ X ++ (c.take N).drop (a + X.length) := by
  have e1 : (c.take a).length = a := by rw [List.length_take]; omega
  rw [List.append_assoc, List.take_append, e1, List.take_of_length_le (l := c.take a) (i := N) (by omega), List.take_append, List.take_of_length_le (l := X) (i := N - a) (by omega), List.take_take, Nat.min_eq_left (by omega), List.append_assoc, List.drop_take]
  congr 3
  omega
theorem secs_set {l : List ByteArray} (h : All128 l) {i : Nat} (hi : i < l.length) (x : ByteArray) :
    secs (l.set i x) = (secs l).take (i * 128) ++ sbytes x ++ (secs l).drop (i * 128 + 128) := by
  have ht : All128 (l.take i) := fun s hs => h s (List.mem_of_mem_take hs)
  have hl : (secs (l.take i)).length = i * 128 := by rw [secs_length ht, List.length_take, Nat.min_eq_left (by omega)]
  have hb : (sbytes l[i]).length = 128 := by rw [sbytes_length, h.get hi]
  have hi' : i < (l.set i x).length := by simpa using hi
  have e1 : (l.set i x).take i = l.take i := by rw [List.take_set_of_le (Nat.le_refl _)]
  have e2 : (l.set i x).drop (i + 1) = l.drop (i + 1) := by rw [List.drop_set_of_lt (by omega)]
  have := splice_in (secs (l.take i)) (sbytes l[i]) (sbytes x) (secs (l.drop (i + 1)))
  rw [← secs_split hi, hl, hb] at this
  rw [secs_split hi', e1, e2, List.getElem_set_self]
  exact this
section
variable {w : World} {g n cap : Nat} {l : List ByteArray}
theorem row_cells (hr : w.ownsRow 0 62 128 (.slice (some ⟨g, 0, none⟩) n cap) l.length (secs l)) (h : All128 l) {i : Nat} (hi : i < l.length) : w.rangeAt g (i * 128) (sbytes l[i]) := by
  intro j v hv
  have := hr.cells (g := g) rfl (i * 128 + j) v (secs_at h hi j v hv)
  rwa [Addr.add_mid, Nat.zero_add] at this
theorem load_sector (hr : w.ownsRow 0 62 128 (.slice (some ⟨g, 0, none⟩) n cap) l.length (secs l)) (h : All128 l) {i : Nat} (hi : i < l.length) :
    (Instr.loadAt 62 (.pointer (some ⟨g, i * 128, none⟩))).run Try.prog w = .ok (sagg l[i]) w :=
  run_loadAt_mid w g (i * 128) 62 (sbytes l[i]) _ (row_cells hr h hi) Try.underlying62 rfl (by rw [size62, sbytes_length, h.get hi])
theorem store_sector (hr : w.ownsRow 0 62 128 (.slice (some ⟨g, 0, none⟩) n cap) l.length (secs l)) (h : All128 l) {i : Nat} (hi : i < l.length) {x : ByteArray} (hx : x.size = 128) :
    ∃ w', (storeCells ⟨g, i * 128, none⟩ (sbytes x)).run Try.prog w = .ok () w' ∧ w'.ownsRow 0 62 128 (.slice (some ⟨g, 0, none⟩) n cap) l.length (secs (l.set i x)) ∧ w.grownBy w' (some g) := by
  obtain ⟨hl, h2⟩ := hr
  rcases h2 with ⟨hv, _⟩ | ⟨g', cap', cur, hv, h1, hg, h3, h4, h5, h6⟩
  · cases hv
  · injection hv with e1 e2 e3
    injection e1 with e1
    injection e1 with e1
    subst e1 e2 e3
    have hil : i * 128 + 128 ≤ l.length * 128 := by omega
    have hcl : l.length * 128 ≤ cur.size := by rw [h5]; exact Nat.mul_le_mul_right 128 h3
    have hst := run_storeCells_at Try.prog g (i * 128) 62 (sbytes x) 0 cur w hg (by rw [sbytes_length, hx]; omega) (sbytes_one x)
    refine ⟨_, hst, ⟨by rw [secs_length (h.set i hx), List.length_set], .inr ⟨g, cap, _, rfl, h1, setRow_heap _ _ _ _ _ _ hg, h3, h4, ?_, ?_⟩⟩, ⟨rfl, rfl, rfl, by simp, fun j _ hj => setRow_other _ _ _ _ (fun e => hj (by rw [e]))⟩⟩
    · simp only [List.size_toArray, List.length_append, List.length_take, List.length_drop, Array.length_toList, sbytes_length, hx]
      omega
    · rw [secs_set h hi x, ← h6]
      have := take_splice cur.toList (sbytes x) (i * 128) (l.length * 128) (by rw [sbytes_length, hx]; omega) (by rw [Array.length_toList]; exact hcl)
      rw [sbytes_length, hx] at this
      simp only [Nat.add_zero, sbytes_length, hx]
      exact this
end
/-- the program's device d lies in block p; F: its blocks -/
def DevAt (w : World) (p : Nat) (d : RD) (F : List Nat) : Prop :=
  ∃ vs mb n f, Blk w p #[.bool (!d.off), vs, .map (some mb), .int .i64 d.left, .int .i64 d.wrote, .int .i64 d.count] 58 ∧
    w.ownsRow 0 62 128 vs d.sector.length (secs d.sector) ∧ IMap w mb n f ∧ n ≤ d.row.length ∧
    (∀ k v, f k = some v → ∃ i : Nat, k = i ∧ i < d.sector.length ∧ RD.writes d.row i ≠ [] ∧ w.ownsRow 0 62 128 v (RD.writes d.row i).length (secs (RD.writes d.row i))) ∧
    (∀ i : Nat, RD.writes d.row i ≠ [] → ∃ v, f i = some v) ∧
    (p ≠ mb ∧ vs.ownBlock ≠ some p ∧ vs.ownBlock ≠ some mb) ∧
    (∀ k v, f k = some v → v.ownBlock ≠ some p ∧ v.ownBlock ≠ some mb ∧ (∀ g, v.ownBlock = some g → vs.ownBlock ≠ some g)) ∧
    (∀ k v k' v', f k = some v → f k' = some v' → k ≠ k' → ∀ g, v.ownBlock = some g → v'.ownBlock ≠ some g) ∧
    (p ∈ F ∧ mb ∈ F ∧ (∀ g, vs.ownBlock = some g → g ∈ F) ∧ ∀ k v, f k = some v → ∀ g, v.ownBlock = some g → g ∈ F) ∧ (∀ k ∈ F, k < w.heap.size) ∧
    All128 d.sector ∧ ∀ x ∈ d.row, x.2.size = 128
theorem DevAt.touch {w w' : World} {p : Nat} {d : RD} {F S : List Nat} (h : DevAt w p d F) (hT : Touch S w w') (hS : ∀ k ∈ S, k ∉ F) : DevAt w' p d F := by
  obtain ⟨vs, mb, n, f, hb, hs, hm, hn, hr, hr2, h1, h2, h3, ⟨m1, m2, m3, m4⟩, hlt, hz⟩ := h
  refine ⟨vs, mb, n, f, hb.touch hT (fun hk => hS _ hk m1), ownsRow_touch hs hT (fun k hk hm => hS k hm (m3 k hk)), hm.touch hT (fun hk => hS _ hk m2), hn, ?_, hr2, h1, h2, h3, ⟨m1, m2, m3, m4⟩, fun k hk => Nat.lt_of_lt_of_le (hlt k hk) hT.size, hz⟩
  intro k v hf
  obtain ⟨i, e, hi, hw, ho⟩ := hr k v hf
  exact ⟨i, e, hi, hw, ownsRow_touch ho hT (fun g hg hm => hS g hm (m4 k v hf g hg))⟩
theorem DevAt.lt {w : World} {p : Nat} {d : RD} {F : List Nat} (h : DevAt w p d F) : ∀ k ∈ F, k < w.heap.size := by
  obtain ⟨_, _, _, _, _, _, _, _, _, _, _, _, _, _, hlt, _⟩ := h
  exact hlt
/-- the rows stay, the head is written -/
theorem DevAt.head {w : World} {p : Nat} {d : RD} {F : List Nat} (h : DevAt w p d F) : ∃ vs mb, Blk w p #[.bool (!d.off), vs, .map (some mb), .int .i64 d.left, .int .i64 d.wrote, .int .i64 d.count] 58 ∧
    ∀ (w' : World) (d' : RD), Blk w' p #[.bool (!d'.off), vs, .map (some mb), .int .i64 d'.left, .int .i64 d'.wrote, .int .i64 d'.count] 58 → Touch [p] w w' → d'.sector = d.sector → d'.row = d.row →
      ∃ F', DevAt w' p d' F' ∧ Touch F w w' ∧ Grows F F' w.heap.size := by
  obtain ⟨vs, mb, n, f, hb, hs, hm, hn, hr, hr2, h1, h2, h3, h4, hlt, hz⟩ := h
  refine ⟨vs, mb, hb, ?_⟩
  intro w' d' hb hT e1 e2
  have no : ∀ g, g ≠ p → g ∉ [p] := fun g hg hm => hg (by simpa using hm)
  refine ⟨F, ⟨vs, mb, n, f, hb, ?_, hm.touch hT (no _ (Ne.symm h1.1)), by rw [e2]; exact hn, ?_, by rw [e2]; exact hr2, h1, h2, h3, h4, fun k hk => Nat.lt_of_lt_of_le (hlt k hk) hT.size, by rw [e1, e2]; exact hz⟩, hT.more (by intro k hk; simp only [List.mem_singleton] at hk; subst hk; exact h4.1), Grows.refl _ _⟩
  · rw [e1]; exact ownsRow_touch hs hT (fun g hg => no g (fun e => h1.2.1 (by rw [hg, e])))
  · intro k v hf
    obtain ⟨i, e, hi, hw, ho⟩ := hr k v hf
    rw [e1, e2]
    exact ⟨i, e, hi, hw, ownsRow_touch ho hT (fun g hg => no g (fun e => (h2 k v hf).1 (by rw [hg, e])))⟩
end Go.Proofs.Ytbjiliodelndcaa
