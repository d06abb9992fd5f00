/-
  Plain laws of no statement: objects of the call's own that lie in memory: what a call may touch ('Touch'), blocks that are known whole, rows of texts. Under any program. No conditions but those typed.
  Plain definitions and laws of no statement: what a device is (chapter 3): sectors, what waits, in order; each call as a function. No conditions but those typed.
  Contracts of the reference's device (package rollbookref03): Step, Fuse, Cut, Read, Waits: what each call answers, and what becomes of the device in memory. Conditions: at most 1000000 calls before.
  Contracts of the reference's device (package rollbookref03): Write, Sync: what each call answers, and what becomes of the device in memory. Conditions: at most 1000000 calls before.
  Contract of the reference's device (package rollbookref03): Start: what it answers, and what becomes of the device in memory. Conditions: at most 1000000 calls before.
  Plain laws of no statement: a slice of bytes that a call owns (made by a conversion of a text, by append, or nil), under any program: append of bytes onto it, its conversion to a text. No conditions but those typed.
  Contracts of the statements' helpers (rollbooklaw03.sector, text): what each answers, and that nothing that was in memory before has changed. No conditions but those typed.
  Contract of the reference's device (package rollbookref03): New: what it answers, and what it makes. No conditions.
  What the statements of chapter 3 lean on, of any device in memory: a representation 'At', and what each call answers and leaves (as a structure of contracts); the reference's device meets it. Conditions: at most 1000000 calls before.
  Plain laws of no statement: what stays of a device (chapter 3), whatever is called. No conditions but those typed.
-/
import Derived.WalkKit
import Derived.Deep.AppendLies
import Derived.Lib.Hide
import Derived.Laws.Sem
import Derived.Test.YtjgmlpfallakmaaProg
import Derived.KernelRfl
import Derived.BigRegion
import Derived.Outline
import Derived.Deep.RegionHeld3
import Derived.Lib.ConvBytes
import Derived.Deep.RegionLaw
import Derived.Deep.DrawnRows
section
namespace Go.Proofs.Ytjgmlpfallakmaa
open Go.RowKit

/-- but for the blocks of S, and new ones, w' is as w -/
structure Touch (S : List Nat) (w w' : World) : Prop where
  os : w'.os = w.os
  tape : w'.tape = w.tape
  output : w'.output = w.output
  size : w.heap.size ≤ w'.heap.size
  block : ∀ k, k < w.heap.size → k ∉ S → w'.heap[k]? = w.heap[k]?
/-- all of S' is of S, or lies from n on -/
def Grows (S S' : List Nat) (n : Nat) : Prop := ∀ k ∈ S', k ∈ S ∨ n ≤ k
theorem Grows.refl (S : List Nat) (n : Nat) : Grows S S n := fun _ h => .inl h
theorem Grows.trans {S S' S'' : List Nat} {n m : Nat} (h : Grows S S' n) (h' : Grows S' S'' m) (hm : n ≤ m) : Grows S S'' n := fun k hk =>
  (h' k hk).elim (fun h1 => h k h1) (fun h1 => .inr (Nat.le_trans hm h1))
theorem Touch.refl (S : List Nat) (w : World) : Touch S w w := ⟨rfl, rfl, rfl, Nat.le_refl _, fun _ _ _ => rfl⟩
theorem Touch.trans {S S' : List Nat} {a b c : World} (h : Touch S a b) (k : Touch S' b c) (hg : Grows S S' a.heap.size) : Touch S a c :=
  ⟨k.os.trans h.os, k.tape.trans h.tape, k.output.trans h.output, Nat.le_trans h.size k.size, fun i hi hn =>
    (k.block i (Nat.lt_of_lt_of_le hi h.size) (fun hs => (hg i hs).elim hn (fun hge => by omega))).trans (h.block i hi hn)⟩
theorem Touch.more {S S' : List Nat} {a b : World} (h : Touch S a b) (hs : ∀ k ∈ S, k ∈ S') : Touch S' a b :=
  ⟨h.os, h.tape, h.output, h.size, fun i hi hn => h.block i hi (fun hk => hn (hs i hk))⟩
theorem Touch.drew {S : List Nat} {a w : World} (h : Touch S a w) : Touch S a w.drew := ⟨h.os, h.tape, h.output, h.size, h.block⟩
theorem Touch.alloc {S : List Nat} {a w : World} (h : Touch S a w) (o : Obj) : Touch S a (w.alloc o) :=
  ⟨h.os, h.tape, h.output, by have := h.size; simp; omega, fun k hk hn => (Below.heap_alloc w o k (Nat.lt_of_lt_of_le hk h.size)).trans (h.block k hk hn)⟩
theorem Touch.setCell {S : List Nat} {a w : World} (h : Touch S a w) {p : Addr} (hp : p.block ∈ S ∨ a.heap.size ≤ p.block) (u : Value) : Touch S a (w.setCell p u) :=
  ⟨h.os, h.tape, h.output, by have := h.size; simp [World.setCell]; omega, fun k hk hn =>
    (Below.heap_setCell w p u k (fun e => by subst e; exact hp.elim hn (fun h => by omega))).trans (h.block k hk hn)⟩
theorem Touch.grown {S : List Nat} {a w w' : World} {row : Option Nat} (h : Touch S a w) (hg : w.grownBy w' row) (hr : ∀ k, row = some k → k ∈ S ∨ a.heap.size ≤ k) : Touch S a w' :=
  ⟨hg.os.trans h.os, hg.tape.trans h.tape, hg.output.trans h.output, Nat.le_trans h.size hg.size, fun k hk hn =>
    (hg.block k (Nat.lt_of_lt_of_le hk h.size) (fun e => (hr k e.symm).elim hn (fun h => by omega))).trans (h.block k hk hn)⟩
theorem Touch.ofBelow {w w' : World} (h : Below w.heap.size w w') : Touch [] w w' := ⟨h.os, h.tape, h.output, h.size, fun k hk _ => h.block k hk⟩
theorem Touch.below {S : List Nat} {w w' : World} {B : Nat} (h : Touch S w w') (hB : B ≤ w.heap.size) (hS : ∀ k ∈ S, B ≤ k) : Below B w w' :=
  ⟨h.os, h.tape, h.output, h.size, fun k hk => h.block k (by omega) (fun hs => by have := hS k hs; omega)⟩
theorem Touch.cell {S : List Nat} {w w' : World} (h : Touch S w w') {p : Addr} (hp : p.block < w.heap.size) (hn : p.block ∉ S) : w'.cell? p = w.cell? p := World.cell?_of_block (h.block p.block hp hn)
theorem Touch.frozen {S : List Nat} {w w' : World} (h : Touch S w w') {p : Addr} (hp : p.block < w.heap.size) (hn : p.block ∉ S) : w'.frozen? p = w.frozen? p := World.frozen?_of_block (h.block p.block hp hn)

/-- block p is known whole -/
def Blk (w : World) (p : Nat) (cs : Array Value) (t : TypeId) : Prop := w.heap[p]? = some (.cells cs t (0, 0))
theorem Blk.lt {w : World} {p : Nat} {cs : Array Value} {t : TypeId} (h : Blk w p cs t) : p < w.heap.size := (Array.getElem?_eq_some_iff.1 h).1
theorem Blk.cell {w : World} {p : Nat} {cs : Array Value} {t : TypeId} (h : Blk w p cs t) (i : Nat) : w.cell? ⟨p, i, none⟩ = cs[i]? := cell_of_row w p i cs t (0, 0) h
theorem Blk.free {w : World} {p : Nat} {cs : Array Value} {t : TypeId} (h : Blk w p cs t) (i : Nat) : w.frozen? ⟨p, i, none⟩ = false := frozen_of_row w p i cs t h
theorem Blk.set {w : World} {p : Nat} {cs : Array Value} {t : TypeId} (h : Blk w p cs t) (i : Nat) (v : Value) : Blk (w.setCell ⟨p, i, none⟩ v) p (cs.setIfInBounds i v) t := heap_setCell_same w p i cs t v h
theorem Blk.setOther {w : World} {p : Nat} {cs : Array Value} {t : TypeId} (h : Blk w p cs t) {a : Addr} (ha : p ≠ a.block) (v : Value) : Blk (w.setCell a v) p cs t := (heap_setCell_other w a p v ha).trans h
theorem Blk.drew {w : World} {p : Nat} {cs : Array Value} {t : TypeId} (h : Blk w p cs t) : Blk w.drew p cs t := h
theorem Blk.alloc {w : World} {p : Nat} {cs : Array Value} {t : TypeId} (h : Blk w p cs t) (o : Obj) : Blk (w.alloc o) p cs t := (Below.heap_alloc w o p h.lt).trans h
theorem Blk.new (w : World) (cs : Array Value) (t : TypeId) : Blk (w.alloc (.cells cs t)) w.heap.size cs t := heap_alloc_new w _
theorem Blk.touch {S : List Nat} {w w' : World} {p : Nat} {cs : Array Value} {t : TypeId} (h : Blk w p cs t) (hT : Touch S w w') (hn : p ∉ S) : Blk w' p cs t := (hT.block p h.lt hn).trans h
theorem Blk.grown {w w' : World} {row : Option Nat} {p : Nat} {cs : Array Value} {t : TypeId} (h : Blk w p cs t) (hg : w.grownBy w' row) (hn : some p ≠ row) : Blk w' p cs t := (hg.block p h.lt hn).trans h

theorem ownsRow_touch {S : List Nat} {w w' : World} {base : Nat} {e : TypeId} {size : Nat} {v : Value} {n : Nat} {xs : List Value} (h : w.ownsRow base e size v n xs) (hT : Touch S w w') (hn : ∀ k, v.ownBlock = some k → k ∉ S) : w'.ownsRow base e size v n xs := by
  refine ⟨h.1, ?_⟩
  rcases h.2 with h0 | ⟨g, cap, cur, rfl, hb, hgg, rest⟩
  · exact .inl h0
  · exact .inr ⟨g, cap, cur, rfl, hb, (hT.block g (Array.getElem?_eq_some_iff.1 hgg).1 (hn g rfl)).trans hgg, rest⟩
theorem ownsRow_lt {w : World} {base : Nat} {e : TypeId} {size : Nat} {v : Value} {n : Nat} {xs : List Value} (h : w.ownsRow base e size v n xs) : ∀ k ∈ v.ownBlock, k < w.heap.size := fun k hk => (h.lt k hk).2
theorem ownsRow_slice {w : World} {base : Nat} {e : TypeId} {size : Nat} {v : Value} {n : Nat} {xs : List Value} (h : w.ownsRow base e size v n xs) : ∃ A cap, v = .slice A n cap := by
  rcases h.2 with ⟨rfl, rfl⟩ | ⟨g, cap, _, rfl, _⟩
  · exact ⟨_, _, rfl⟩
  · exact ⟨_, _, rfl⟩
end Go.Proofs.Ytjgmlpfallakmaa
end
section
namespace Go.Proofs.Ytjgmlpfallakmaa
structure RD where
  sector : List ByteArray
  row : List (Nat × ByteArray)
  off : Bool
  left : Int
  count : Int
  wrote : Int
namespace RD
def last (l : List (Nat × ByteArray)) (i : Nat) (s : ByteArray) : ByteArray := l.foldl (fun s x => if x.1 = i then x.2 else s) s
def writes (l : List (Nat × ByteArray)) (i : Nat) : List ByteArray := (l.filter fun x => decide (x.1 = i)).map (·.2)
def synced (l : List (Nat × ByteArray)) (s : List ByteArray) : List ByteArray := l.foldl (fun s x => s.set x.1 x.2) s
/-- how many writes of the sector last: m wait, it is the turn-th -/
def keeps (picks : List Int) (turn m : Nat) : Nat :=
  if picks.length = 0 then 0 else if 0 < picks.getD (turn % picks.length) 0 then ((picks.getD (turn % picks.length) 0) % ((m : Int) + 1)).toNat else 0
/-- sector by sector: n sectors from the i-th on, the turn-th of those that wait -/
def started (picks : List Int) (row : List (Nat × ByteArray)) : Nat → Nat → Nat → List ByteArray → List ByteArray
  | 0, _, _, s => s
  | n + 1, i, turn, s =>
    if (writes row i).length = 0 then started picks row n (i + 1) turn s
    else started picks row n (i + 1) (turn + 1) (if keeps picks turn (writes row i).length = 0 then s else s.set i ((writes row i).getD (keeps picks turn (writes row i).length - 1) ⟨#[]⟩))
def stepped (d : RD) : RD :=
  if d.off then d else if d.left = 1 then { d with count := d.count + 1, off := true, left := 0 }
  else if 1 < d.left then { d with count := d.count + 1, left := d.left - 1 } else { d with count := d.count + 1 }
def goes (d : RD) : Bool := !d.off && !decide (d.left = 1)
def has (d : RD) (i : Int) : Bool := decide (0 ≤ i) && decide (i < d.sector.length)
def readS (d : RD) (i : Int) : ByteArray := if d.has i && !d.off then last d.row i.toNat (d.sector.getD i.toNat ⟨#[]⟩) else ⟨#[]⟩
def readE (d : RD) (i : Int) : Int := if d.has i then (if d.off then 6 else 0) else 1
def writeD (d : RD) (i : Int) (s : ByteArray) : RD :=
  if d.has i && decide (s.size = 128) then (if d.goes then { d.stepped with row := d.row ++ [(i.toNat, s)], wrote := d.wrote + 1 } else d.stepped) else d
def writeE (d : RD) (i : Int) (s : ByteArray) : Int := if d.has i && decide (s.size = 128) then (if d.goes then 0 else 6) else 1
def syncD (d : RD) : RD := if d.goes then { d.stepped with sector := synced d.row d.sector, row := [] } else d.stepped
def syncE (d : RD) : Int := if d.goes then 0 else 6
def fuseD (d : RD) (n : Int) : RD := if d.off then d else { d with left := if n < 1 then 0 else n }
def fuseE (d : RD) : Int := if d.off then 6 else 0
def cutD (d : RD) : RD := if d.off then d else { d with off := true, left := 0 }
def startD (d : RD) (picks : List Int) : RD := if d.off then { d with sector := started picks d.row d.sector.length 0 0 d.sector, row := [], off := false } else d
def startE (d : RD) : Int := if d.off then 0 else 10
def waitsIn (l : List (Nat × ByteArray)) (i : Int) : Nat := if 0 ≤ i then (writes l i.toNat).length else 0
def waits (d : RD) (i : Int) : Nat := waitsIn d.row i
/-- bounds: at most K calls were made -/
structure Ok (K : Nat) (d : RD) : Prop where
  len : d.sector.length ≤ 2048
  row : d.row.length ≤ K
  at_ : ∀ x ∈ d.row, x.1 < d.sector.length
  left : 0 ≤ d.left ∧ d.left ≤ 9223372036854775807
  count : 0 ≤ d.count ∧ d.count ≤ K
  wrote : 0 ≤ d.wrote ∧ d.wrote ≤ K
theorem stepped_sector (d : RD) : d.stepped.sector = d.sector := by unfold stepped; split <;> (try split) <;> (try split) <;> rfl
theorem stepped_row (d : RD) : d.stepped.row = d.row := by unfold stepped; split <;> (try split) <;> (try split) <;> rfl
theorem stepped_wrote (d : RD) : d.stepped.wrote = d.wrote := by unfold stepped; split <;> (try split) <;> (try split) <;> rfl
theorem writes_length_le (l : List (Nat × ByteArray)) (i : Nat) : (writes l i).length ≤ l.length := by
  unfold writes
  rw [List.length_map]
  exact List.length_filter_le _ _
theorem waitsIn_le (l : List (Nat × ByteArray)) (i : Int) : waitsIn l i ≤ l.length := by
  unfold waitsIn
  split
  · exact writes_length_le _ _
  · omega
theorem writes_snoc (l : List (Nat × ByteArray)) (x : Nat × ByteArray) (i : Nat) : writes (l ++ [x]) i = if x.1 = i then writes l i ++ [x.2] else writes l i := by
  unfold writes
  rw [List.filter_append]
  by_cases hh : x.1 = i <;> simp [hh]
theorem take_snoc (l : List (Nat × ByteArray)) (k : Nat) (h : k < l.length) : l.take (k + 1) = l.take k ++ [l[k]] := List.take_succ_eq_append_getElem h
theorem waitsIn_yes (l : List (Nat × ByteArray)) (k : Nat) (h : k < l.length) (i : Int) (he : (l[k].1 : Int) = i) : waitsIn (l.take (k + 1)) i = waitsIn (l.take k) i + 1 := by
  unfold waitsIn
  rw [if_pos (by omega), if_pos (by omega), take_snoc l k h, writes_snoc, if_pos (by omega), List.length_append]
  rfl
theorem waitsIn_no (l : List (Nat × ByteArray)) (k : Nat) (h : k < l.length) (i : Int) (he : (l[k].1 : Int) ≠ i) : waitsIn (l.take (k + 1)) i = waitsIn (l.take k) i := by
  unfold waitsIn
  by_cases hi : 0 ≤ i
  · rw [if_pos hi, if_pos hi, take_snoc l k h, writes_snoc, if_neg (by omega)]
  · rw [if_neg hi, if_neg hi]
theorem last_snoc (l : List (Nat × ByteArray)) (k : Nat) (h : k < l.length) (i : Nat) (s : ByteArray) : last (l.take (k + 1)) i s = if l[k].1 = i then l[k].2 else last (l.take k) i s := by
  rw [take_snoc l k h]
  unfold last
  rw [List.foldl_append]
  rfl
theorem synced_snoc (l : List (Nat × ByteArray)) (k : Nat) (h : k < l.length) (s : List ByteArray) : synced (l.take (k + 1)) s = (synced (l.take k) s).set l[k].1 l[k].2 := by
  rw [take_snoc l k h]
  unfold synced
  rw [List.foldl_append]
  rfl
theorem synced_length (l : List (Nat × ByteArray)) (s : List ByteArray) : (synced l s).length = s.length := by
  induction l generalizing s with
  | nil => rfl
  | cons x l ih =>
    have : synced (x :: l) s = synced l (s.set x.1 x.2) := rfl
    rw [this, ih, List.length_set]
/-- sector i behind the writes ws -/
def put (ws : List ByteArray) (i : Nat) (s : List ByteArray) : List ByteArray := if ws.length = 0 then s else s.set i (ws.getD (ws.length - 1) ⟨#[]⟩)
theorem put_length (ws : List ByteArray) (i : Nat) (s : List ByteArray) : (put ws i s).length = s.length := by unfold put; split <;> simp
theorem put_snoc (ws : List ByteArray) (x : ByteArray) (i : Nat) (s : List ByteArray) : put (ws ++ [x]) i s = (put ws i s).set i x := by
  unfold put
  rw [if_neg (by simp)]
  have e : (ws ++ [x]).getD ((ws ++ [x]).length - 1) ⟨#[]⟩ = x := by simp [List.getD_eq_getElem?_getD]
  rw [e]
  split
  · rfl
  · rw [List.set_set]
theorem writes_take_prefix (l : List (Nat × ByteArray)) (k i : Nat) : ∃ t, writes l i = writes (l.take k) i ++ t := by
  refine ⟨writes (l.drop k) i, ?_⟩
  unfold writes
  conv => lhs; rw [← List.take_append_drop k l]
  rw [List.filter_append, List.map_append]
/-- so many of the writes that wait last -/
theorem put_kept (l : List (Nat × ByteArray)) (k i n : Nat) (s : List ByteArray) (h : (writes (l.take k) i).length = n) :
    put (writes (l.take k) i) i s = if n = 0 then s else s.set i ((writes l i).getD (n - 1) ⟨#[]⟩) := by
  obtain ⟨t, ht⟩ := writes_take_prefix l k i
  unfold put
  rw [h, ht]
  split
  · rfl
  · rw [List.getD_eq_getElem?_getD, List.getD_eq_getElem?_getD, List.getElem?_append_left (by omega)]
theorem keeps_le (picks : List Int) (turn m : Nat) : keeps picks turn m ≤ m := by
  unfold keeps
  split
  · omega
  · split
    · have := Int.emod_lt_of_pos (picks.getD (turn % picks.length) 0) (show (0 : Int) < (m : Int) + 1 by omega)
      omega
    · omega
theorem started_skip (picks : List Int) (row : List (Nat × ByteArray)) (n i turn : Nat) (s : List ByteArray) (h : (writes row i).length = 0) : started picks row (n + 1) i turn s = started picks row n (i + 1) turn s := by
  rw [started, if_pos h]
theorem started_take (picks : List Int) (row : List (Nat × ByteArray)) (n i turn : Nat) (s : List ByteArray) (h : ¬ (writes row i).length = 0) :
    started picks row (n + 1) i turn s = started picks row n (i + 1) (turn + 1) (if keeps picks turn (writes row i).length = 0 then s else s.set i ((writes row i).getD (keeps picks turn (writes row i).length - 1) ⟨#[]⟩)) := by
  rw [started, if_neg h]
/-- a device of n sectors of noughts: the text of noughts is z -/
def fresh (z : ByteArray) (n : Nat) : RD := { sector := List.replicate n z, row := [], off := false, left := 0, count := 0, wrote := 0 }
end RD
end Go.Proofs.Ytjgmlpfallakmaa
end
section
namespace Go.Proofs.Ytjgmlpfallakmaa
open Go.RowKit
def refCells (vs vr : Value) (d : RD) : Array Value := #[vs, vr, .bool d.off, .int .i64 d.left, .int .i64 d.count, .int .i64 d.wrote]
def rowCells (l : List (Nat × ByteArray)) : List Value := l.flatMap fun x => [.int .i64 (x.1 : Int), .string x.2]
/-- what a call leaves that answers e0 and makes the device d' -/
def Did (At : World → Nat → RD → List Nat → Prop) (w : World) (p : Nat) (F : List Nat) (d' : RD) (e0 : Ending) (e : Ending) (w' : World) : Prop :=
  e = e0 ∧ ∃ F', At w' p d' F' ∧ Touch F w w' ∧ Grows F F' w.heap.size
theorem rowCells_length (l : List (Nat × ByteArray)) : (rowCells l).length = l.length * 2 := by
  induction l with
  | nil => rfl
  | cons x l ih => simp only [rowCells, List.flatMap_cons, List.length_append] at ih ⊢; rw [ih]; simp; omega
theorem rowCells_at (l : List (Nat × ByteArray)) (k : Nat) (h : k < l.length) : (rowCells l)[k * 2]? = some (.int .i64 (l[k].1 : Int)) ∧ (rowCells l)[k * 2 + 1]? = some (.string l[k].2) := by
  induction l generalizing k with
  | nil => simp at h
  | cons x l ih =>
    have e : rowCells (x :: l) = .int .i64 (x.1 : Int) :: .string x.2 :: rowCells l := rfl
    rw [e]
    cases k with
    | zero => exact ⟨rfl, rfl⟩
    | succ k =>
      rw [show (k + 1) * 2 = k * 2 + 1 + 1 from by omega]
      simp only [List.getElem?_cons_succ, List.getElem_cons_succ]
      exact ih k (by simpa using h)
/-- a row of texts: its cells -/
theorem text_at {w : World} {A : Option Addr} {n cap : Nat} {e : TypeId} {l : List ByteArray} (hr : w.ownsRow 0 e 1 (.slice A n cap) l.length (l.map Value.string)) (k : Nat) (h : k < l.length) :
    ∃ g, A = some ⟨g, 0, none⟩ ∧ n = l.length ∧ n ≤ cap ∧ w.cell? ⟨g, k, none⟩ = some (.string l[k]) := by
  obtain ⟨g, cap', hv, _, _⟩ := hr.form (by omega)
  injection hv with e1 e2 e3
  subst e1 e2 e3
  have hc : l.length ≤ cap := by
    rcases hr.2 with ⟨h0, _⟩ | ⟨_, _, _, hv, _, _, hn, _⟩
    · simp at h0
    · injection hv with _ _ e; omega
  refine ⟨g, rfl, rfl, hc, ?_⟩
  rw [hr.cellAt _ (by omega)]
  simp [h]
theorem text_len {w : World} {A : Option Addr} {n cap : Nat} {e : TypeId} {l : List ByteArray} (hr : w.ownsRow 0 e 1 (.slice A n cap) l.length (l.map Value.string)) : n = l.length := by
  rcases hr.2 with ⟨hv, h0⟩ | ⟨_, _, _, hv, _⟩
  · injection hv with _ e2 _; omega
  · injection hv
end Go.Proofs.Ytjgmlpfallakmaa
end
section
namespace Go.Proofs.Ytjgmlpfallakmaa
open Go.RowKit
theorem rowCells_snoc (l : List (Nat × ByteArray)) (x : Nat × ByteArray) : rowCells (l ++ [x]) = rowCells l ++ [.int .i64 (x.1 : Int), .string x.2] := by
  simp [rowCells]
theorem nodup_grown {p : Nat} {a b : Option Nat} {g n : Nat} (hN : (p :: (a.toList ++ b.toList)).Nodup) (hp : p < n) (ha : ∀ k, a = some k → k < n) (hg : b = some g ∨ n ≤ g) : (p :: (a.toList ++ [g])).Nodup := by
  rcases hg with rfl | hg
  · exact hN
  · cases a with
    | none => simp; omega
    | some k =>
      have := ha k rfl
      simp at hN ⊢
      omega
theorem sep3 {p : Nat} {a b : Option Nat} (hN : (p :: (a.toList ++ b.toList)).Nodup) : a ≠ some p ∧ b ≠ some p ∧ ∀ k, a = some k → b ≠ some k := by
  refine ⟨?_, ?_, ?_⟩
  · rintro rfl; simp at hN
  · rintro rfl; simp at hN
  · rintro k rfl rfl; simp at hN
theorem nodup_head {p : Nat} {a : Option Nat} (h : a ≠ some p) : (p :: (a.toList ++ (none : Option Nat).toList)).Nodup := by
  cases a with
  | none => simp
  | some k => simp at h ⊢; omega
theorem mem2 {p k : Nat} {b : Option Nat} (h : k ∈ p :: b.toList) : k = p ∨ b = some k := by
  cases b <;> simp at h ⊢ <;> omega
theorem mem3 {p k : Nat} {a b : Option Nat} : k ∈ p :: (a.toList ++ b.toList) ↔ k = p ∨ a = some k ∨ b = some k := by
  cases a <;> cases b <;> simp <;> omega
end Go.Proofs.Ytjgmlpfallakmaa
end
section
namespace Go.Proofs.Ytjgmlpfallakmaa
open Go.RowKit
/-- the slice v reads as the numbers l, outside of the blocks F -/
def NumsAt (w : World) (F : List Nat) (v : Value) (l : List Int) : Prop :=
  ∃ A cap, v = .slice A l.length cap ∧ l.length ≤ 9223372036854775807 ∧ (∀ z ∈ l, -9223372036854775808 ≤ z ∧ z ≤ 9223372036854775807) ∧
    ∀ j (h : j < l.length), ∃ b off, A = some ⟨b, off, none⟩ ∧ b ∉ F ∧ b < w.heap.size ∧ w.cell? ⟨b, off + j, none⟩ = some (.int .i64 l[j])
theorem NumsAt.touch {w w' : World} {F S : List Nat} {v : Value} {l : List Int} (h : NumsAt w F v l) (hT : Touch S w w') (hS : ∀ k ∈ S, k ∈ F) : NumsAt w' F v l := by
  obtain ⟨A, cap, hv, hl, hz, hc⟩ := h
  refine ⟨A, cap, hv, hl, hz, fun j hj => ?_⟩
  obtain ⟨b, off, hA, hb, hlt, hcell⟩ := hc j hj
  exact ⟨b, off, hA, hb, Nat.lt_of_lt_of_le hlt hT.size, (hT.cell (p := ⟨b, off + j, none⟩) hlt (fun hk => hb (hS _ hk))).trans hcell⟩
end Go.Proofs.Ytjgmlpfallakmaa
end
section
namespace Go.Proofs.Ytjgmlpfallakmaa
open Go.RowKit

def bv (l : List UInt8) : List Value := l.map fun b => Value.int .u8 b.toNat
theorem bv_length (l : List UInt8) : (bv l).length = l.length := by simp [bv]
theorem bv_append (l k : List UInt8) : bv (l ++ k) = bv l ++ bv k := by simp [bv]
theorem bv_one (l : List UInt8) : ∀ u ∈ bv l, u.oneCell' = true := by
  intro u hu
  simp only [bv, List.mem_map] at hu
  obtain ⟨b, _, rfl⟩ := hu
  rfl

/-- the slice v reads as the bytes l; its block lies from 'base' on; none of its cells is frozen -/
def OwnB (w : World) (base : Nat) (e : TypeId) (v : Value) (l : List UInt8) : Prop :=
  (v = .slice none 0 0 ∧ l = []) ∨
  ∃ g cap cur fz, v = .slice (some ⟨g, 0, none⟩) l.length cap ∧ base ≤ g ∧ w.heap[g]? = some (.cells cur e fz) ∧ (∀ j, j < cur.size → (decide (fz.1 ≤ j) && decide (j < fz.2)) = false) ∧
    l.length ≤ cap ∧ cap ≤ maxLen ∧ cur.size = cap ∧ cur.toList.take l.length = bv l

theorem OwnB.nil (w : World) (base : Nat) (e : TypeId) : OwnB w base e (.slice none 0 0) [] := .inl ⟨rfl, rfl⟩

theorem OwnB.form {w : World} {base : Nat} {e : TypeId} {v : Value} {l : List UInt8} (h : OwnB w base e v l) : ∃ A cap, v = .slice A l.length cap := by
  rcases h with ⟨rfl, rfl⟩ | ⟨g, cap, _, _, rfl, _⟩
  · exact ⟨_, _, rfl⟩
  · exact ⟨_, _, rfl⟩
theorem OwnB.kept {w w' : World} {base B : Nat} {e : TypeId} {v : Value} {l : List UInt8} (h : OwnB w base e v l) (hb : Below B w w') (hB : w.heap.size ≤ B) : OwnB w' base e v l := by
  rcases h with h | ⟨g, cap, cur, fz, rfl, h1, h2, h3⟩
  · exact .inl h
  · refine .inr ⟨g, cap, cur, fz, rfl, h1, ?_, h3⟩
    rw [hb.block g (Nat.lt_of_lt_of_le (Array.getElem?_eq_some_iff.1 h2).1 hB)]
    exact h2

theorem OwnB.alloc {w : World} {base : Nat} {e : TypeId} {v : Value} {l : List UInt8} (h : OwnB w base e v l) (o : Obj) : OwnB (w.alloc o) base e v l :=
  h.kept ((Below.refl w.heap.size w).alloc (Nat.le_refl _) o) (Nat.le_refl _)
theorem OwnB.drew {w : World} {base : Nat} {e : TypeId} {v : Value} {l : List UInt8} (h : OwnB w base e v l) : OwnB w.drew base e v l := h

theorem OwnB.cells {w : World} {base : Nat} {e : TypeId} {v : Value} {l : List UInt8} (h : OwnB w base e v l) {g n cap : Nat} (hv : v = .slice (some ⟨g, 0, none⟩) n cap) :
    n = l.length ∧ ∀ j u, (bv l)[j]? = some u → w.cell? ((⟨g, 0, none⟩ : Addr).add j) = some u := by
  rcases h with ⟨rfl, rfl⟩ | ⟨g', cap', cur, fz, rfl, _, hg, _, _, _, _, ht⟩
  · simp at hv
  · injection hv with e1 e2 e3
    injection e1 with e1
    injection e1 with e1
    subst e1 e2
    refine ⟨rfl, fun j u hu => ?_⟩
    have hadd : (⟨g', 0, none⟩ : Addr).add j = ⟨g', j, none⟩ := by unfold Addr.add; split <;> simp_all
    rw [hadd, cell_of_row w g' j cur e fz hg]
    rw [← ht, List.getElem?_take] at hu
    split at hu
    · simpa using hu
    · cases hu

/-- '[]byte{}' -/
theorem OwnB.empty (w : World) (base : Nat) (e : TypeId) (hb : base ≤ w.heap.size) : OwnB (w.alloc (.cells #[] e)) base e (.slice (some ⟨w.heap.size, 0, none⟩) 0 0) [] :=
  .inr ⟨w.heap.size, 0, #[], (0, 0), rfl, hb, heap_alloc_new w _, by simp, Nat.le_refl _, by simp, rfl, by simp [bv]⟩

/-- '[]byte{b, ..}' -/
theorem OwnB.lit (w : World) (base : Nat) (e : TypeId) (hb : base ≤ w.heap.size) (l : List UInt8) (hl : l.length ≤ maxLen) (cs : Array Value) (hc : cs = (bv l).toArray) (n : Nat) (hn : n = l.length) :
    OwnB (w.alloc (.cells cs e)) base e (.slice (some ⟨w.heap.size, 0, none⟩) n n) l := by
  subst hc hn
  exact .inr ⟨w.heap.size, l.length, _, (0, 0), rfl, hb, heap_alloc_new w _, by simp, Nat.le_refl _, hl, by simp [bv], by simp [bv, List.take_of_length_le]⟩

/-- '[]byte(s)' -/
theorem OwnB.conv (w : World) (base : Nat) (e : TypeId) (s : ByteArray) (hb : base ≤ w.heap.size) (hs : s.size ≤ maxLen) :
    OwnB (Lib.bytesWorld w e s) base e (.slice (some ⟨w.heap.size, 0, none⟩) s.size (grownCap w s.size 0 e)) s.data.toList := by
  have hge := grownCap_ge w s.size 0 e
  refine .inr ⟨w.heap.size, grownCap w s.size 0 e, _, _, by rw [Array.length_toList]; rfl, hb, Lib.bytesWorld_at_new w e s, ?_, ?_, grownCap_le_maxLen w s.size 0 e hs, ?_, ?_⟩
  · intro j hj
    have : ¬ ((Lib.bytesCells w e s).size ≤ j) := by omega
    simp [this]
  · rw [Array.length_toList]; exact hge
  · simp only [Lib.bytesCells, Array.size_append, Array.size_map, Array.size_replicate]
    have : s.data.size = s.size := rfl
    omega
  · simp only [Lib.bytesCells, Array.toList_append, Array.toList_map, bv]
    rw [List.take_left' (by simp)]
theorem below_conv (w : World) (e : TypeId) (s : ByteArray) : Below w.heap.size w (Lib.bytesWorld w e s) :=
  ⟨rfl, rfl, rfl, by rw [Lib.bytesWorld_size]; omega, fun k hk => Lib.bytesWorld_at_old w e s k hk⟩

theorem OwnB.set {w : World} {base : Nat} {e : TypeId} {g n cap : Nat} {l : List UInt8} (h : OwnB w base e (.slice (some ⟨g, 0, none⟩) n cap) l) (j : Nat) (b : UInt8) :
    OwnB (w.setCell ⟨g, j, none⟩ (.int .u8 b.toNat)) base e (.slice (some ⟨g, 0, none⟩) n cap) (l.set j b) := by
  rcases h with ⟨h, _⟩ | ⟨g', cap', cur, fz, hv, h1, h2, h3, h4, h5, h6, h7⟩
  · simp at h
  · injection hv with e1 e2 e3
    injection e1 with e1
    injection e1 with e1
    subst e1 e2 e3
    refine .inr ⟨g, cap, cur.setIfInBounds j (.int .u8 b.toNat), fz, by simp, h1, ?_, by simpa using h3, by simpa using h4, h5, by simpa using h6, ?_⟩
    · rw [setCell_eq_setRow w g j cur e fz _ h2]
      exact setRow_heap w g cur _ e _ h2
    · rw [Array.toList_setIfInBounds, List.length_set, List.take_set, h7]
      simp [bv, List.map_set]
theorem OwnB.cellAt {w : World} {base : Nat} {e : TypeId} {g n cap : Nat} {l : List UInt8} (h : OwnB w base e (.slice (some ⟨g, 0, none⟩) n cap) l) (j : Nat) (hj : j < l.length) :
    w.cell? ⟨g, j, none⟩ = some (.int .u8 (l[j].toNat)) := by
  have := (h.cells rfl).2 j (.int .u8 (l[j].toNat)) (by simp [bv, hj])
  have hadd : (⟨g, 0, none⟩ : Addr).add j = ⟨g, j, none⟩ := by unfold Addr.add; split <;> simp_all
  rwa [hadd] at this
theorem OwnB.free {w : World} {base : Nat} {e : TypeId} {g n cap : Nat} {l : List UInt8} (h : OwnB w base e (.slice (some ⟨g, 0, none⟩) n cap) l) (j : Nat) (hj : j < l.length) :
    w.frozen? ⟨g, j, none⟩ = false := by
  rcases h with ⟨h, _⟩ | ⟨g', cap', cur, fz, hv, h1, h2, h3, h4, h5, h6, h7⟩
  · simp at h
  · injection hv with e1 e2 e3
    injection e1 with e1
    injection e1 with e1
    subst e1 e2 e3
    have := h3 j (by omega)
    obtain ⟨lo, hi⟩ := fz
    simp only [World.frozen?, h2]
    exact this

section
variable {P : Program} (w : World)

theorem run_storeCells_B (g o : Nat) (t : TypeId) (fz : Nat × Nat) : ∀ (vs : List Value) (i : Nat) (cur : Array Value) (w : World), w.heap[g]? = some (.cells cur t fz) →
    (∀ j, j < cur.size → (decide (fz.1 ≤ j) && decide (j < fz.2)) = false) → o + i + vs.length ≤ cur.size → (∀ v ∈ vs, v.oneCell' = true) →
    (storeCells ⟨g, o, none⟩ vs i).run P w = .ok () (w.setRow g (cur.toList.take (o + i) ++ vs ++ cur.toList.drop (o + i + vs.length)).toArray)
  | [], i, cur, w, hg, _, _, _ => by
    simp only [storeCells, List.append_nil, List.length_nil, Nat.add_zero, List.take_append_drop, Array.toArray_toList]
    rw [setRow_self w g cur t fz hg]
    rfl
  | v :: rest, i, cur, w, hg, hfz, hl, h1 => by
    have hi : o + i < cur.size := by simp at hl; omega
    have hadd : (⟨g, o, none⟩ : Addr).add i = ⟨g, o + i, none⟩ := by unfold Addr.add; split <;> simp_all
    have hcell : w.cell? ⟨g, o + i, none⟩ = some cur[o + i] := by simp [World.cell?, hg, hi]
    have hfro : w.frozen? ⟨g, o + i, none⟩ = false := by
      have := hfz (o + i) hi
      obtain ⟨lo, hi'⟩ := fz
      simp only [World.frozen?, hg]
      exact this
    have hst : (store ((⟨g, o, none⟩ : Addr).add i) v).run P w = .ok () (w.setRow g (cur.setIfInBounds (o + i) v)) := by
      rw [hadd, run_store P w _ v _ (h1 v (by simp)), hcell]
      simp [hfro, setCell_eq_setRow w g (o + i) cur t fz v hg]
    have ih := run_storeCells_B g o t fz rest (i + 1) (cur.setIfInBounds (o + i) v) (w.setRow g (cur.setIfInBounds (o + i) v)) (setRow_heap w g cur _ t _ hg) (by simpa using hfz) (by simp at hl ⊢; omega) (fun x hx => h1 x (by simp [hx]))
    simp only [storeCells, Sem.run_bind, hst, Result.andThen_ok, ih, setRow_setRow]
    congr 3
    have e := list_seg_step cur.toList (o + i) v rest (by simp at hl ⊢; omega)
    simpa [Array.toList_setIfInBounds, Nat.add_assoc] using e

/-- append of bytes onto such a slice -/
theorem run_append_BG (base : Nat) (t ty e : TypeId) (ht : P.underlying t = some (.slice e)) (hi : (P.info? e).map (fun i => (i.zero, i.size, i.bytes)) = some (some (.int .u8 0), 1, 1))
    (v : Value) (l : List UInt8) (hown : OwnB w base e v l) (a : Addr) (m c : Nat) (k : List UInt8) (hm : m = k.length)
    (hnews : ∀ j u, (bv k)[j]? = some u → w.cell? (a.add j) = some u) (hlen : l.length + k.length ≤ 140737488355328) (hbase : base ≤ w.heap.size) :
    ∃ v' w', (Builtin.append_ #[t, t] ty #[v, .slice (some a) m c]).run P w = .ok v' w' ∧ OwnB w' base e v' (l ++ k) ∧ w.grownBy w' v.ownBlock := by
  subst hm
  obtain ⟨i, hi, hz, hsize, hby⟩ := info_parts hi
  rcases hown with ⟨rfl, rfl⟩ | ⟨g, cap, cur, fz, rfl, hbg, hg, hfz, hnc, hcm, hcs, htake⟩
  · obtain ⟨v', w', r1, r2, r3, r4⟩ := run_append_own (P := P) w base t ty e i (.int .u8 0) 1 1 ht hi hz hsize hby rfl (by omega) (.slice none 0 0) 0 [] ⟨rfl, .inl ⟨rfl, rfl⟩⟩ a k.length c (bv k) (by simp [bv]) hnews (bv_one k) (by simp only [maxLen, List.length_nil] at hlen ⊢; omega) (by simpa using hlen) hbase
    refine ⟨v', w', r1, ?_, r3⟩
    rcases r2.2 with ⟨rfl, h0⟩ | ⟨g, cap, cur, rfl, q1, q2, q3, q4, q5, q6⟩
    · have : k = [] := List.eq_nil_of_length_eq_zero (by omega)
      subst this
      exact .inl ⟨rfl, rfl⟩
    · exact .inr ⟨g, cap, cur, (0, 0), by simp, q1, q2, by simp, by simpa using q3, q4, by simpa using q5, by simpa [bv] using q6⟩
  · by_cases hroom : l.length + k.length ≤ cap
    · have hf := run_firstCells_some (P := P) w i.size k.length a k.length c (bv k) (by rw [hsize]; simp [bv]) hnews
      have hst := run_storeCells_B (P := P) g l.length e fz (bv k) 0 cur w hg hfz (by rw [bv_length]; omega) (bv_one k)
      simp only [Nat.add_zero] at hst
      have hr : (Builtin.append_ #[t, t] ty #[.slice (some ⟨g, 0, none⟩) l.length cap, .slice (some a) k.length c]).run P w =
          .ok (.slice (some ⟨g, 0, none⟩) (l.length + k.length) cap) (w.setRow g (cur.toList.take l.length ++ bv k ++ cur.toList.drop (l.length + (bv k).length)).toArray) := by
        rw [hsize] at hf
        simp [Builtin.append_, run_underlying ht, sizeOf, typeInfo, hi, hsize, Builtin.lenOf, hroom, hf, Addr.add_lit, hst]
      refine ⟨_, _, hr, .inr ⟨g, cap, _, fz, by simp, hbg, setRow_heap w g cur _ e _ hg, ?_, by simpa using hroom, hcm, ?_, ?_⟩, ⟨rfl, rfl, rfl, by simp, fun j _ hj => setRow_other w g j _ (fun e => hj (by simp [Value.ownBlock, e]))⟩⟩
      · intro j hj
        apply hfz
        simp only [List.size_toArray, List.length_append, List.length_take, List.length_drop, Array.length_toList, bv_length] at hj
        omega
      · simp only [List.size_toArray, List.length_append, List.length_take, List.length_drop, Array.length_toList, bv_length]
        omega
      · rw [htake, bv_append, List.toList_toArray, List.take_left' (by simp [bv])]
    · have holds : ∀ j u, (bv l)[j]? = some u → w.cell? ((⟨g, 0, none⟩ : Addr).add j) = some u :=
        (OwnB.cells (w := w) (base := base) (e := e) (.inr ⟨g, cap, cur, fz, rfl, hbg, hg, hfz, hnc, hcm, hcs, htake⟩) rfl).2
      have h63 : l.length + k.length ≤ maxLen := by simp only [maxLen]; omega
      have hr := run_append_grow (P := P) w t ty e i (.int .u8 0) ht hi hz ⟨g, 0, none⟩ l.length cap (bv l) (by rw [hsize]; simp [bv]) holds a k.length c (bv k) (by rw [hsize]; simp [bv]) hnews (by omega) (by simp only [maxLen] at h63; omega) (growslice_fits (by omega) (by rw [hby]; omega))
      have hge := grownCap_ge w (l.length + k.length) cap e
      have hcm2 : grownCap w (l.length + k.length) cap e ≤ maxLen := grownCap_le_maxLen w _ cap e h63
      refine ⟨_, _, hr, .inr ⟨w.heap.size, _, _, (0, 0), by simp, hbase, heap_alloc_new w.drew _, by simp, by simpa using hge, hcm2, ?_, ?_⟩, ⟨rfl, rfl, rfl, by simp, fun j hj _ => Below.heap_alloc w.drew _ j (by simpa using hj)⟩⟩
      · simp only [Array.size_append, List.size_toArray, size_zeroCells, bv_length]
        show l.length + k.length + (_ - _) * 1 = _
        omega
      · simp only [Array.toList_append, bv_append]
        rw [List.take_left' (by simp [bv])]

theorem OwnB.from_ {w : World} {base : Nat} {e : TypeId} {v : Value} {l : List UInt8} (h : OwnB w base e v l) : ∀ k, v.ownBlock = some k → base ≤ k := by
  intro k hk
  rcases h with ⟨rfl, _⟩ | ⟨g, _, _, _, rfl, h1, _⟩
  · simp [Value.ownBlock] at hk
  · simp [Value.ownBlock] at hk
    omega
theorem run_append_B (base : Nat) (t ty e : TypeId) (ht : P.underlying t = some (.slice e)) (hi : (P.info? e).map (fun i => (i.zero, i.size, i.bytes)) = some (some (.int .u8 0), 1, 1))
    (v : Value) (l : List UInt8) (hown : OwnB w base e v l) (a : Addr) (m c : Nat) (k : List UInt8) (hm : m = k.length)
    (hnews : ∀ j u, (bv k)[j]? = some u → w.cell? (a.add j) = some u) (hlen : l.length + k.length ≤ 140737488355328) (hbase : base ≤ w.heap.size) :
    ∃ v' w', (Builtin.append_ #[t, t] ty #[v, .slice (some a) m c]).run P w = .ok v' w' ∧ OwnB w' base e v' (l ++ k) ∧ Below base w w' := by
  obtain ⟨v', w', h1, h2, h3⟩ := run_append_BG (P := P) w base t ty e ht hi v l hown a m c k hm hnews hlen hbase
  exact ⟨v', w', h1, h2, (Below.refl base w).grown h3 hbase hown.from_⟩

theorem wpList_append_B {ops : Array Oper} {rest : List Oper} {o : Oper} {a : Act} {Q : Exit → Act → World → Prop} (hgd : o.guard = none) (s x : Operand) (t : TypeId)
    (ho : o.op = .call { callee := .builtin .append, args := #[s, x], argTypes := #[t, t] })
    (base : Nat) (e : TypeId) (ht : P.underlying t = some (.slice e)) (hi : (P.info? e).map (fun i => (i.zero, i.size, i.bytes)) = some (some (.int .u8 0), 1, 1))
    (v : Value) (l : List UInt8) (hs : a.eval s = v) (hown : OwnB w base e v l)
    (ad : Addr) (m c : Nat) (k : List UInt8) (hx : a.eval x = .slice (some ad) m c) (hm : m = k.length) (hnews : ∀ j u, (bv k)[j]? = some u → w.cell? (ad.add j) = some u)
    (hlen : l.length + k.length ≤ 140737488355328) (hbase : base ≤ w.heap.size)
    (h : ∀ v' w', OwnB w' base e v' (l ++ k) → Below base w w' → wpList P ops Q rest (a.put o.dst v') w') : wpList P ops Q (o :: rest) a w := by
  refine wpList_plain hgd fun K hK => ?_
  obtain ⟨v', w', hr, h2, h3⟩ := run_append_B (P := P) w base t o.type e ht hi v l hown ad m c k hm hnews hlen hbase
  unfold Oper.wp execOp
  simp only [ho, resolve, invoke, builtin, Sem.run_bind, Sem.run_pure, Result.andThen_ok, List.map_toArray, List.map_cons, List.map_nil, hs, hx, hr]
  exact hK _ _ (h v' w' h2 h3)

theorem cells_one (w : World) (e : TypeId) (n : Int) (b : UInt8) (hb : n = b.toNat) : ∀ j u, (bv [b])[j]? = some u → (w.alloc (.cells #[.int .u8 n] e)).cell? ((⟨w.heap.size, 0, none⟩ : Addr).add j) = some u := by
  subst hb
  intro j u hu
  have hadd : (⟨w.heap.size, 0, none⟩ : Addr).add j = ⟨w.heap.size, j, none⟩ := by unfold Addr.add; split <;> simp_all
  rw [hadd, World.cell?_alloc_mark]
  cases j with
  | zero => simpa [bv] using hu
  | succ j => simp [bv] at hu

/-- 'b = append(b, byte)' -/
theorem wpList_append_byte {ops : Array Oper} {rest : List Oper} {o : Oper} {a : Act} {Q : Exit → Act → World → Prop} (hgd : o.guard = none) (s x : Operand) (t : TypeId)
    (ho : o.op = .call { callee := .builtin .append, args := #[s, x], argTypes := #[t, t] })
    (base : Nat) (e : TypeId) (ht : P.underlying t = some (.slice e)) (hi : (P.info? e).map (fun i => (i.zero, i.size, i.bytes)) = some (some (.int .u8 0), 1, 1))
    (v : Value) (l : List UInt8) (hs : a.eval s = v) (hown : OwnB w base e v l)
    (n : Int) (b : UInt8) (hb : n = b.toNat) (hx : a.eval x = .slice (some ⟨w.heap.size, 0, none⟩) 1 1)
    (hlen : l.length + 1 ≤ 140737488355328) (hbase : base ≤ w.heap.size)
    (h : ∀ v' w', OwnB w' base e v' (l ++ [b]) → Below base w w' → wpList P ops Q rest (a.put o.dst v') w') : wpList P ops Q (o :: rest) a (w.alloc (.cells #[.int .u8 n] e)) := by
  refine wpList_append_B (w := w.alloc (.cells #[.int .u8 n] e)) hgd s x t ho base e ht hi v l hs (hown.alloc _) ⟨w.heap.size, 0, none⟩ 1 1 [b] hx rfl (cells_one w e n b hb) (by simpa using hlen) (by simp; omega) ?_
  intro v' w' h1 h2
  exact h v' w' h1 (((Below.refl base w).alloc hbase _).trans h2)

theorem cells_lit (w : World) (e : TypeId) (k : List UInt8) (cs : Array Value) (hcs : cs = (bv k).toArray) : ∀ j u, (bv k)[j]? = some u → (w.alloc (.cells cs e)).cell? ((⟨w.heap.size, 0, none⟩ : Addr).add j) = some u := by
  subst hcs
  intro j u hu
  have hadd : (⟨w.heap.size, 0, none⟩ : Addr).add j = ⟨w.heap.size, j, none⟩ := by unfold Addr.add; split <;> simp_all
  rw [hadd, World.cell?_alloc_mark]
  simpa using hu

/-- 'b = append(b, byte, byte, ..)' -/
theorem wpList_append_bytes {ops : Array Oper} {rest : List Oper} {o : Oper} {a : Act} {Q : Exit → Act → World → Prop} (hgd : o.guard = none) (s x : Operand) (t : TypeId)
    (ho : o.op = .call { callee := .builtin .append, args := #[s, x], argTypes := #[t, t] })
    (base : Nat) (e : TypeId) (ht : P.underlying t = some (.slice e)) (hi : (P.info? e).map (fun i => (i.zero, i.size, i.bytes)) = some (some (.int .u8 0), 1, 1))
    (v : Value) (l : List UInt8) (hs : a.eval s = v) (hown : OwnB w base e v l)
    (k : List UInt8) (cs : Array Value) (hcs : cs = (bv k).toArray) (n : Nat) (hn : n = k.length) (hx : a.eval x = .slice (some ⟨w.heap.size, 0, none⟩) n n)
    (hlen : l.length + k.length ≤ 140737488355328) (hbase : base ≤ w.heap.size)
    (h : ∀ v' w', OwnB w' base e v' (l ++ k) → Below base w w' → wpList P ops Q rest (a.put o.dst v') w') : wpList P ops Q (o :: rest) a (w.alloc (.cells cs e)) := by
  refine wpList_append_B (w := w.alloc (.cells cs e)) hgd s x t ho base e ht hi v l hs (hown.alloc _) ⟨w.heap.size, 0, none⟩ n n k hx hn (cells_lit w e k cs hcs) (by simpa using hlen) (by simp; omega) ?_
  intro v' w' h1 h2
  exact h v' w' h1 (((Below.refl base w).alloc hbase _).trans h2)

/-- a row of other elements than bytes stays, where bytes are appended -/
theorem row_stays {w w' : World} {base base' : Nat} {e e' : TypeId} {v v' : Value} {l : List UInt8} {n : Nat} {xs : List Value} (hown : OwnB w base e v l) (hr : w.ownsRow base' e' 1 v' n xs) (hne : e' ≠ e) (hg : w.grownBy w' v.ownBlock) : w'.ownsRow base' e' 1 v' n xs := by
  refine hr.kept hg ?_
  rcases hr.2 with ⟨rfl, _⟩ | ⟨g', cap', cur', rfl, _, hg', _⟩
  · left; rfl
  · right
    intro he
    rcases hown with ⟨rfl, _⟩ | ⟨g, cap, cur, fz, rfl, _, hgg, _⟩
    · simp [Value.ownBlock] at he
    · simp [Value.ownBlock] at he
      subst he
      rw [hgg] at hg'
      injection hg' with hg'
      injection hg' with _ h2
      exact hne h2.symm
/-- bytes stay, where a row of other elements is appended to -/
theorem bytes_stay {w w' : World} {base base' : Nat} {e e' : TypeId} {v v' : Value} {l : List UInt8} {n : Nat} {xs : List Value} (hown : OwnB w base e v l) (hr : w.ownsRow base' e' 1 v' n xs) (hne : e' ≠ e) (hg : w.grownBy w' v'.ownBlock) : OwnB w' base e v l := by
  rcases hown with h | ⟨g, cap, cur, fz, rfl, h1, hgg, h3⟩
  · exact .inl h
  · refine .inr ⟨g, cap, cur, fz, rfl, h1, ?_, h3⟩
    rw [hg.block g (Array.getElem?_eq_some_iff.1 hgg).1 ?_]
    · exact hgg
    · intro he
      rcases hr.2 with ⟨rfl, _⟩ | ⟨g', cap', cur', rfl, _, hg', _⟩
      · simp [Value.ownBlock] at he
      · simp [Value.ownBlock] at he
        subst he
        rw [hgg] at hg'
        injection hg' with hg'
        injection hg' with _ h2
        exact hne h2.symm

/-- 'b = append(b, byte)', and what is told of other rows -/
theorem wpList_append_byteG {ops : Array Oper} {rest : List Oper} {o : Oper} {a : Act} {Q : Exit → Act → World → Prop} (hgd : o.guard = none) (s x : Operand) (t : TypeId)
    (ho : o.op = .call { callee := .builtin .append, args := #[s, x], argTypes := #[t, t] })
    (base : Nat) (e : TypeId) (ht : P.underlying t = some (.slice e)) (hi : (P.info? e).map (fun i => (i.zero, i.size, i.bytes)) = some (some (.int .u8 0), 1, 1))
    (v : Value) (l : List UInt8) (hs : a.eval s = v) (hown : OwnB w base e v l)
    (n : Int) (b : UInt8) (hb : n = b.toNat) (hx : a.eval x = .slice (some ⟨w.heap.size, 0, none⟩) 1 1)
    (hlen : l.length + 1 ≤ 140737488355328) (hbase : base ≤ w.heap.size)
    (e' : TypeId) (hne : e' ≠ e) (base' : Nat) (u : Value) (m : Nat) (xs : List Value) (hr : w.ownsRow base' e' 1 u m xs)
    (h : ∀ v' w', OwnB w' base e v' (l ++ [b]) → Below base w w' → w'.ownsRow base' e' 1 u m xs → wpList P ops Q rest (a.put o.dst v') w') : wpList P ops Q (o :: rest) a (w.alloc (.cells #[.int .u8 n] e)) := by
  refine wpList_plain hgd fun K hK => ?_
  obtain ⟨v', w', hr1, h2, h3⟩ := run_append_BG (P := P) (w.alloc (.cells #[.int .u8 n] e)) base t o.type e ht hi v l (hown.alloc _) ⟨w.heap.size, 0, none⟩ 1 1 [b] rfl (cells_one w e n b hb) (by simpa using hlen) (by simp; omega)
  unfold Oper.wp execOp
  simp only [ho, resolve, invoke, builtin, Sem.run_bind, Sem.run_pure, Result.andThen_ok, List.map_toArray, List.map_cons, List.map_nil, hs, hx, hr1]
  refine hK _ _ (h v' w' h2 (((Below.refl base w).alloc hbase _).grown h3 (by simp; omega) hown.from_) ?_)
  exact row_stays (hown.alloc _) (hr.alloc _) hne h3

/-- 'string(b)' -/
theorem run_string_B (src dst e : TypeId) (hs : P.underlying src = some (.slice e)) (he : P.underlying e = some (.int .u8)) (hd : P.underlying dst = some .string)
    (base : Nat) (v : Value) (l : List UInt8) (h : OwnB w base e v l) : (convert src dst v).run P w = .ok (.string ⟨l.toArray⟩) w := by
  have hf := h
  rcases h with ⟨rfl, rfl⟩ | ⟨g, cap, cur, fz, rfl, _⟩
  · exact run_convert_bytes_nil (P := P) w src e hs he 0 0 dst hd
  · obtain ⟨_, hc⟩ := hf.cells rfl
    have hl : (loadCells ⟨g, 0, none⟩ l.length).run P w = .ok ((l.map fun b => (b.toNat : Int)).map (Value.int .u8)).toArray w := by
      have := run_loadCells_list (P := P) w ⟨g, 0, none⟩ (bv l) (fun j u hj => hc j u hj)
      rw [bv_length] at this
      simpa [bv, Function.comp_def] using this
    rw [run_convert_bytes_string w src dst e _ l.length cap hs he hd, run_bytesToString w _ l.length cap _ hl, foldl_push_bytes]
    have : (l.map fun b => (b.toNat : Int)).map (fun n => UInt8.ofNat n.toNat) = l := by
      rw [List.map_map]
      conv => rhs; rw [← List.map_id l]
      apply List.map_congr_left
      intro b _
      simp
    rw [this]
    simp [ByteArray.empty, ByteArray.emptyWithCapacity]
    rfl
end

/-- the walk's own step for 's' of a text: its bytes -/
theorem str_data (s : ByteArray) : (⟨s.data.toList.toArray⟩ : ByteArray) = s := by simp
end Go.Proofs.Ytjgmlpfallakmaa
end
section
namespace Go.Proofs.Ytjgmlpfallakmaa
open Go.RowKit
/-- a byte k times, then noughts, n in all -/
def filled (n k : Nat) (c : UInt8) : List UInt8 := List.replicate k c ++ List.replicate (n - k) 0
def zeros (n : Nat) : Array Value := Array.replicate n (.int .u8 0)
theorem filled_length (n k : Nat) (c : UInt8) (h : k ≤ n) : (filled n k c).length = n := by unfold filled; simp; omega
theorem filled_set (n k : Nat) (c : UInt8) (h : k < n) : (filled n k c).set k c = filled n (k + 1) c := by
  unfold filled
  rw [List.set_append_right _ _ (by simp), show k - (List.replicate k c).length = 0 from by simp]
  rw [show n - k = (n - (k + 1)) + 1 from by omega, List.replicate_succ, List.set_cons_zero, List.replicate_succ']
  simp
theorem filled_zero (n : Nat) (c : UInt8) : (bv (filled n 0 c)).toArray = zeros n := by
  unfold filled zeros bv
  simp
theorem filled_all (n : Nat) (c : UInt8) : filled n n c = List.replicate n c := by unfold filled; simp
def sectorOf (c : UInt8) : ByteArray := ⟨(List.replicate 128 c).toArray⟩
theorem sectorOf_size (c : UInt8) : (sectorOf c).size = 128 := by
  unfold sectorOf
  rw [ByteArray.size_mk', List.size_toArray, List.length_replicate]
theorem sectorOf_inj (a b : UInt8) (h : sectorOf a = sectorOf b) : a = b := by
  have h1 := congrArg (fun s : ByteArray => s.data.toList[0]?) h
  simpa [sectorOf] using h1
/-- what Write is handed: the text, or a sector of the byte -/
def textOf (c : UInt8) (t : ByteArray) : ByteArray := if t.size = 0 then sectorOf c else t
end Go.Proofs.Ytjgmlpfallakmaa
end
section
namespace Go.Proofs.Ytjgmlpfallakmaa
open Go.RowKit
attribute [local go_sem ↓] Go.wp_at_zero Go.wp_at_succ
/-- what New leaves, of n sectors -/
def Made (At : World → Nat → RD → List Nat → Prop) (w : World) (n : Nat) (e : Ending) (w' : World) : Prop :=
  ∃ p F, e = .returned (.tuple #[.pointer (some ⟨p, 0, none⟩), .int .i64 0]) ∧ At w' p (RD.fresh (sectorOf 0) n) F ∧ (∀ k ∈ F, w.heap.size ≤ k) ∧ Below w.heap.size w w'
theorem info9 : (Try.prog.info? 9).map (fun i => (i.zero, i.size, i.bytes)) = some (some (.string ⟨#[]⟩), 1, 16) := by kernel_rfl
theorem nodup_first {p : Nat} {a b : Option Nat} {g n : Nat} (hN : (p :: (a.toList ++ b.toList)).Nodup) (hp : p < n) (hb : ∀ k, b = some k → k < n) (hg : a = some g ∨ n ≤ g) : (p :: ((some g).toList ++ b.toList)).Nodup := by
  rcases hg with rfl | hg
  · exact hN
  · cases b with
    | none => simp; omega
    | some k =>
      have := hb k rfl
      cases a <;> simp at hN ⊢ <;> omega
end Go.Proofs.Ytjgmlpfallakmaa
end
section
namespace Go.Proofs.Ytjgmlpfallakmaa
open Go.RowKit
/-- the calls that both devices have -/
structure CoreKit (At : World → Nat → RD → List Nat → Prop) (fwrite fsync ffuse fcut fstart fread fwaits : FuncId) : Prop where
  lt : ∀ {w : World} {p : Nat} {d : RD} {F : List Nat}, At w p d F → ∀ k ∈ F, k < w.heap.size
  touch : ∀ {w w' : World} {p : Nat} {d : RD} {F S : List Nat}, At w p d F → Touch S w w' → (∀ k ∈ S, k ∉ F) → At w' p d F
  write : ∀ (w : World) (p : Nat) (d : RD) (F : List Nat) (K : Nat), K ≤ 1000000 → RD.Ok K d → ∀ (i : Int) (s : ByteArray), At w p d F →
    Calls Try.prog fwrite #[.pointer (some ⟨p, 0, none⟩), .int .i64 i, .string s] w (Did At w p F (d.writeD i s) (.returned (.int .i64 (d.writeE i s))))
  sync : ∀ (w : World) (p : Nat) (d : RD) (F : List Nat) (K : Nat), K ≤ 1000000 → RD.Ok K d → At w p d F →
    Calls Try.prog fsync #[.pointer (some ⟨p, 0, none⟩)] w (Did At w p F d.syncD (.returned (.int .i64 d.syncE)))
  fuse : ∀ (w : World) (p : Nat) (d : RD) (F : List Nat) (n : Int), At w p d F →
    Calls Try.prog ffuse #[.pointer (some ⟨p, 0, none⟩), .int .i64 n] w (Did At w p F (d.fuseD n) (.returned (.int .i64 d.fuseE)))
  cut : ∀ (w : World) (p : Nat) (d : RD) (F : List Nat), At w p d F →
    Calls Try.prog fcut #[.pointer (some ⟨p, 0, none⟩)] w (Did At w p F d.cutD (.returned (.int .i64 d.fuseE)))
  start : ∀ (w : World) (p : Nat) (d : RD) (F : List Nat) (K : Nat), K ≤ 1000000 → RD.Ok K d → At w p d F → ∀ (v : Value) (picks : List Int), NumsAt w F v picks →
    Calls Try.prog fstart #[.pointer (some ⟨p, 0, none⟩), v] w (Did At w p F (d.startD picks) (.returned (.int .i64 d.startE)))
  read : ∀ (w : World) (p : Nat) (d : RD) (F : List Nat) (K : Nat), K ≤ 1000000 → RD.Ok K d → ∀ (i : Int), At w p d F →
    Calls Try.prog fread #[.pointer (some ⟨p, 0, none⟩), .int .i64 i] w fun e w' => e = .returned (.tuple #[.string (d.readS i), .int .i64 (d.readE i)]) ∧ Below w.heap.size w w'
  waits : ∀ (w : World) (p : Nat) (d : RD) (F : List Nat) (K : Nat), K ≤ 1000000 → RD.Ok K d → ∀ (i : Int), At w p d F →
    Calls Try.prog fwaits #[.pointer (some ⟨p, 0, none⟩), .int .i64 i] w fun e w' => e = .returned (.int .i64 (d.waits i)) ∧ w = w'
/-- what lasts of a sector -/
def RD.lastsS (d : RD) (i : Int) : ByteArray := if d.has i then d.sector.getD i.toNat ⟨#[]⟩ else ⟨#[]⟩
end Go.Proofs.Ytjgmlpfallakmaa
end
section
namespace Go.Proofs.Ytjgmlpfallakmaa
namespace RD
theorem Ok.more {K K' : Nat} {d : RD} (h : Ok K d) (hK : K ≤ K') : Ok K' d :=
  ⟨h.len, Nat.le_trans h.row hK, h.at_, h.left, ⟨h.count.1, by have := h.count.2; omega⟩, ⟨h.wrote.1, by have := h.wrote.2; omega⟩⟩
theorem stepped_ok {K : Nat} {d : RD} (h : Ok K d) : Ok (K + 1) d.stepped := by
  have h1 := h.count
  have h2 := h.left
  have h3 := h.wrote
  have h4 := h.row
  unfold stepped
  split
  · exact h.more (by omega)
  · split
    · exact ⟨h.len, by simp only; omega, h.at_, by simp only; omega, by simp only; omega, by simp only; omega⟩
    · split
      · exact ⟨h.len, by simp only; omega, h.at_, by simp only; omega, by simp only; omega, by simp only; omega⟩
      · exact ⟨h.len, by simp only; omega, h.at_, by simp only; omega, by simp only; omega, by simp only; omega⟩
theorem write_ok {K : Nat} {d : RD} (h : Ok K d) (i : Int) (s : ByteArray) : Ok (K + 1) (d.writeD i s) := by
  have hs := stepped_ok h
  unfold writeD
  split
  · rename_i hh
    split
    · have h3 := h.wrote
      have h4 := h.row
      refine ⟨hs.len, by simp only [List.length_append, List.length_singleton]; omega, ?_, hs.left, hs.count, by simp only; omega⟩
      intro x hx
      simp only [List.mem_append, List.mem_singleton] at hx
      rw [show ({ d.stepped with row := d.row ++ [(i.toNat, s)], wrote := d.wrote + 1 } : RD).sector = d.stepped.sector from rfl, stepped_sector]
      rcases hx with hx | rfl
      · exact h.at_ x hx
      · unfold has at hh
        simp at hh
        simp only
        omega
    · exact hs
  · exact h.more (by omega)
theorem sync_ok {K : Nat} {d : RD} (h : Ok K d) : Ok (K + 1) d.syncD := by
  have hs := stepped_ok h
  unfold syncD
  split
  · exact ⟨by simp only [synced_length]; exact h.len, by simp, by simp, hs.left, hs.count, hs.wrote⟩
  · exact hs
theorem fuse_ok {K : Nat} {d : RD} (h : Ok K d) (n : Int) (hn : n ≤ 9223372036854775807) : Ok (K + 1) (d.fuseD n) := by
  have h' := h.more (Nat.le_succ K)
  unfold fuseD
  split
  · exact h'
  · exact ⟨h'.len, h'.row, h'.at_, by simp only; split <;> omega, h'.count, h'.wrote⟩
theorem cut_ok {K : Nat} {d : RD} (h : Ok K d) : Ok (K + 1) d.cutD := by
  have h' := h.more (Nat.le_succ K)
  unfold cutD
  split
  · exact h'
  · exact ⟨h'.len, h'.row, h'.at_, by simp, h'.count, h'.wrote⟩
theorem started_length (picks : List Int) (row : List (Nat × ByteArray)) (n i turn : Nat) (s : List ByteArray) : (started picks row n i turn s).length = s.length := by
  induction n generalizing i turn s with
  | zero => rfl
  | succ n ih =>
    rw [started]
    split
    · exact ih _ _ _
    · rw [ih]
      split
      · rfl
      · rw [List.length_set]
theorem start_ok {K : Nat} {d : RD} (h : Ok K d) (picks : List Int) : Ok (K + 1) (d.startD picks) := by
  have h' := h.more (Nat.le_succ K)
  unfold startD
  split
  · exact ⟨by simp only [started_length]; exact h.len, by simp, by simp, h'.left, h'.count, h'.wrote⟩
  · exact h'
theorem fresh_ok (z : ByteArray) (n : Nat) (h : n ≤ 2048) : Ok 0 (fresh z n) :=
  ⟨by simp [fresh]; omega, by simp [fresh], by simp [fresh], by simp [fresh], by simp [fresh], by simp [fresh]⟩
theorem write_length (d : RD) (i : Int) (s : ByteArray) : (d.writeD i s).sector.length = d.sector.length := by
  unfold writeD
  split
  · split
    · rw [← stepped_sector d]
    · rw [stepped_sector]
  · rfl
theorem sync_length (d : RD) : d.syncD.sector.length = d.sector.length := by
  unfold syncD
  split
  · simp only [synced_length]
  · rw [stepped_sector]
theorem fuse_length (d : RD) (n : Int) : (d.fuseD n).sector.length = d.sector.length := by unfold fuseD; split <;> rfl
theorem cut_length (d : RD) : d.cutD.sector.length = d.sector.length := by unfold cutD; split <;> rfl
theorem start_length (d : RD) (picks : List Int) : (d.startD picks).sector.length = d.sector.length := by
  unfold startD
  split
  · simp only [started_length]
  · rfl
end RD
/-- a call that is played: what it does, and what it answers -/
structure ActM where
  kind : Int
  i : Int
  n : Int
  c : UInt8
  text : ByteArray
  picks : List Int
def actD (f : UInt8 → ByteArray → ByteArray) (x : ActM) (d : RD) : RD :=
  if x.kind = 1 then d.writeD x.i (f x.c x.text) else if x.kind = 2 then d.syncD else if x.kind = 3 then d.fuseD x.n else if x.kind = 4 then d.cutD else if x.kind = 5 then d.startD x.picks else d
def actE (f : UInt8 → ByteArray → ByteArray) (x : ActM) (d : RD) : Int :=
  if x.kind = 1 then d.writeE x.i (f x.c x.text) else if x.kind = 2 then d.syncE else if x.kind = 3 then d.fuseE else if x.kind = 4 then d.fuseE else if x.kind = 5 then d.startE else d.readE x.i
theorem act_ok {K : Nat} {d : RD} (f : UInt8 → ByteArray → ByteArray) (x : ActM) (h : RD.Ok K d) (hn : x.n ≤ 9223372036854775807) : RD.Ok (K + 1) (actD f x d) := by
  unfold actD
  split
  · exact RD.write_ok h _ _
  · split
    · exact RD.sync_ok h
    · split
      · exact RD.fuse_ok h _ hn
      · split
        · exact RD.cut_ok h
        · split
          · exact RD.start_ok h _
          · exact h.more (Nat.le_succ K)
theorem act_length (f : UInt8 → ByteArray → ByteArray) (x : ActM) (d : RD) : (actD f x d).sector.length = d.sector.length := by
  unfold actD
  split
  · exact RD.write_length _ _ _
  · split
    · exact RD.sync_length _
    · split
      · exact RD.fuse_length _ _
      · split
        · exact RD.cut_length _
        · split
          · exact RD.start_length _ _
          · rfl
end Go.Proofs.Ytjgmlpfallakmaa
end
