/-
  Plain definitions and laws of no statement: what a device is (chapter 3): sectors, what waits, in order; each call as a function. No conditions but those typed.
-/
import Derived.Laws.Sem
namespace Go.Proofs.Ytbjiliodelndcaa
structure RD where
  sector : List ByteArray
  row : List (Nat × ByteArray)
  off : Bool
  left : Int
  count : Int
  wrote : Int
namespace RD
def last (l : List (Nat × ByteArray)) (i : Nat) (s : ByteArray) : ByteArray := l.foldl (fun s x => if x.1 = i then x.2 else s) s
def writes (l : List (Nat × ByteArray)) (i : Nat) : List ByteArray := (l.filter fun x => decide (x.1 = i)).map (·.2)
def synced (l : List (Nat × ByteArray)) (s : List ByteArray) : List ByteArray := l.foldl (fun s x => s.set x.1 x.2) s
/-- how many writes of the sector last: m wait, it is the turn-th -/
def keeps (picks : List Int) (turn m : Nat) : Nat :=
  if picks.length = 0 then 0 else if 0 < picks.getD (turn % picks.length) 0 then ((picks.getD (turn % picks.length) 0) % ((m : Int) + 1)).toNat else 0
/-- sector by sector: n sectors from the i-th on, the turn-th of those that wait -/
def started (picks : List Int) (row : List (Nat × ByteArray)) : Nat → Nat → Nat → List ByteArray → List ByteArray
  | 0, _, _, s => s
  | n + 1, i, turn, s =>
    if (writes row i).length = 0 then started picks row n (i + 1) turn s
    else started picks row n (i + 1) (turn + 1) (if keeps picks turn (writes row i).length = 0 then s else s.set i ((writes row i).getD (keeps picks turn (writes row i).length - 1) ⟨#[]⟩))
def stepped (d : RD) : RD :=
  if d.off then d else if d.left = 1 then { d with count := d.count + 1, off := true, left := 0 }
  else if 1 < d.left then { d with count := d.count + 1, left := d.left - 1 } else { d with count := d.count + 1 }
def goes (d : RD) : Bool := !d.off && !decide (d.left = 1)
def has (d : RD) (i : Int) : Bool := decide (0 ≤ i) && decide (i < d.sector.length)
def readS (d : RD) (i : Int) : ByteArray := if d.has i && !d.off then last d.row i.toNat (d.sector.getD i.toNat ⟨#[]⟩) else ⟨#[]⟩
def readE (d : RD) (i : Int) : Int := if d.has i then (if d.off then 6 else 0) else 1
def writeD (d : RD) (i : Int) (s : ByteArray) : RD :=
  if d.has i && decide (s.size = 128) then (if d.goes then { d.stepped with row := d.row ++ [(i.toNat, s)], wrote := d.wrote + 1 } else d.stepped) else d
def writeE (d : RD) (i : Int) (s : ByteArray) : Int := if d.has i && decide (s.size = 128) then (if d.goes then 0 else 6) else 1
def syncD (d : RD) : RD := if d.goes then { d.stepped with sector := synced d.row d.sector, row := [] } else d.stepped
def syncE (d : RD) : Int := if d.goes then 0 else 6
def fuseD (d : RD) (n : Int) : RD := if d.off then d else { d with left := if n < 1 then 0 else n }
def fuseE (d : RD) : Int := if d.off then 6 else 0
def cutD (d : RD) : RD := if d.off then d else { d with off := true, left := 0 }
def startD (d : RD) (picks : List Int) : RD := if d.off then { d with sector := started picks d.row d.sector.length 0 0 d.sector, row := [], off := false } else d
def startE (d : RD) : Int := if d.off then 0 else 10
def waitsIn (l : List (Nat × ByteArray)) (i : Int) : Nat := if 0 ≤ i then (writes l i.toNat).length else 0
def waits (d : RD) (i : Int) : Nat := waitsIn d.row i
/-- bounds: at most K calls were made -/
structure Ok (K : Nat) (d : RD) : Prop where
  len : d.sector.length ≤ 2048
  row : d.row.length ≤ K
  at_ : ∀ x ∈ d.row, x.1 < d.sector.length
  left : 0 ≤ d.left ∧ d.left ≤ 9223372036854775807
  count : 0 ≤ d.count ∧ d.count ≤ K
  wrote : 0 ≤ d.wrote ∧ d.wrote ≤ K
theorem stepped_sector (d : RD) : d.stepped.sector = d.sector := by unfold stepped; split <;> (try split) <;> (try split) <;> rfl
theorem stepped_row (d : RD) : d.stepped.row = d.row := by unfold stepped; split <;> (try split) <;> (try split) <;> rfl
theorem stepped_wrote (d : RD) : d.stepped.wrote = d.wrote := by unfold stepped; split <;> (try split) <;> (try split) <;> rfl
theorem writes_length_le (l : List (Nat × ByteArray)) (i : Nat) : (writes l i).length ≤ l.length := by
  unfold writes
  rw [List.length_map]
  exact List.length_filter_le _ _
theorem waitsIn_le (l : List (Nat × ByteArray)) (i : Int) : waitsIn l i ≤ l.length := by
  unfold waitsIn
  split
  · exact writes_length_le _ _
  · omega
theorem writes_snoc (l : List (Nat × ByteArray)) (x : Nat × ByteArray) (i : Nat) : writes (l ++ [x]) i = if x.1 = i then writes l i ++ [x.2] else writes l i := by
  unfold writes
  rw [List.filter_append]
  by_cases hh : x.1 = i <;> simp [hh]
theorem take_snoc (l : List (Nat × ByteArray)) (k : Nat) (h : k < l.length) : l.take (k + 1) = l.take k ++ [l[k]] := List.take_succ_eq_append_getElem h
theorem waitsIn_yes (l : List (Nat × ByteArray)) (k : Nat) (h : k < l.length) (i : Int) (he : (l[k].1 : Int) = i) : waitsIn (l.take (k + 1)) i = waitsIn (l.take k) i + 1 := by
  unfold waitsIn
  rw [if_pos (by omega), if_pos (by omega), take_snoc l k h, writes_snoc, if_pos (by omega), List.length_append]
  rfl
theorem waitsIn_no (l : List (Nat × ByteArray)) (k : Nat) (h : k < l.length) (i : Int) (he : (l[k].1 : Int) ≠ i) : waitsIn (l.take (k + 1)) i = waitsIn (l.take k) i := by
  unfold waitsIn
  by_cases hi : 0 ≤ i
  · rw [if_pos hi, if_pos hi, take_snoc l k h, writes_snoc, if_neg (by omega)]
  · rw [if_neg hi, if_neg hi]
theorem last_snoc (l : List (Nat × ByteArray)) (k : Nat) (h : k < l.length) (i : Nat) (s : ByteArray) : last (l.take (k + 1)) i s = if l[k].1 = i then l[k].2 else last (l.take k) i s := by
  rw [take_snoc l k h]
  unfold last
  rw [List.foldl_append]
  rfl
theorem synced_snoc (l : List (Nat × ByteArray)) (k : Nat) (h : k < l.length) (s : List ByteArray) : synced (l.take (k + 1)) s = (synced (l.take k) s).set l[k].1 l[k].2 := by
  rw [take_snoc l k h]
  unfold synced
  rw [List.foldl_append]
  rfl
theorem synced_length (l : List (Nat × ByteArray)) (s : List ByteArray) : (synced l s).length = s.length := by
  induction l generalizing s with
  | nil => rfl
  | cons x l ih =>
    have : synced (x :: l) s = synced l (s.set x.1 x.2) := rfl
    rw [this, ih, List.length_set]
/-- sector i behind the writes ws -/
def put (ws : List ByteArray) (i : Nat) (s : List ByteArray) : List ByteArray := if ws.length = 0 then s else s.set i (ws.getD (ws.length - 1) ⟨#[]⟩)
theorem put_length (ws : List ByteArray) (i : Nat) (s : List ByteArray) : (put ws i s).length = s.length := by unfold put; split <;> simp
theorem put_snoc (ws : List ByteArray) (x : ByteArray) (i : Nat) (s : List ByteArray) : put (ws ++ [x]) i s = (put ws i s).set i x := by
  unfold put
  rw [if_neg (by simp)]
  have e : (ws ++ [x]).getD ((ws ++ [x]).length - 1) ⟨#[]⟩ = x := by simp [List.getD_eq_getElem?_getD]
  rw [e]
  split
  · rfl
  · rw [List.set_set]
theorem writes_take_prefix (l : List (Nat × ByteArray)) (k i : Nat) : ∃ t, writes l i = writes (l.take k) i ++ t := by
  refine ⟨writes (l.drop k) i, ?_⟩
  unfold writes
  conv => lhs; rw [← List.take_append_drop k l]
  rw [List.filter_append, List.map_append]
/-- so many of the writes that wait last -/
theorem put_kept (l : List (Nat × ByteArray)) (k i n : Nat) (s : List ByteArray) (h : (writes (l.take k) i).length = n) :
    put (writes (l.take k) i) i s = if n = 0 then s else s.set i ((writes l i).getD (n - 1) ⟨#[]⟩) := by
  obtain ⟨t, ht⟩ := writes_take_prefix l k i
  unfold put
  rw [h, ht]
  split
  · rfl
  · rw [List.getD_eq_getElem?_getD, List.getD_eq_getElem?_getD, List.getElem?_append_left (by omega)]
theorem keeps_le (picks : List Int) (turn m : Nat) : keeps picks turn m ≤ m := by
  unfold keeps
  split
  · omega
  · split
    · have := Int.emod_lt_of_pos (picks.getD (turn % picks.length) 0) (show (0 : Int) < (m : Int) + 1 by omega)
      omega
    · omega
theorem started_skip (picks : List Int) (row : List (Nat × ByteArray)) (n i turn : Nat) (s : List ByteArray) (h : (writes row i).length = 0) : started picks row (n + 1) i turn s = started picks row n (i + 1) turn s := by
  rw [started, if_pos h]
theorem started_take (picks : List Int) (row : List (Nat × ByteArray)) (n i turn : Nat) (s : List ByteArray) (h : ¬ (writes row i).length = 0) :
    started picks row (n + 1) i turn s = started picks row n (i + 1) (turn + 1) (if keeps picks turn (writes row i).length = 0 then s else s.set i ((writes row i).getD (keeps picks turn (writes row i).length - 1) ⟨#[]⟩)) := by
  rw [started, if_neg h]
/-- a device of n sectors of noughts: the text of noughts is z -/
def fresh (z : ByteArray) (n : Nat) : RD := { sector := List.replicate n z, row := [], off := false, left := 0, count := 0, wrote := 0 }
end RD
end Go.Proofs.Ytbjiliodelndcaa
