/-
  Plain definitions and laws of no statement: what a pager is (chapter 5), over a device (chapter 3) and pages and metas (chapter 4): each call as a function. No conditions but those typed.
  Plain definitions and laws of no statement: a call that is played on a device and its pager (chapter 5), as a function. No conditions but those typed.
  What the statements of chapter 5 lean on, of any device and any pager in memory: representations, and what each call answers and leaves (as structures of contracts). Conditions: at most 1000000 calls before.
  A device with its pager, if it has one: what each of the pager's calls leaves, of any that meet the kit. Conditions: at most 900000 calls before.
  Plain laws of no statement: old or new, wherever the power goes (P5.4); a file that is laid opens; sectors of noughts are no file. No conditions but those typed.
  A file of six pages that is laid and opened (rollbooklaw05.begin), and the statements' own guard (rollbooklaw05.awake), of any device and pager that meet the kits. No conditions but those typed.
  Of a pager that is not there (P5.1 to P5.3): the statement's function returns true, whatever call it is handed; of any device and pager that meet the kits. No conditions but those typed.
-/
import Derived.Test.YtjgmlpfallakmaaB3
import Derived.Test.YtjgmlpfallakmaaB1
section
namespace Go.Proofs.Ytjgmlpfallakmaa
/-- what a pager holds -/
structure PS where
  m : MV
  o : MV
  has : Bool
  seal_ : Option MV
  row : List Int
/-- its metas are such as may be -/
structure PS.Ok (s : PS) : Prop where
  m : s.m.right = true
  seal_ : ∀ x ∈ s.seal_, x.right = true
namespace RD
/-- the first two metas -/
def fm (t n : Int) : MV := ⟨t, 0, 0, 1, n⟩
def fmtMay (d : RD) (n : Int) : Bool := decide (4 ≤ n) && decide (n ≤ 512) && decide (4 * n ≤ d.sector.length)
def fmt1 (d : RD) (n : Int) : RD := d.writeD 0 (fm 0 n).packS
def fmt1E (d : RD) (n : Int) : Int := d.writeE 0 (fm 0 n).packS
def fmt2 (d : RD) (n : Int) : RD := (d.fmt1 n).writeD 1 (fm 1 n).packS
def fmt2E (d : RD) (n : Int) : Int := (d.fmt1 n).writeE 1 (fm 1 n).packS
def fmtD (d : RD) (n : Int) : RD := if d.fmtMay n then (if d.fmt1E n = 0 then (if d.fmt2E n = 0 then (d.fmt2 n).syncD else d.fmt2 n) else d.fmt1 n) else d
def fmtE (d : RD) (n : Int) : Int := if d.fmtMay n then (if d.fmt1E n = 0 then (if d.fmt2E n = 0 then (d.fmt2 n).syncE else d.fmt2E n) else d.fmt1E n) else 1
/-- the metas' sectors, as they are read -/
def rest (d : RD) : ByteArray := if newestI (d.readS 0) (d.readS 1) = 1 then d.readS 0 else d.readS 1
def opens (d : RD) : Bool := decide (d.readE 0 = 0) && decide (d.readE 1 = 0) && decide (newestE (d.readS 0) (d.readS 1) = 0) && decide (4 * (newestM (d.readS 0) (d.readS 1)).limit ≤ d.sector.length)
def openE (d : RD) : Int := if d.readE 0 = 0 then (if d.readE 1 = 0 then (if d.opens then 0 else 4) else d.readE 1) else d.readE 0
/-- the pager of a file that opens -/
def openS (d : RD) : PS := ⟨newestM (d.readS 0) (d.readS 1), unpackM d.rest, decide (unpackME d.rest = 0), none, []⟩
def openP (d : RD) : Option PS := if d.opens then some d.openS else none
/-- k sectors from i on, as they are read -/
def rdS (d : RD) (i : Int) : Nat → ByteArray
  | 0 => ⟨#[]⟩
  | k + 1 => d.rdS i k ++ d.readS (i + k)
def rdE (d : RD) (i : Int) : Nat → Int
  | 0 => 0
  | k + 1 => if d.rdE i k = 0 then d.readE (i + k) else d.rdE i k
/-- k sectors of s, written from i on -/
def wr (d : RD) (i : Int) (s : ByteArray) : Nat → RD × Int
  | 0 => (d, 0)
  | k + 1 => if (d.wr i s k).2 = 0 then ((d.wr i s k).1.writeD (i + k) (s.extract (128 * k) (128 * k + 128)), (d.wr i s k).1.writeE (i + k) (s.extract (128 * k) (128 * k + 128))) else d.wr i s k
end RD
namespace PS
def mayRead (s : PS) (no : Int) : Bool := decide (1 ≤ no) && decide (no < s.m.limit)
def fine (d : RD) (no : Int) : Bool := decide (d.rdE (4 * no) 4 = 0) && decide (unpackE (d.rdS (4 * no) 4) = 0) && decide ((unpackP (d.rdS (4 * no) 4)).no = no)
def readP (s : PS) (d : RD) (no : Int) : PV := if s.mayRead no && fine d no then unpackP (d.rdS (4 * no) 4) else PV.none
def readE (s : PS) (d : RD) (no : Int) : Int := if s.mayRead no then (if d.rdE (4 * no) 4 = 0 then (if fine d no then 0 else 4) else d.rdE (4 * no) 4) else 1
def mayWrite (s : PS) (x : PV) : Bool := x.right && decide (x.no < s.m.limit)
def writeD (s : PS) (d : RD) (x : PV) : RD := if s.mayWrite x then (d.wr (4 * x.no) x.packS 4).1 else d
def writeS (s : PS) (x : PV) : PS := if s.mayWrite x then { s with row := s.row ++ [x.no] } else s
def writeE (s : PS) (d : RD) (x : PV) : Int := if x.right then (if x.no < s.m.limit then (d.wr (4 * x.no) x.packS 4).2 else 1) else 4
def maySeal (s : PS) (m : MV) : Bool := m.right && decide (m.limit = s.m.limit) && (decide (m.txn = s.m.txn + 1) && s.seal_.isNone)
def sealD (s : PS) (d : RD) (m : MV) : RD := if s.maySeal m then d.writeD (m.txn % 2) m.packS else d
def sealE (s : PS) (d : RD) (m : MV) : Int := if m.right && decide (m.limit = s.m.limit) then (if s.maySeal m then d.writeE (m.txn % 2) m.packS else 11) else 4
def sealS (s : PS) (d : RD) (m : MV) : PS := if s.maySeal m && decide (d.writeE (m.txn % 2) m.packS = 0) then { s with seal_ := some m } else s
def doneD (s : PS) (d : RD) : RD := if s.seal_.isSome then d.syncD else d
def doneE (s : PS) (d : RD) : Int := if s.seal_.isSome then d.syncE else 11
def doneS (s : PS) (d : RD) : PS := match s.seal_ with
  | none => s
  | some x => if d.syncE = 0 then { s with m := x, o := s.m, has := true, seal_ := none } else s
end PS
theorem newest_right {a b : List UInt8} {q : Page.ME} {k : Nat} (h : Page.newest a b = some (q, k)) : Page.rightM q = true := by
  unfold Page.newest at h
  cases ha : Page.readM a with
  | none =>
    cases hb : Page.readM b with
    | none => rw [ha, hb] at h; cases h
    | some y => rw [ha, hb] at h; injection h with h; injection h with h1; subst h1; exact (Page.of_readM _ _ hb).1
  | some x =>
    cases hb : Page.readM b with
    | none => rw [ha, hb] at h; injection h with h; injection h with h1; subst h1; exact (Page.of_readM _ _ ha).1
    | some y =>
      rw [ha, hb] at h
      simp only at h
      split at h
      · injection h with h; injection h with h1; subst h1; exact (Page.of_readM _ _ hb).1
      · injection h with h; injection h with h1; subst h1; exact (Page.of_readM _ _ ha).1
theorem newestM_right (a b : ByteArray) (h : newestE a b = 0) : (newestM a b).right = true := by
  unfold newestE at h
  unfold newestM
  cases hn : Page.newest a.data.toList b.data.toList with
  | none => rw [hn] at h; simp at h
  | some y =>
    obtain ⟨q, k⟩ := y
    simp only
    rw [right_ofME]
    exact newest_right hn
theorem unpackM_not (s : ByteArray) (h : unpackME s ≠ 0) : unpackM s = MV.none := by
  unfold unpackME at h
  unfold unpackM
  cases hn : Page.readM s.data.toList with
  | none => rfl
  | some y => rw [hn] at h; simp at h
theorem unpackM_pack (p : MV) (h : p.right = true) : unpackM p.packS = p ∧ unpackME p.packS = 0 := by
  obtain ⟨h1, h2⟩ := p.right_me h
  have e : Page.readM p.packS.data.toList = some p.me := by
    unfold MV.packS
    rw [if_pos h, data_ba]
    exact Page.readM_packed _ h1
  unfold unpackM unpackME
  rw [e]
  exact ⟨h2, rfl⟩
theorem packS_len (p : MV) (h : p.right = true) : p.packS.size = 128 := by
  unfold MV.packS
  rw [if_pos h, ba_size, Page.packedM_length]
theorem newest_packs (p q : MV) (hp : p.right = true) (hq : q.right = true) : newestE p.packS q.packS = 0 ∧ newestM p.packS q.packS = (if p.txn < q.txn then q else p) ∧ newestI p.packS q.packS = (if p.txn < q.txn then 1 else 0) := by
  obtain ⟨p1, p2⟩ := p.right_me hp
  obtain ⟨q1, q2⟩ := q.right_me hq
  have e1 : Page.readM p.packS.data.toList = some p.me := by
    unfold MV.packS
    rw [if_pos hp, data_ba]
    exact Page.readM_packed _ p1
  have e2 : Page.readM q.packS.data.toList = some q.me := by
    unfold MV.packS
    rw [if_pos hq, data_ba]
    exact Page.readM_packed _ q1
  have hn : Page.newest p.packS.data.toList q.packS.data.toList = if p.me.txn < q.me.txn then some (q.me, 1) else some (p.me, 0) := by
    unfold Page.newest
    rw [e1, e2]
  have hlt : p.me.txn < q.me.txn ↔ p.txn < q.txn := by
    rw [MV.right_iff] at hp hq
    unfold MV.me
    simp only
    omega
  unfold newestE newestM newestI
  rw [hn]
  by_cases h : p.txn < q.txn
  · rw [if_pos (hlt.2 h), if_pos h, if_pos h]
    exact ⟨rfl, q2, rfl⟩
  · rw [if_neg (fun x => h (hlt.1 x)), if_neg h, if_neg h]
    exact ⟨rfl, p2, rfl⟩
namespace RD
theorem wr_ok {K : Nat} {d : RD} (h : Ok K d) (i : Int) (s : ByteArray) (k : Nat) : Ok (K + k) (d.wr i s k).1 := by
  induction k with
  | zero => exact h
  | succ k ih =>
    rw [wr]
    split
    · exact write_ok ih _ _
    · exact ih.more (by omega)
theorem wr_length (d : RD) (i : Int) (s : ByteArray) (k : Nat) : (d.wr i s k).1.sector.length = d.sector.length := by
  induction k with
  | zero => rfl
  | succ k ih =>
    rw [wr]
    split
    · rw [write_length, ih]
    · exact ih
theorem wr_stop (d : RD) (i : Int) (s : ByteArray) (k n : Nat) (h : (d.wr i s k).2 ≠ 0) : d.wr i s (k + n) = d.wr i s k := by
  induction n with
  | zero => rfl
  | succ n ih =>
    rw [Nat.add_succ, wr, if_neg (by rw [ih]; exact h), ih]
theorem rd_stop (d : RD) (i : Int) (k n : Nat) (h : d.rdE i k ≠ 0) : d.rdE i (k + n) = d.rdE i k := by
  induction n with
  | zero => rfl
  | succ n ih =>
    rw [Nat.add_succ, rdE, if_neg (by rw [ih]; exact h), ih]
theorem fmt_ok {K : Nat} {d : RD} (h : Ok K d) (n : Int) : Ok (K + 3) (d.fmtD n) := by
  unfold fmtD
  have h1 : Ok (K + 1) (d.fmt1 n) := write_ok h _ _
  have h2 : Ok (K + 2) (d.fmt2 n) := write_ok h1 _ _
  split
  · split
    · split
      · exact sync_ok h2
      · exact h2.more (by omega)
    · exact h1.more (by omega)
  · exact h.more (by omega)
theorem fmt_length (d : RD) (n : Int) : (d.fmtD n).sector.length = d.sector.length := by
  have h1 : (d.fmt1 n).sector.length = d.sector.length := write_length _ _ _
  have h2 : (d.fmt2 n).sector.length = d.sector.length := (write_length _ _ _).trans h1
  unfold fmtD
  split
  · split
    · split
      · rw [sync_length, h2]
      · exact h2
    · exact h1
  · rfl
theorem openS_ok (d : RD) (h : d.opens = true) : d.openS.Ok := by
  unfold opens at h
  simp only [Bool.and_eq_true, decide_eq_true_eq] at h
  exact ⟨newestM_right _ _ h.1.2, fun x hx => by cases hx⟩
end RD
namespace RD
/-- all sectors, and all that waits, are of a sector's size -/
def Full (d : RD) : Prop := (∀ s ∈ d.sector, s.size = 128) ∧ ∀ x ∈ d.row, x.2.size = 128
theorem last_size (l : List (Nat × ByteArray)) (i : Nat) (s : ByteArray) (hs : s.size = 128) (hl : ∀ x ∈ l, x.2.size = 128) : (last l i s).size = 128 := by
  induction l generalizing s with
  | nil => exact hs
  | cons x l ih =>
    show (last l i (if x.1 = i then x.2 else s)).size = 128
    refine ih _ ?_ (fun y hy => hl y (List.mem_cons_of_mem _ hy))
    split
    · exact hl x (List.mem_cons_self ..)
    · exact hs
theorem Full.read {d : RD} (h : Full d) (i : Int) : (d.readS i).size ≤ 128 := by
  unfold readS
  split
  · rename_i hh
    unfold has at hh
    simp only [Bool.and_eq_true, decide_eq_true_eq] at hh
    have hi : i.toNat < d.sector.length := by omega
    rw [last_size]
    · exact Nat.le_refl _
    · rw [List.getD_eq_getElem?_getD, List.getElem?_eq_getElem hi]
      exact h.1 _ (List.getElem_mem hi)
    · exact h.2
  · exact Nat.zero_le _
theorem Full.stepped {d : RD} (h : Full d) : Full d.stepped := by
  unfold Full
  rw [stepped_sector, stepped_row]
  exact h
theorem Full.write {d : RD} (h : Full d) (i : Int) (s : ByteArray) : Full (d.writeD i s) := by
  unfold writeD
  split
  · rename_i hh
    simp only [Bool.and_eq_true, decide_eq_true_eq] at hh
    split
    · refine ⟨h.stepped.1, fun x hx => ?_⟩
      simp only [List.mem_append, List.mem_singleton] at hx
      rcases hx with hx | rfl
      · exact h.2 x hx
      · exact hh.2
    · exact h.stepped
  · exact h
theorem set_full {l : List ByteArray} (h : ∀ s ∈ l, s.size = 128) (i : Nat) (x : ByteArray) (hx : x.size = 128) : ∀ s ∈ l.set i x, s.size = 128 := by
  intro s hs
  rcases List.mem_or_eq_of_mem_set hs with hs | rfl
  · exact h s hs
  · exact hx
theorem synced_full (r : List (Nat × ByteArray)) (l : List ByteArray) (h : ∀ s ∈ l, s.size = 128) (hr : ∀ x ∈ r, x.2.size = 128) : ∀ s ∈ synced r l, s.size = 128 := by
  induction r generalizing l with
  | nil => exact h
  | cons x r ih =>
    show ∀ s ∈ synced r (l.set x.1 x.2), s.size = 128
    exact ih _ (set_full h _ _ (hr x (List.mem_cons_self ..))) (fun y hy => hr y (List.mem_cons_of_mem _ hy))
theorem Full.sync {d : RD} (h : Full d) : Full d.syncD := by
  unfold syncD
  split
  · exact ⟨synced_full _ _ h.1 h.2, fun x hx => by simp at hx⟩
  · exact h.stepped
theorem Full.fuse {d : RD} (h : Full d) (n : Int) : Full (d.fuseD n) := by unfold fuseD; split <;> exact h
theorem Full.cut {d : RD} (h : Full d) : Full d.cutD := by unfold cutD; split <;> exact h
theorem started_full (picks : List Int) (row : List (Nat × ByteArray)) (hr : ∀ x ∈ row, x.2.size = 128) (n i turn : Nat) (s : List ByteArray) (h : ∀ x ∈ s, x.size = 128) : ∀ x ∈ started picks row n i turn s, x.size = 128 := by
  induction n generalizing i turn s with
  | zero => exact h
  | succ n ih =>
    rw [started]
    split
    · exact ih _ _ _ h
    · rename_i hw
      refine ih _ _ _ ?_
      split
      · exact h
      · rename_i hk
        refine set_full h _ _ ?_
        have hle := keeps_le picks turn (writes row i).length
        have hlt : keeps picks turn (writes row i).length - 1 < (writes row i).length := by omega
        rw [List.getD_eq_getElem?_getD, List.getElem?_eq_getElem hlt]
        have hm := List.getElem_mem hlt
        show ((writes row i)[keeps picks turn (writes row i).length - 1]).size = 128
        generalize (writes row i)[keeps picks turn (writes row i).length - 1] = y at hm
        unfold writes at hm
        rw [List.mem_map] at hm
        obtain ⟨z, hz, rfl⟩ := hm
        exact hr z (List.mem_filter.1 hz).1
theorem Full.start {d : RD} (h : Full d) (picks : List Int) : Full (d.startD picks) := by
  unfold startD
  split
  · exact ⟨started_full _ _ h.2 _ _ _ _ h.1, fun x hx => by simp at hx⟩
  · exact h
theorem Full.wr {d : RD} (h : Full d) (i : Int) (s : ByteArray) (k : Nat) : Full (d.wr i s k).1 := by
  induction k with
  | zero => exact h
  | succ k ih =>
    rw [RD.wr]
    split
    · exact ih.write _ _
    · exact ih
theorem Full.fmt {d : RD} (h : Full d) (n : Int) : Full (d.fmtD n) := by
  unfold fmtD
  have h1 : Full (d.fmt1 n) := h.write _ _
  have h2 : Full (d.fmt2 n) := h1.write _ _
  split
  · split
    · split
      · exact h2.sync
      · exact h2
    · exact h1
  · exact h
theorem Full.rdS {d : RD} (h : Full d) (i : Int) (k : Nat) : (d.rdS i k).size ≤ 128 * k := by
  induction k with
  | zero => exact Nat.le_refl _
  | succ k ih =>
    rw [RD.rdS, ByteArray.size_append]
    have := h.read (i + k)
    omega
end RD
namespace PS
theorem writeS_ok {s : PS} (h : s.Ok) (x : PV) : (s.writeS x).Ok := by unfold writeS; split <;> exact ⟨h.m, h.seal_⟩
theorem sealS_ok {s : PS} (h : s.Ok) (d : RD) (m : MV) : (s.sealS d m).Ok := by
  unfold sealS
  split
  · rename_i hm
    refine ⟨h.m, fun x hx => ?_⟩
    injection hx with hx
    subst hx
    unfold maySeal at hm
    simp only [Bool.and_eq_true] at hm
    exact hm.1.1.1
  · exact h
theorem doneS_ok {s : PS} (h : s.Ok) (d : RD) : (s.doneS d).Ok := by
  unfold doneS
  split
  · exact h
  · rename_i x hx
    split
    · exact ⟨h.seal_ x hx, fun y hy => by cases hy⟩
    · exact h
end PS
end Go.Proofs.Ytjgmlpfallakmaa
end
section
namespace Go.Proofs.Ytjgmlpfallakmaa
structure ActP where
  kind : Int
  page : PV
  meta_ : MV
  next : Bool
  n : Int
  text : ByteArray
  picks : List Int
/-- that of an act -/
def ActP.seal_ (x : ActP) (now : MV) : MV := if x.next then { x.meta_ with txn := now.txn + 1, limit := now.limit } else x.meta_
/-- what a device with its pager (if there is one) becomes, and what is answered -/
structure DS where
  d : RD
  s : Option PS
namespace DS
def pWrite (c : DS) (x : PV) : DS × Int := match c.s with
  | some s => (⟨s.writeD c.d x, some (s.writeS x)⟩, s.writeE c.d x)
  | none => (c, 2)
def pSync (c : DS) : DS × Int := match c.s with
  | some s => (⟨c.d.syncD, some s⟩, c.d.syncE)
  | none => (c, 2)
def pSeal (c : DS) (m : MV) : DS × Int := match c.s with
  | some s => (⟨s.sealD c.d m, some (s.sealS c.d m)⟩, s.sealE c.d m)
  | none => (c, 2)
def pDone (c : DS) : DS × Int := match c.s with
  | some s => (⟨s.doneD c.d, some (s.doneS c.d)⟩, s.doneE c.d)
  | none => (c, 2)
def pMeta (c : DS) : MV := match c.s with
  | some s => s.m
  | none => MV.none
def pReadE (c : DS) (n : Int) : Int := match c.s with
  | some s => s.readE c.d n
  | none => 2
def pReadP (c : DS) (n : Int) : PV := match c.s with
  | some s => s.readP c.d n
  | none => PV.none
def act (x : ActP) (c : DS) : DS × Int :=
  if x.kind = 1 then c.pWrite x.page
  else if x.kind = 2 then c.pSync
  else if x.kind = 3 then c.pSeal (x.seal_ c.pMeta)
  else if x.kind = 4 then c.pDone
  else if x.kind = 5 then (c, c.pReadE x.n)
  else if x.kind = 6 then (⟨c.d.fuseD x.n, c.s⟩, c.d.fuseE)
  else if x.kind = 7 then (⟨c.d.cutD, c.s⟩, c.d.fuseE)
  else if x.kind = 8 then (if c.d.startE = 0 then (⟨c.d.startD x.picks, (c.d.startD x.picks).openP⟩, (c.d.startD x.picks).openE) else (⟨c.d.startD x.picks, c.s⟩, c.d.startE))
  else if x.kind = 9 then (⟨c.d.writeD x.n x.text, c.s⟩, c.d.writeE x.n x.text)
  else (c, 0)
/-- bounds -/
structure Ok (K : Nat) (c : DS) : Prop where
  d : RD.Ok K c.d
  full : c.d.Full
  s : ∀ s ∈ c.s, s.Ok
theorem Ok.more {K K' : Nat} {c : DS} (h : Ok K c) (hK : K ≤ K') : Ok K' c := ⟨h.d.more hK, h.full, h.s⟩
theorem pWrite_ok {K : Nat} {c : DS} (h : Ok K c) (x : PV) : Ok (K + 4) (c.pWrite x).1 := by
  obtain ⟨d, s⟩ := c
  have hd : RD.Ok K d := h.d
  have hf : RD.Full d := h.full
  cases s with
  | none => exact h.more (by omega)
  | some s =>
    have hs : s.Ok := h.s s rfl
    refine ⟨?_, ?_, fun y hy => ?_⟩
    · show RD.Ok (K + 4) (s.writeD d x)
      unfold PS.writeD
      split
      · exact RD.wr_ok hd _ _ 4
      · exact hd.more (by omega)
    · show RD.Full (s.writeD d x)
      unfold PS.writeD
      split
      · exact hf.wr _ _ 4
      · exact hf
    · injection hy with hy; subst hy; exact PS.writeS_ok hs _
theorem pSync_ok {K : Nat} {c : DS} (h : Ok K c) : Ok (K + 4) c.pSync.1 := by
  obtain ⟨d, s⟩ := c
  cases s with
  | none => exact h.more (by omega)
  | some s => exact ⟨(RD.sync_ok h.d).more (by omega), RD.Full.sync h.full, h.s⟩
theorem pSeal_ok {K : Nat} {c : DS} (h : Ok K c) (m : MV) : Ok (K + 4) (c.pSeal m).1 := by
  obtain ⟨d, s⟩ := c
  have hd : RD.Ok K d := h.d
  have hf : RD.Full d := h.full
  cases s with
  | none => exact h.more (by omega)
  | some s =>
    have hs : s.Ok := h.s s rfl
    refine ⟨?_, ?_, fun y hy => ?_⟩
    · show RD.Ok (K + 4) (s.sealD d m)
      unfold PS.sealD
      split
      · exact (RD.write_ok hd _ _).more (by omega)
      · exact hd.more (by omega)
    · show RD.Full (s.sealD d m)
      unfold PS.sealD
      split
      · exact hf.write _ _
      · exact hf
    · injection hy with hy; subst hy; exact PS.sealS_ok hs _ _
theorem pDone_ok {K : Nat} {c : DS} (h : Ok K c) : Ok (K + 4) c.pDone.1 := by
  obtain ⟨d, s⟩ := c
  have hd : RD.Ok K d := h.d
  have hf : RD.Full d := h.full
  cases s with
  | none => exact h.more (by omega)
  | some s =>
    have hs : s.Ok := h.s s rfl
    refine ⟨?_, ?_, fun y hy => ?_⟩
    · show RD.Ok (K + 4) (s.doneD d)
      unfold PS.doneD
      split
      · exact (RD.sync_ok hd).more (by omega)
      · exact hd.more (by omega)
    · show RD.Full (s.doneD d)
      unfold PS.doneD
      split
      · exact hf.sync
      · exact hf
    · injection hy with hy; subst hy; exact PS.doneS_ok hs _
theorem act_ok {K : Nat} {c : DS} (x : ActP) (h : Ok K c) (hn : x.n ≤ 9223372036854775807) : Ok (K + 4) (act x c).1 := by
  have h0 := h.more (Nat.le_add_right K 4)
  have hd : RD.Ok K c.d := h.d
  have hf : RD.Full c.d := h.full
  unfold act
  split
  · exact pWrite_ok h _
  · split
    · exact pSync_ok h
    · split
      · exact pSeal_ok h _
      · split
        · exact pDone_ok h
        · split
          · exact h0
          · split
            · exact ⟨(RD.fuse_ok hd _ hn).more (by omega), hf.fuse _, h0.s⟩
            · split
              · exact ⟨(RD.cut_ok hd).more (by omega), hf.cut, h0.s⟩
              · split
                · split
                  · refine ⟨(RD.start_ok hd _).more (by omega), hf.start _, fun y hy => ?_⟩
                    have hy : y ∈ (c.d.startD x.picks).openP := hy
                    unfold RD.openP at hy
                    split at hy
                    · injection hy with hy; subst hy; exact RD.openS_ok _ ‹_›
                    · cases hy
                  · exact ⟨(RD.start_ok hd _).more (by omega), hf.start _, h0.s⟩
                · split
                  · exact ⟨(RD.write_ok hd _ _).more (by omega), hf.write _ _, h0.s⟩
                  · exact h0
/-- the log is empty again -/
def read (c : DS) : DS := ⟨c.d, c.s.map fun s => { s with row := [] }⟩
theorem read_ok {K : Nat} {c : DS} (h : Ok K c) : Ok K c.read := by
  refine ⟨h.d, h.full, fun y hy => ?_⟩
  obtain ⟨d, s⟩ := c
  cases s with
  | none => cases hy
  | some s =>
    injection hy with hy
    subst hy
    exact ⟨(h.s s rfl).m, (h.s s rfl).seal_⟩
end DS
end Go.Proofs.Ytjgmlpfallakmaa
end
section
namespace Go.Proofs.Ytjgmlpfallakmaa
open Go.RowKit
/-- a device's calls -/
structure DevUse (At : World → Nat → RD → List Nat → Prop) (fwrite fsync ffuse fcut fstart fread : FuncId) : Prop where
  lt : ∀ {w : World} {p : Nat} {d : RD} {F : List Nat}, At w p d F → ∀ k ∈ F, k < w.heap.size
  touch : ∀ {w w' : World} {p : Nat} {d : RD} {F S : List Nat}, At w p d F → Touch S w w' → (∀ k ∈ S, k ∉ F) → At w' p d F
  write : ∀ (w : World) (p : Nat) (d : RD) (F : List Nat) (K : Nat), K ≤ 1000000 → RD.Ok K d → ∀ (i : Int) (s : ByteArray), At w p d F →
    Calls Try.prog fwrite #[.pointer (some ⟨p, 0, none⟩), .int .i64 i, .string s] w (Did At w p F (d.writeD i s) (.returned (.int .i64 (d.writeE i s))))
  sync : ∀ (w : World) (p : Nat) (d : RD) (F : List Nat) (K : Nat), K ≤ 1000000 → RD.Ok K d → At w p d F →
    Calls Try.prog fsync #[.pointer (some ⟨p, 0, none⟩)] w (Did At w p F d.syncD (.returned (.int .i64 d.syncE)))
  fuse : ∀ (w : World) (p : Nat) (d : RD) (F : List Nat) (n : Int), At w p d F →
    Calls Try.prog ffuse #[.pointer (some ⟨p, 0, none⟩), .int .i64 n] w (Did At w p F (d.fuseD n) (.returned (.int .i64 d.fuseE)))
  cut : ∀ (w : World) (p : Nat) (d : RD) (F : List Nat), At w p d F →
    Calls Try.prog fcut #[.pointer (some ⟨p, 0, none⟩)] w (Did At w p F d.cutD (.returned (.int .i64 d.fuseE)))
  start : ∀ (w : World) (p : Nat) (d : RD) (F : List Nat) (K : Nat), K ≤ 1000000 → RD.Ok K d → At w p d F → ∀ (v : Value) (picks : List Int), NumsAt w F v picks →
    Calls Try.prog fstart #[.pointer (some ⟨p, 0, none⟩), v] w (Did At w p F (d.startD picks) (.returned (.int .i64 d.startE)))
  read : ∀ (w : World) (p : Nat) (d : RD) (F : List Nat) (K : Nat), K ≤ 1000000 → RD.Ok K d → ∀ (i : Int), At w p d F →
    Calls Try.prog fread #[.pointer (some ⟨p, 0, none⟩), .int .i64 i] w fun e w' => e = .returned (.tuple #[.string (d.readS i), .int .i64 (d.readE i)]) ∧ Below w.heap.size w w'
theorem CoreKit.use {At : World → Nat → RD → List Nat → Prop} {a b c d e f g : FuncId} (K : CoreKit At a b c d e f g) : DevUse At a b c d e f :=
  ⟨K.lt, K.touch, K.write, K.sync, K.fuse, K.cut, K.start, K.read⟩
/-- a new device -/
structure HasNew (At : World → Nat → RD → List Nat → Prop) (fnew : FuncId) : Prop where
  newNot : ∀ (n : Int) (w : World), n < 1 ∨ 2048 < n → Calls Try.prog fnew #[.int .i64 n] w fun e w' => e = .returned (.tuple #[.pointer none, .int .i64 1]) ∧ w = w'
  new : ∀ (n : Nat) (w : World), 1 ≤ n → n ≤ 2048 → Calls Try.prog fnew #[.int .i64 n] w (Made At w n)
def HasSteps (At : World → Nat → RD → List Nat → Prop) (fsteps : FuncId) : Prop :=
  ∀ (w : World) (p : Nat) (d : RD) (F : List Nat), At w p d F → Calls Try.prog fsteps #[.pointer (some ⟨p, 0, none⟩)] w fun e w' => e = .returned (.int .i64 d.count) ∧ w = w'
def HasOn (At : World → Nat → RD → List Nat → Prop) (fon : FuncId) : Prop :=
  ∀ (w : World) (p : Nat) (d : RD) (F : List Nat), At w p d F → Calls Try.prog fon #[.pointer (some ⟨p, 0, none⟩)] w fun e w' => e = .returned (.bool (!d.off)) ∧ w = w'
/-- what a pager's call leaves that answers e0 -/
def Did2 (At : World → Nat → RD → List Nat → Prop) (PAt : World → Nat → Nat → PS → List Nat → Prop) (w : World) (p q : Nat) (F : List Nat) (d' : RD) (s' : PS) (e0 : Ending) (e : Ending) (w' : World) : Prop :=
  e = e0 ∧ ∃ F' G', At w' p d' F' ∧ PAt w' q p s' G' ∧ (∀ k ∈ F', k ∉ G') ∧ Touch F w w' ∧ Grows F (F' ++ G') w.heap.size
/-- what Open leaves -/
def Opened (PAt : World → Nat → Nat → PS → List Nat → Prop) (w : World) (p : Nat) (d : RD) (e : Ending) (w' : World) : Prop :=
  Below w.heap.size w w' ∧ ((d.opens = false ∧ e = .returned (.tuple #[.pointer none, .int .i64 d.openE])) ∨
    (d.opens = true ∧ ∃ q G, e = .returned (.tuple #[.pointer (some ⟨q, 0, none⟩), .int .i64 0]) ∧ PAt w' q p d.openS G ∧ ∀ k ∈ G, w.heap.size ≤ k))
/-- the slice v reads as the numbers l -/
def IntsAt (w : World) (v : Value) (l : List Int) : Prop :=
  ∃ A cap, v = .slice A l.length cap ∧ ∀ j (h : j < l.length), ∃ b off, A = some ⟨b, off, none⟩ ∧ w.cell? ⟨b, off + j, none⟩ = some (.int .i64 l[j])
/-- a pager's calls that both have -/
structure PgCore (At : World → Nat → RD → List Nat → Prop) (PAt : World → Nat → Nat → PS → List Nat → Prop) (fformat fopen fread fwrite fseal fdone : FuncId) : Prop where
  lt : ∀ {w : World} {q p : Nat} {s : PS} {G : List Nat}, PAt w q p s G → ∀ k ∈ G, k < w.heap.size
  touch : ∀ {w w' : World} {q p : Nat} {s : PS} {G S : List Nat}, PAt w q p s G → Touch S w w' → (∀ k ∈ S, k ∉ G) → PAt w' q p s G
  format : ∀ (w : World) (p : Nat) (d : RD) (F : List Nat) (K : Nat), K ≤ 900000 → RD.Ok K d → ∀ (n : Int), At w p d F →
    Calls Try.prog fformat #[.pointer (some ⟨p, 0, none⟩), .int .i64 n] w (Did At w p F (d.fmtD n) (.returned (.int .i64 (d.fmtE n))))
  open_ : ∀ (w : World) (p : Nat) (d : RD) (F : List Nat) (K : Nat), K ≤ 900000 → RD.Ok K d → d.Full → At w p d F → Calls Try.prog fopen #[.pointer (some ⟨p, 0, none⟩)] w (Opened PAt w p d)
  read : ∀ (w : World) (p q : Nat) (d : RD) (s : PS) (F G : List Nat) (K : Nat), K ≤ 900000 → RD.Ok K d → d.Full → s.Ok → ∀ (no : Int), At w p d F → PAt w q p s G →
    Calls Try.prog fread #[.pointer (some ⟨q, 0, none⟩), .int .i64 no] w fun e w' => e = .returned (.tuple #[(s.readP d no).val, .int .i64 (s.readE d no)]) ∧ Below w.heap.size w w'
  write : ∀ (w : World) (p q : Nat) (d : RD) (s : PS) (F G : List Nat) (K : Nat), K ≤ 900000 → RD.Ok K d → s.Ok → s.row.length ≤ K → ∀ (x : PV), x.body.size ≤ 2000 → At w p d F → PAt w q p s G → (∀ k ∈ F, k ∉ G) →
    Calls Try.prog fwrite #[.pointer (some ⟨q, 0, none⟩), x.val] w (Did2 At PAt w p q (F ++ G) (s.writeD d x) (s.writeS x) (.returned (.int .i64 (s.writeE d x))))
  seal_ : ∀ (w : World) (p q : Nat) (d : RD) (s : PS) (F G : List Nat) (K : Nat), K ≤ 900000 → RD.Ok K d → s.Ok → ∀ (m : MV), At w p d F → PAt w q p s G → (∀ k ∈ F, k ∉ G) →
    Calls Try.prog fseal #[.pointer (some ⟨q, 0, none⟩), m.val] w (Did2 At PAt w p q (F ++ G) (s.sealD d m) (s.sealS d m) (.returned (.int .i64 (s.sealE d m))))
  done : ∀ (w : World) (p q : Nat) (d : RD) (s : PS) (F G : List Nat) (K : Nat), K ≤ 900000 → RD.Ok K d → s.Ok → At w p d F → PAt w q p s G → (∀ k ∈ F, k ∉ G) →
    Calls Try.prog fdone #[.pointer (some ⟨q, 0, none⟩)] w (Did2 At PAt w p q (F ++ G) (s.doneD d) (s.doneS d) (.returned (.int .i64 (s.doneE d))))
/-- the program's pager -/
structure PgKit (At : World → Nat → RD → List Nat → Prop) (PAt : World → Nat → Nat → PS → List Nat → Prop) : Prop extends
    PgCore At PAt 9 10 23 25 13 14 where
  sync : ∀ (w : World) (p q : Nat) (d : RD) (s : PS) (F G : List Nat) (K : Nat), K ≤ 900000 → RD.Ok K d → At w p d F → PAt w q p s G → (∀ k ∈ F, k ∉ G) →
    Calls Try.prog 26 #[.pointer (some ⟨q, 0, none⟩)] w (Did2 At PAt w p q (F ++ G) d.syncD s (.returned (.int .i64 d.syncE)))
  meta_ : ∀ (w : World) (q p : Nat) (s : PS) (G : List Nat), PAt w q p s G → Calls Try.prog 11 #[.pointer (some ⟨q, 0, none⟩)] w fun e w' => e = .returned s.m.val ∧ Below w.heap.size w w'
  other : ∀ (w : World) (q p : Nat) (s : PS) (G : List Nat), PAt w q p s G → Calls Try.prog 24 #[.pointer (some ⟨q, 0, none⟩)] w fun e w' => e = .returned (.tuple #[s.o.val, .bool s.has]) ∧ Below w.heap.size w w'
  log : ∀ (w : World) (q p : Nat) (s : PS) (G : List Nat), PAt w q p s G → Calls Try.prog 27 #[.pointer (some ⟨q, 0, none⟩)] w fun e w' =>
    ∃ v G', e = .returned v ∧ IntsAt w' v s.row ∧ PAt w' q p { s with row := [] } G' ∧ Touch G w w' ∧ Grows G G' w.heap.size
  nilFormat : ∀ (w : World) (n : Int), Calls Try.prog 9 #[.pointer none, .int .i64 n] w fun e w' => e = .returned (.int .i64 1) ∧ Below w.heap.size w w'
  nilRead : ∀ (w : World) (n : Int), Calls Try.prog 23 #[.pointer none, .int .i64 n] w fun e w' => e = .returned (.tuple #[PV.none.val, .int .i64 2]) ∧ Below w.heap.size w w'
  nilWrite : ∀ (w : World) (x : PV), Calls Try.prog 25 #[.pointer none, x.val] w fun e w' => e = .returned (.int .i64 2) ∧ Below w.heap.size w w'
  nilSeal : ∀ (w : World) (m : MV), Calls Try.prog 13 #[.pointer none, m.val] w fun e w' => e = .returned (.int .i64 2) ∧ Below w.heap.size w w'
  nilDone : ∀ (w : World), Calls Try.prog 14 #[.pointer none] w fun e w' => e = .returned (.int .i64 2) ∧ Below w.heap.size w w'
  nilSync : ∀ (w : World), Calls Try.prog 26 #[.pointer none] w fun e w' => e = .returned (.int .i64 2) ∧ Below w.heap.size w w'
  nilMeta : ∀ (w : World), Calls Try.prog 11 #[.pointer none] w fun e w' => e = .returned MV.none.val ∧ Below w.heap.size w w'
  nilOther : ∀ (w : World), Calls Try.prog 24 #[.pointer none] w fun e w' => e = .returned (.tuple #[MV.none.val, .bool false]) ∧ Below w.heap.size w w'
  nilLog : ∀ (w : World), Calls Try.prog 27 #[.pointer none] w fun e w' => (∃ A cap, e = .returned (.slice A 0 cap)) ∧ Below w.heap.size w w'
/-- a device with its pager, if it has one -/
def Joint (At : World → Nat → RD → List Nat → Prop) (PAt : World → Nat → Nat → PS → List Nat → Prop) (w : World) (p : Nat) (v : Value) (c : DS) (F : List Nat) : Prop :=
  match c.s with
  | none => v = .pointer none ∧ At w p c.d F
  | some s => ∃ q F1 G, v = .pointer (some ⟨q, 0, none⟩) ∧ At w p c.d F1 ∧ PAt w q p s G ∧ (∀ k ∈ F1, k ∉ G) ∧ F = F1 ++ G
end Go.Proofs.Ytjgmlpfallakmaa
end
section
namespace Go.Proofs.Ytjgmlpfallakmaa
open Go.RowKit
theorem Joint.lt {At : World → Nat → RD → List Nat → Prop} {PAt : World → Nat → Nat → PS → List Nat → Prop} {w : World} {p : Nat} {v : Value} {c : DS} {F : List Nat}
    (lt1 : ∀ {w : World} {p : Nat} {d : RD} {F : List Nat}, At w p d F → ∀ k ∈ F, k < w.heap.size) (lt2 : ∀ {w : World} {q p : Nat} {s : PS} {G : List Nat}, PAt w q p s G → ∀ k ∈ G, k < w.heap.size)
    (h : Joint At PAt w p v c F) : ∀ k ∈ F, k < w.heap.size := by
  obtain ⟨d, s⟩ := c
  cases s with
  | none => exact lt1 h.2
  | some s =>
    obtain ⟨q, F1, G, rfl, hA, hP, hFG, rfl⟩ := h
    intro k hk
    rcases List.mem_append.1 hk with hk | hk
    · exact lt1 hA k hk
    · exact lt2 hP k hk
theorem Joint.touch {At : World → Nat → RD → List Nat → Prop} {PAt : World → Nat → Nat → PS → List Nat → Prop} {w w' : World} {p : Nat} {v : Value} {c : DS} {F S : List Nat}
    (t1 : ∀ {w w' : World} {p : Nat} {d : RD} {F S : List Nat}, At w p d F → Touch S w w' → (∀ k ∈ S, k ∉ F) → At w' p d F) (t2 : ∀ {w w' : World} {q p : Nat} {s : PS} {G S : List Nat}, PAt w q p s G → Touch S w w' → (∀ k ∈ S, k ∉ G) → PAt w' q p s G)
    (h : Joint At PAt w p v c F) (hT : Touch S w w') (hS : ∀ k ∈ S, k ∉ F) : Joint At PAt w' p v c F := by
  obtain ⟨d, s⟩ := c
  cases s with
  | none => exact ⟨h.1, t1 h.2 hT hS⟩
  | some s =>
    obtain ⟨q, F1, G, rfl, hA, hP, hFG, rfl⟩ := h
    exact ⟨q, F1, G, rfl, t1 hA hT (fun k hk hm => hS k hk (List.mem_append_left _ hm)), t2 hP hT (fun k hk hm => hS k hk (List.mem_append_right _ hm)), hFG, rfl⟩
/-- what a call leaves that answers e0 and makes the two c' -/
def DidJ (At : World → Nat → RD → List Nat → Prop) (PAt : World → Nat → Nat → PS → List Nat → Prop) (w : World) (p : Nat) (v : Value) (F : List Nat) (c' : DS) (e0 : Ending) (e : Ending) (w' : World) : Prop :=
  e = e0 ∧ ∃ F', Joint At PAt w' p v c' F' ∧ Touch F w w' ∧ Grows F F' w.heap.size
theorem DidJ.after {At : World → Nat → RD → List Nat → Prop} {PAt : World → Nat → Nat → PS → List Nat → Prop} {w w1 : World} {p : Nat} {v : Value} {F : List Nat} {c' : DS} {e0 e : Ending} {w' : World} (hT : Touch [] w w1) (h : DidJ At PAt w1 p v F c' e0 e w') : DidJ At PAt w p v F c' e0 e w' := by
  obtain ⟨he, F', hA, hT', hG⟩ := h
  exact ⟨he, F', hA, (hT.more (by simp)).trans hT' (Grows.refl _ _), fun k hk => (hG k hk).elim .inl (fun h => .inr (Nat.le_trans hT.size h))⟩
theorem DidJ.two {At : World → Nat → RD → List Nat → Prop} {PAt : World → Nat → Nat → PS → List Nat → Prop} {w : World} {p q : Nat} {F : List Nat} {d' : RD} {s' : PS} {e0 e : Ending} {w' : World} (h : Did2 At PAt w p q F d' s' e0 e w') :
    DidJ At PAt w p (.pointer (some ⟨q, 0, none⟩)) F ⟨d', some s'⟩ e0 e w' := by
  obtain ⟨he, F', G', hA, hP, hFG, hT, hG⟩ := h
  exact ⟨he, F' ++ G', ⟨q, F', G', rfl, hA, hP, hFG, rfl⟩, hT, hG⟩
section
variable {At : World → Nat → RD → List Nat → Prop} {PAt : World → Nat → Nat → PS → List Nat → Prop}
theorem jwrite (D : ∀ {w w' : World} {p : Nat} {d : RD} {F S : List Nat}, At w p d F → Touch S w w' → (∀ k ∈ S, k ∉ F) → At w' p d F) (P : PgKit At PAt) (w : World) (p : Nat) (v : Value) (c : DS) (F : List Nat) (K : Nat) (hK : K ≤ 900000) (ok : DS.Ok K c) (hrow : ∀ s ∈ c.s, s.row.length ≤ K) (x : PV) (hx : x.body.size ≤ 2000) (h : Joint At PAt w p v c F) :
    Calls Try.prog 25 #[v, x.val] w (DidJ At PAt w p v F (c.pWrite x).1 (.returned (.int .i64 (c.pWrite x).2))) := by
  obtain ⟨d, s⟩ := c
  cases s with
  | none =>
    have hh := h
    obtain ⟨rfl, hA⟩ := hh
    exact (P.nilWrite w x).mono fun _ w' ⟨he, hb⟩ => ⟨he, F, ⟨rfl, D hA (Touch.ofBelow hb) (by simp)⟩, (Touch.ofBelow hb).more (by simp), Grows.refl _ _⟩
  | some s =>
    obtain ⟨q, F1, G, rfl, hA, hP, hFG, rfl⟩ := h
    exact (P.write w p q d s F1 G K hK ok.d (ok.s s rfl) (hrow s rfl) x hx hA hP hFG).mono fun _ _ hd => DidJ.two hd
theorem jsync (D : ∀ {w w' : World} {p : Nat} {d : RD} {F S : List Nat}, At w p d F → Touch S w w' → (∀ k ∈ S, k ∉ F) → At w' p d F) (P : PgKit At PAt) (w : World) (p : Nat) (v : Value) (c : DS) (F : List Nat) (K : Nat) (hK : K ≤ 900000) (ok : DS.Ok K c) (h : Joint At PAt w p v c F) :
    Calls Try.prog 26 #[v] w (DidJ At PAt w p v F c.pSync.1 (.returned (.int .i64 c.pSync.2))) := by
  obtain ⟨d, s⟩ := c
  cases s with
  | none =>
    have hh := h
    obtain ⟨rfl, hA⟩ := hh
    exact (P.nilSync w).mono fun _ w' ⟨he, hb⟩ => ⟨he, F, ⟨rfl, D hA (Touch.ofBelow hb) (by simp)⟩, (Touch.ofBelow hb).more (by simp), Grows.refl _ _⟩
  | some s =>
    obtain ⟨q, F1, G, rfl, hA, hP, hFG, rfl⟩ := h
    exact (P.sync w p q d s F1 G K hK ok.d hA hP hFG).mono fun _ _ hd => DidJ.two hd
theorem jseal (D : ∀ {w w' : World} {p : Nat} {d : RD} {F S : List Nat}, At w p d F → Touch S w w' → (∀ k ∈ S, k ∉ F) → At w' p d F) (P : PgKit At PAt) (w : World) (p : Nat) (v : Value) (c : DS) (F : List Nat) (K : Nat) (hK : K ≤ 900000) (ok : DS.Ok K c) (m : MV) (h : Joint At PAt w p v c F) :
    Calls Try.prog 13 #[v, m.val] w (DidJ At PAt w p v F (c.pSeal m).1 (.returned (.int .i64 (c.pSeal m).2))) := by
  obtain ⟨d, s⟩ := c
  cases s with
  | none =>
    have hh := h
    obtain ⟨rfl, hA⟩ := hh
    exact (P.nilSeal w m).mono fun _ w' ⟨he, hb⟩ => ⟨he, F, ⟨rfl, D hA (Touch.ofBelow hb) (by simp)⟩, (Touch.ofBelow hb).more (by simp), Grows.refl _ _⟩
  | some s =>
    obtain ⟨q, F1, G, rfl, hA, hP, hFG, rfl⟩ := h
    exact (P.seal_ w p q d s F1 G K hK ok.d (ok.s s rfl) m hA hP hFG).mono fun _ _ hd => DidJ.two hd
theorem jdone (D : ∀ {w w' : World} {p : Nat} {d : RD} {F S : List Nat}, At w p d F → Touch S w w' → (∀ k ∈ S, k ∉ F) → At w' p d F) (P : PgKit At PAt) (w : World) (p : Nat) (v : Value) (c : DS) (F : List Nat) (K : Nat) (hK : K ≤ 900000) (ok : DS.Ok K c) (h : Joint At PAt w p v c F) :
    Calls Try.prog 14 #[v] w (DidJ At PAt w p v F c.pDone.1 (.returned (.int .i64 c.pDone.2))) := by
  obtain ⟨d, s⟩ := c
  cases s with
  | none =>
    have hh := h
    obtain ⟨rfl, hA⟩ := hh
    exact (P.nilDone w).mono fun _ w' ⟨he, hb⟩ => ⟨he, F, ⟨rfl, D hA (Touch.ofBelow hb) (by simp)⟩, (Touch.ofBelow hb).more (by simp), Grows.refl _ _⟩
  | some s =>
    obtain ⟨q, F1, G, rfl, hA, hP, hFG, rfl⟩ := h
    exact (P.done w p q d s F1 G K hK ok.d (ok.s s rfl) hA hP hFG).mono fun _ _ hd => DidJ.two hd
theorem jread (P : PgKit At PAt) (w : World) (p : Nat) (v : Value) (c : DS) (F : List Nat) (K : Nat) (hK : K ≤ 900000) (ok : DS.Ok K c) (n : Int) (h : Joint At PAt w p v c F) :
    Calls Try.prog 23 #[v, .int .i64 n] w fun e w' => e = .returned (.tuple #[(c.pReadP n).val, .int .i64 (c.pReadE n)]) ∧ Below w.heap.size w w' := by
  obtain ⟨d, s⟩ := c
  cases s with
  | none => obtain ⟨rfl, hA⟩ := h; exact P.nilRead w n
  | some s =>
    obtain ⟨q, F1, G, rfl, hA, hP, hFG, rfl⟩ := h
    exact P.read w p q d s F1 G K hK ok.d ok.full (ok.s s rfl) n hA hP
theorem jmeta (P : PgKit At PAt) (w : World) (p : Nat) (v : Value) (c : DS) (F : List Nat) (h : Joint At PAt w p v c F) :
    Calls Try.prog 11 #[v] w fun e w' => e = .returned c.pMeta.val ∧ Below w.heap.size w w' := by
  obtain ⟨d, s⟩ := c
  cases s with
  | none => obtain ⟨rfl, hA⟩ := h; exact P.nilMeta w
  | some s =>
    obtain ⟨q, F1, G, rfl, hA, hP, hFG, rfl⟩ := h
    exact P.meta_ w q p s G hP
end
/-- the device alone is changed -/
theorem jdev {At : World → Nat → RD → List Nat → Prop} {PAt : World → Nat → Nat → PS → List Nat → Prop} (t2 : ∀ {w w' : World} {q p : Nat} {s : PS} {G S : List Nat}, PAt w q p s G → Touch S w w' → (∀ k ∈ S, k ∉ G) → PAt w' q p s G)
    (lt2 : ∀ {w : World} {q p : Nat} {s : PS} {G : List Nat}, PAt w q p s G → ∀ k ∈ G, k < w.heap.size) (f : FuncId) (args : List Nat → Array Value) (w : World) (p : Nat) (v : Value) (c : DS) (F : List Nat) (d' : RD) (e0 : Ending) (h : Joint At PAt w p v c F)
    (C : ∀ F1, (∀ k ∈ F1, k ∈ F) → At w p c.d F1 → Calls Try.prog f (args F1) w (Did At w p F1 d' e0)) (A : Array Value) (hA : ∀ F1, args F1 = A) : Calls Try.prog f A w (DidJ At PAt w p v F ⟨d', c.s⟩ e0) := by
  obtain ⟨d, s⟩ := c
  cases s with
  | none =>
    obtain ⟨rfl, hA0⟩ := h
    have := C F (fun _ h => h) hA0
    rw [hA] at this
    refine this.mono ?_
    rintro _ w' ⟨he, F', hA', hT, hG⟩
    exact ⟨he, F', ⟨rfl, hA'⟩, hT, hG⟩
  | some s =>
    obtain ⟨q, F1, G, rfl, hA0, hP, hFG, rfl⟩ := h
    have := C F1 (fun k hk => List.mem_append_left _ hk) hA0
    rw [hA] at this
    refine this.mono ?_
    rintro _ w' ⟨he, F', hA', hT, hG⟩
    refine ⟨he, F' ++ G, ⟨q, F', G, rfl, hA', t2 hP hT hFG, ?_, rfl⟩, hT.more (fun k hk => List.mem_append_left _ hk), ?_⟩
    · intro k hk hm
      rcases hG k hk with h | h
      · exact hFG k h hm
      · have := lt2 hP k hm; omega
    · intro k hk
      rcases List.mem_append.1 hk with hk | hk
      · exact (hG k hk).elim (fun h => .inl (List.mem_append_left _ h)) .inr
      · exact .inl (List.mem_append_right _ hk)
end Go.Proofs.Ytjgmlpfallakmaa
end
section
namespace Go.Proofs.Ytjgmlpfallakmaa
namespace RD
/-- nothing waits, the power is on, no fuse burns -/
structure Calm (d : RD) : Prop where
  off : d.off = false
  left : d.left = 0
  row : d.row = []
theorem has_iff (d : RD) (i : Int) : d.has i = true ↔ 0 ≤ i ∧ i < d.sector.length := by
  unfold has
  simp only [Bool.and_eq_true, decide_eq_true_eq]
theorem calm_goes {d : RD} (h : Calm d) : d.goes = true := by unfold goes; rw [h.off, h.left]; rfl
theorem stepped_off {d : RD} (h : d.off = false) (hl : d.left ≠ 1) : d.stepped.off = false := by
  unfold stepped
  rw [if_neg (by rw [h]; decide), if_neg hl]
  split <;> exact h
theorem stepped_left {d : RD} (h : d.left = 0) : d.stepped.left = 0 := by
  unfold stepped
  split
  · exact h
  · rw [if_neg (by omega), if_neg (by omega)]
    exact h
/-- the power is on, nothing waits -/
def Still (d : RD) : Prop := d.off = false ∧ d.row = []
theorem Calm.still {d : RD} (h : Calm d) : Still d := ⟨h.off, h.row⟩
/-- what is read of a still device -/
theorem still_read {d : RD} (h : Still d) (k : Nat) (hk : k < d.sector.length) : d.readS k = d.sector.getD k ⟨#[]⟩ ∧ d.readE k = 0 := by
  have hh : d.has k = true := by rw [has_iff]; omega
  unfold readS readE
  rw [hh, h.1, h.2]
  simp [last]
/-- a write of a calm device waits -/
theorem calm_write {d : RD} (h : Calm d) (k : Nat) (hk : k < d.sector.length) (s : ByteArray) (hs : s.size = 128) :
    d.writeE k s = 0 ∧ (d.writeD k s).off = false ∧ (d.writeD k s).left = 0 ∧ (d.writeD k s).row = [(k, s)] ∧ (d.writeD k s).sector = d.sector := by
  have hh : d.has k = true := by rw [has_iff]; omega
  unfold writeE writeD
  rw [hh, hs, calm_goes h, h.row]
  exact ⟨rfl, stepped_off h.off (by rw [h.left]; omega), stepped_left h.left, rfl, stepped_sector d⟩
theorem sync_one {d : RD} (ho : d.off = false) (hl : d.left = 0) (k : Nat) (s : ByteArray) (hr : d.row = [(k, s)]) : d.syncE = 0 ∧ Calm d.syncD ∧ d.syncD.sector = d.sector.set k s := by
  have hg : d.goes = true := by unfold goes; rw [ho, hl]; rfl
  unfold syncE syncD
  rw [hg, hr]
  exact ⟨rfl, ⟨stepped_off ho (by omega), stepped_left hl, rfl⟩, rfl⟩
theorem started_none (picks : List Int) (n i turn : Nat) (s : List ByteArray) : started picks [] n i turn s = s := by
  induction n generalizing i turn with
  | zero => rfl
  | succ n ih => rw [started_skip _ _ _ _ _ _ rfl, ih]
theorem writes_one (k i : Nat) (x : ByteArray) : writes [(k, x)] i = if k = i then [x] else [] := by
  unfold writes
  by_cases h : k = i <;> simp [h]
/-- of one write that waits: it lasts, or it doesn't -/
theorem started_one (picks : List Int) (k : Nat) (x : ByteArray) (n i turn : Nat) (s : List ByteArray) : started picks [(k, x)] n i turn s = s ∨ started picks [(k, x)] n i turn s = s.set k x := by
  have past : ∀ n i turn s, k < i → started picks [(k, x)] n i turn s = s := by
    intro n
    induction n with
    | zero => intros; rfl
    | succ n ih =>
      intro i turn s hi
      rw [started_skip _ _ _ _ _ _ (by rw [writes_one, if_neg (by omega)]; rfl), ih _ _ _ (by omega)]
  induction n generalizing i turn with
  | zero => exact .inl rfl
  | succ n ih =>
    by_cases h : k = i
    · subst h
      have hw : writes [(k, x)] k = [x] := by rw [writes_one, if_pos rfl]
      rw [started_take _ _ _ _ _ _ (by rw [hw]; simp), past _ _ _ _ (by omega), hw]
      split
      · exact .inl rfl
      · have hk := keeps_le picks turn [x].length
        right
        rename_i h0
        have : keeps picks turn [x].length = 1 := by simp at hk h0 ⊢; omega
        rw [this]
        rfl
    · rw [started_skip _ _ _ _ _ _ (by rw [writes_one, if_neg h]; rfl)]
      exact ih _ _
/-- the metas x and y lie in sectors 0 and 1 -/
def Two (d : RD) (x y : MV) : Prop := d.sector.getD 0 ⟨#[]⟩ = x.packS ∧ d.sector.getD 1 ⟨#[]⟩ = y.packS
/-- a still device with two metas opens by the newer one -/
theorem two_opens {d : RD} (h : Still d) (hl : 2 ≤ d.sector.length) (x y : MV) (hx : x.right = true) (hy : y.right = true) (ht : Two d x y) (h4 : 4 * (if x.txn < y.txn then y else x).limit ≤ d.sector.length) :
    d.opens = true ∧ d.openS = ⟨if x.txn < y.txn then y else x, if x.txn < y.txn then x else y, true, none, []⟩ ∧ d.openE = 0 := by
  obtain ⟨r0, e0⟩ := still_read h 0 (by omega)
  obtain ⟨r1, e1⟩ := still_read h 1 (by omega)
  obtain ⟨t0, t1⟩ := ht
  rw [t0] at r0
  rw [t1] at r1
  obtain ⟨n1, n2, n3⟩ := newest_packs x y hx hy
  have r0 : d.readS 0 = x.packS := r0
  have r1 : d.readS 1 = y.packS := r1
  have e0 : d.readE 0 = 0 := e0
  have e1 : d.readE 1 = 0 := e1
  have ho : d.opens = true := by
    unfold opens
    rw [r0, r1, e0, e1, n1, n2]
    simp only [decide_true, Bool.true_and, decide_eq_true_eq]
    exact h4
  refine ⟨ho, ?_, ?_⟩
  · unfold openS rest
    rw [r0, r1, n2, n3]
    obtain ⟨u1, u2⟩ := unpackM_pack x hx
    obtain ⟨v1, v2⟩ := unpackM_pack y hy
    by_cases hlt : x.txn < y.txn
    · simp only [if_pos hlt, if_true, u1, u2, decide_true]
    · simp only [if_neg hlt]
      rw [if_neg (by omega), v1, v2]
      rfl
  · unfold openE
    rw [e0, e1, ho]
    rfl
theorem fm_right (t n : Int) (h : 0 ≤ t ∧ t ≤ 1) (hn : 4 ≤ n ∧ n ≤ 512) : (fm t n).right = true := by
  rw [MV.right_iff]
  simp only [fm]
  omega
/-- a device that has nothing becomes a file -/
theorem fmt_calm {d : RD} (h : Calm d) (n : Int) (hm : d.fmtMay n = true) : d.fmtE n = 0 ∧ Calm (d.fmtD n) ∧ Two (d.fmtD n) (fm 0 n) (fm 1 n) ∧ (d.fmtD n).sector.length = d.sector.length := by
  have hmm := hm
  unfold fmtMay at hmm
  simp only [Bool.and_eq_true, decide_eq_true_eq] at hmm
  have f0 := packS_len _ (fm_right 0 n (by omega) (by omega))
  have f1 := packS_len _ (fm_right 1 n (by omega) (by omega))
  have w0 := calm_write h 0 (by omega) _ f0
  have hd1 : d.fmt1 n = d.writeD (0 : Nat) (fm 0 n).packS := rfl
  have he1 : d.fmt1E n = d.writeE (0 : Nat) (fm 0 n).packS := rfl
  obtain ⟨a1, a2, a3, a4, a5⟩ := w0
  rw [← hd1] at a2 a3 a4 a5
  rw [← he1] at a1
  have hg : (d.fmt1 n).goes = true := by unfold goes; rw [a2, a3]; rfl
  have hh : (d.fmt1 n).has 1 = true := by rw [has_iff, a5]; omega
  have b1 : d.fmt2E n = 0 := by
    unfold fmt2E writeE
    rw [hh, f1, hg]
    rfl
  have b2 : (d.fmt2 n).off = false ∧ (d.fmt2 n).left = 0 ∧ (d.fmt2 n).row = [(0, (fm 0 n).packS), (1, (fm 1 n).packS)] ∧ (d.fmt2 n).sector = d.sector := by
    unfold fmt2 writeD
    rw [hh, f1, hg, a4]
    exact ⟨stepped_off a2 (by rw [a3]; omega), stepped_left a3, rfl, (stepped_sector _).trans a5⟩
  obtain ⟨c1, c2, c3, c4⟩ := b2
  have hg2 : (d.fmt2 n).goes = true := by unfold goes; rw [c1, c2]; rfl
  have e : d.fmtE n = 0 := by
    unfold fmtE
    rw [if_pos hm, if_pos a1, if_pos b1]
    unfold syncE
    rw [hg2]
    rfl
  have s : d.fmtD n = (d.fmt2 n).syncD := by
    unfold fmtD
    rw [if_pos hm, if_pos a1, if_pos b1]
  have s2 : (d.fmt2 n).syncD = { (d.fmt2 n).stepped with sector := synced (d.fmt2 n).row (d.fmt2 n).sector, row := [] } := by
    unfold syncD
    rw [hg2]
    rfl
  rw [s2] at s
  refine ⟨e, ?_, ?_, ?_⟩
  · rw [s]
    exact ⟨stepped_off c1 (by rw [c2]; omega), stepped_left c2, rfl⟩
  · rw [s]
    show Two { (d.fmt2 n).stepped with sector := synced (d.fmt2 n).row (d.fmt2 n).sector, row := [] } _ _
    rw [c3, c4]
    unfold Two
    simp only [synced, List.foldl_cons, List.foldl_nil]
    have l2 : 1 < d.sector.length := by omega
    constructor
    · rw [List.getD_eq_getElem?_getD, List.getElem?_set_ne (by omega), List.getElem?_set_self (by omega)]
      rfl
    · rw [List.getD_eq_getElem?_getD, List.getElem?_set_self (by rw [List.length_set]; omega)]
      rfl
  · exact fmt_length d n
/-- what lies behind a loss of power, whatever lasts -/
theorem back_none (d : RD) (picks : List Int) (hr : d.row = []) : Still (d.cutD.startD picks) ∧ (d.cutD.startD picks).sector = d.sector := by
  have ho : d.cutD.off = true := by unfold cutD; split <;> simp_all
  have hrr : d.cutD.row = [] := by unfold cutD; split <;> exact hr
  have hs : d.cutD.sector = d.sector := by unfold cutD; split <;> rfl
  unfold startD
  rw [if_pos ho, hrr, started_none, hs]
  exact ⟨⟨rfl, rfl⟩, rfl⟩
theorem back_one (d : RD) (picks : List Int) (k : Nat) (x : ByteArray) (hr : d.row = [(k, x)]) : Still (d.cutD.startD picks) ∧ ((d.cutD.startD picks).sector = d.sector ∨ (d.cutD.startD picks).sector = d.sector.set k x) := by
  have ho : d.cutD.off = true := by unfold cutD; split <;> simp_all
  have hrr : d.cutD.row = [(k, x)] := by unfold cutD; split <;> exact hr
  have hs : d.cutD.sector = d.sector := by unfold cutD; split <;> rfl
  unfold startD
  rw [if_pos ho, hrr, hs]
  exact ⟨⟨rfl, rfl⟩, started_one _ _ _ _ _ _ _⟩
/-- the present meta m and an elder one lie in their sectors -/
def Holds (d : RD) (m : MV) : Prop := ∃ o : MV, o.right = true ∧ o.limit = 6 ∧ o.txn < m.txn ∧ (if m.txn % 2 = 1 then Two d o m else Two d m o)
theorem Holds.sector {d d' : RD} {m : MV} (h : Holds d m) (hs : d'.sector = d.sector) : Holds d' m := by
  obtain ⟨o, h1, h2, h3, h4⟩ := h
  refine ⟨o, h1, h2, h3, ?_⟩
  unfold Two at h4 ⊢
  rw [hs]
  exact h4
theorem Holds.opens {d : RD} {m : MV} (h : Holds d m) (hs : Still d) (hl : d.sector.length = 24) (hm : m.right = true) (h6 : m.limit = 6) : d.opens = true ∧ d.openE = 0 ∧ d.openS.m = m := by
  obtain ⟨o, h1, h2, h3, h4⟩ := h
  by_cases ht : m.txn % 2 = 1
  · rw [if_pos ht] at h4
    obtain ⟨a, b, c⟩ := two_opens hs (by omega) o m h1 hm h4 (by rw [if_pos h3, h6, hl]; decide)
    refine ⟨a, c, ?_⟩
    rw [b, if_pos h3]
  · rw [if_neg ht] at h4
    obtain ⟨a, b, c⟩ := two_opens hs (by omega) m o hm h1 h4 (by rw [if_neg (by omega), h6, hl]; decide)
    refine ⟨a, c, ?_⟩
    rw [b, if_neg (by omega)]
/-- the next meta lies in the other sector -/
theorem Holds.next {d d' : RD} {m n : MV} (h : Holds d m) (hl : d.sector.length = 24) (hm : m.right = true) (h6 : m.limit = 6) (hn : n.txn = m.txn + 1) (hs : d'.sector = d.sector.set (n.txn % 2).toNat n.packS) : Holds d' n := by
  obtain ⟨o, h1, h2, h3, h4⟩ := h
  refine ⟨m, hm, h6, by omega, ?_⟩
  by_cases ht : m.txn % 2 = 1
  · rw [if_pos ht] at h4
    rw [if_neg (by omega)]
    have e : (n.txn % 2).toNat = 0 := by omega
    rw [e] at hs
    unfold Two at h4 ⊢
    rw [hs]
    refine ⟨?_, ?_⟩
    · rw [List.getD_eq_getElem?_getD, List.getElem?_set_self (by omega)]; rfl
    · rw [List.getD_eq_getElem?_getD, List.getElem?_set_ne (by omega), ← List.getD_eq_getElem?_getD]
      exact h4.2
  · rw [if_neg ht] at h4
    rw [if_pos (by omega)]
    have e : (n.txn % 2).toNat = 1 := by omega
    rw [e] at hs
    unfold Two at h4 ⊢
    rw [hs]
    refine ⟨?_, ?_⟩
    · rw [List.getD_eq_getElem?_getD, List.getElem?_set_ne (by omega), ← List.getD_eq_getElem?_getD]
      exact h4.1
    · rw [List.getD_eq_getElem?_getD, List.getElem?_set_self (by omega)]; rfl
/-- a file of 6 pages, calm -/
structure File (d : RD) (s : PS) : Prop where
  calm : Calm d
  len : d.sector.length = 24
  seal_ : s.seal_ = none
  m : s.m.right = true
  limit : s.m.limit = 6
  holds : Holds d s.m
theorem maySeal_of {s : PS} {n : MV} (hn : n.right = true) (hl : n.limit = s.m.limit) (ht : n.txn = s.m.txn + 1) (hs : s.seal_ = none) : s.maySeal n = true ∧ (n.right && decide (n.limit = s.m.limit)) = true := by
  unfold PS.maySeal
  rw [hn, hl, ht, hs]
  simp
/-- a write of a device that nothing waits on, whose power is on -/
theorem write_goes {d : RD} (ho : d.off = false) (hr : d.row = []) (k : Int) (hk : 0 ≤ k ∧ k < d.sector.length) (s : ByteArray) (hs : s.size = 128) (h1 : d.left ≠ 1) :
    d.writeE k s = 0 ∧ (d.writeD k s).off = false ∧ (d.writeD k s).row = [(k.toNat, s)] ∧ (d.writeD k s).sector = d.sector := by
  have hh : d.has k = true := by rw [has_iff]; omega
  have hg : d.goes = true := by unfold goes; rw [ho]; simp [h1]
  unfold writeE writeD
  rw [hh, hs, hg, hr]
  exact ⟨rfl, stepped_off ho h1, rfl, stepped_sector d⟩
theorem write_ends {d : RD} (ho : d.off = false) (k : Int) (hk : 0 ≤ k ∧ k < d.sector.length) (s : ByteArray) (hs : s.size = 128) (h1 : d.left = 1) :
    d.writeE k s = 6 ∧ d.writeD k s = d.stepped := by
  have hh : d.has k = true := by rw [has_iff]; omega
  have hg : d.goes = false := by unfold goes; rw [ho, h1]; rfl
  unfold writeE writeD
  rw [hh, hs, hg]
  exact ⟨rfl, rfl⟩
theorem seal_e {s : PS} {d : RD} {n : MV} (h : s.maySeal n = true) (h' : (n.right && decide (n.limit = s.m.limit)) = true) : s.sealE d n = d.writeE (n.txn % 2) n.packS ∧ s.sealD d n = d.writeD (n.txn % 2) n.packS ∧ s.sealS d n = if d.writeE (n.txn % 2) n.packS = 0 then { s with seal_ := some n } else s := by
  unfold PS.sealE PS.sealD PS.sealS
  rw [if_pos h', if_pos h, if_pos h, h]
  refine ⟨rfl, rfl, ?_⟩
  simp only [Bool.true_and, decide_eq_true_eq]
theorem done_e {s : PS} {d : RD} {n : MV} (h : s.seal_ = some n) : s.doneE d = d.syncE ∧ s.doneD d = d.syncD ∧ s.doneS d = if d.syncE = 0 then { s with m := n, o := s.m, has := true, seal_ := none } else s := by
  unfold PS.doneE PS.doneD PS.doneS
  rw [h]
  exact ⟨rfl, rfl, rfl⟩
/-- OLD OR NEW: a meta is sealed, and done, wherever a fuse of L ends -/
theorem file_seal {d : RD} {s : PS} (h : File d s) (L : Int) (n : MV) (hn : n.right = true) (hl : n.limit = 6) (ht : n.txn = s.m.txn + 1) (d0 : RD) (hd0 : d0 = { d with left := L }) :
    (s.sealE d0 n = 6 ∧ ∀ picks, Still ((s.sealD d0 n).cutD.startD picks) ∧ Holds ((s.sealD d0 n).cutD.startD picks) s.m) ∨
    (s.sealE d0 n = 0 ∧ s.sealS d0 n = { s with seal_ := some n } ∧
      (((s.sealS d0 n).doneE (s.sealD d0 n) = 0 ∧ (L = 0 → File ((s.sealS d0 n).doneD (s.sealD d0 n)) ((s.sealS d0 n).doneS (s.sealD d0 n)) ∧ ((s.sealS d0 n).doneS (s.sealD d0 n)).m = n) ∧
          ∀ picks, Still (((s.sealS d0 n).doneD (s.sealD d0 n)).cutD.startD picks) ∧ Holds (((s.sealS d0 n).doneD (s.sealD d0 n)).cutD.startD picks) n) ∨
        ((s.sealS d0 n).doneE (s.sealD d0 n) = 6 ∧ L ≠ 0 ∧
          ∀ picks, Still (((s.sealS d0 n).doneD (s.sealD d0 n)).cutD.startD picks) ∧ (Holds (((s.sealS d0 n).doneD (s.sealD d0 n)).cutD.startD picks) s.m ∨ Holds (((s.sealS d0 n).doneD (s.sealD d0 n)).cutD.startD picks) n)))) := by
  obtain ⟨ms, ms'⟩ := maySeal_of hn (hl.trans h.limit.symm) ht h.seal_
  obtain ⟨e1, e2, e3⟩ := seal_e (d := d0) ms ms'
  have o0 : d0.off = false := by rw [hd0]; exact h.calm.off
  have r0 : d0.row = [] := by rw [hd0]; exact h.calm.row
  have s0 : d0.sector = d.sector := by rw [hd0]
  have l0 : d0.left = L := by rw [hd0]
  have hk : 0 ≤ n.txn % 2 ∧ n.txn % 2 < d0.sector.length := by rw [s0, h.len]; omega
  have hsz := packS_len n hn
  by_cases hL : L = 1
  · obtain ⟨w1, w2⟩ := write_ends o0 _ hk _ hsz (l0.trans hL)
    left
    refine ⟨e1.trans w1, fun picks => ?_⟩
    rw [e2, w2]
    obtain ⟨b1, b2⟩ := back_none d0.stepped picks (by rw [stepped_row, r0])
    exact ⟨b1, h.holds.sector (by rw [b2, stepped_sector, s0])⟩
  · obtain ⟨w1, w2, w3, w4⟩ := write_goes o0 r0 _ hk _ hsz (by rw [l0]; exact hL)
    right
    rw [w1, if_pos rfl] at e3
    refine ⟨e1.trans w1, e3, ?_⟩
    rw [e3, e2]
    obtain ⟨d1, hd1⟩ : ∃ d1, d0.writeD (n.txn % 2) n.packS = d1 := ⟨_, rfl⟩
    rw [hd1] at w2 w3 w4 ⊢
    obtain ⟨f1, f2, f3⟩ := done_e (s := { s with seal_ := some n }) (d := d1) (n := n) rfl
    by_cases h1 : d1.left = 1
    · right
      have hg : d1.goes = false := by unfold goes; rw [w2, h1]; rfl
      have se : d1.syncE = 6 := by unfold syncE; rw [hg]; rfl
      have sd : d1.syncD = d1.stepped := by unfold syncD; rw [hg]; rfl
      refine ⟨f1.trans se, ?_, fun picks => ?_⟩
      · intro h0
        have : d1.left = 0 := by
          rw [← hd1]
          unfold writeD
          split
          · split
            · exact stepped_left (l0.trans h0)
            · exact stepped_left (l0.trans h0)
          · exact l0.trans h0
        omega
      · rw [f2, sd]
        obtain ⟨b1, b2⟩ := back_one d1.stepped picks _ _ (by rw [stepped_row, w3])
        refine ⟨b1, ?_⟩
        rw [stepped_sector] at b2
        rcases b2 with b2 | b2
        · exact .inl (h.holds.sector (by rw [b2, w4, s0]))
        · exact .inr (h.holds.next h.len h.m h.limit ht (by rw [b2, w4, s0]))
    · left
      have hg : d1.goes = true := by unfold goes; rw [w2]; simp [h1]
      have se : d1.syncE = 0 := by unfold syncE; rw [hg]; rfl
      have sd : d1.syncD = { d1.stepped with sector := synced d1.row d1.sector, row := [] } := by unfold syncD; rw [hg]; rfl
      have hsec : d1.syncD.sector = d.sector.set (n.txn % 2).toNat n.packS := by rw [sd, w3, w4, s0]; rfl
      rw [se, if_pos rfl] at f3
      refine ⟨f1.trans se, fun h0 => ?_, fun picks => ?_⟩
      · rw [f3, f2]
        refine ⟨⟨⟨?_, ?_, ?_⟩, ?_, rfl, hn, hl, h.holds.next h.len h.m h.limit ht hsec⟩, rfl⟩
        · rw [sd]; exact stepped_off w2 h1
        · rw [sd]
          have : d1.left = 0 := by
            rw [← hd1]
            unfold writeD
            split
            · split
              · exact stepped_left (l0.trans h0)
              · exact stepped_left (l0.trans h0)
            · exact l0.trans h0
          exact stepped_left this
        · rw [sd]
        · rw [hsec, List.length_set, h.len]
      · rw [f2]
        obtain ⟨b1, b2⟩ := back_none d1.syncD picks (by rw [sd])
        exact ⟨b1, h.holds.next h.len h.m h.limit ht (b2.trans hsec)⟩
end RD
end Go.Proofs.Ytjgmlpfallakmaa
end
section
namespace Go.Proofs.Ytjgmlpfallakmaa
open Go.RowKit
def beg0 : RD := RD.fresh (sectorOf 0) 24
def begD : RD := beg0.fmtD 6
def begS : PS := ⟨RD.fm 1 6, RD.fm 0 6, true, none, []⟩
theorem beg0_len : beg0.sector.length = 24 := by unfold beg0 RD.fresh; exact List.length_replicate
theorem beg0_full : beg0.Full := by
  refine ⟨fun s hs => ?_, fun x hx => by cases hx⟩
  have : s = sectorOf 0 := List.eq_of_mem_replicate hs
  rw [this]
  exact sectorOf_size 0
theorem beg0_ok : RD.Ok 10 beg0 := by
  refine ⟨by rw [beg0_len]; omega, by show ([] : List (Nat × ByteArray)).length ≤ 10; simp, (fun x hx => by cases hx), ?_, ?_, ?_⟩
  · show (0 : Int) ≤ 0 ∧ (0 : Int) ≤ 9223372036854775807; omega
  · show (0 : Int) ≤ 0 ∧ (0 : Int) ≤ (10 : Nat); omega
  · show (0 : Int) ≤ 0 ∧ (0 : Int) ≤ (10 : Nat); omega
theorem beg_may : beg0.fmtMay 6 = true := by unfold RD.fmtMay; rw [beg0_len]; rfl
theorem beg_fmt : beg0.fmtE 6 = 0 ∧ RD.Calm begD ∧ RD.Two begD (RD.fm 0 6) (RD.fm 1 6) ∧ begD.sector.length = 24 := by
  obtain ⟨a, b, c, d⟩ := RD.fmt_calm (d := beg0) ⟨rfl, rfl, rfl⟩ 6 beg_may
  exact ⟨a, b, c, d.trans beg0_len⟩
theorem begD_ok : RD.Ok 20 begD := (RD.fmt_ok beg0_ok 6).more (by omega)
theorem begD_full : begD.Full := beg0_full.fmt 6
theorem beg_opens : begD.opens = true ∧ begD.openS = begS ∧ begD.openE = 0 := by
  obtain ⟨_, b, c, d⟩ := beg_fmt
  exact RD.two_opens b.still (by omega) _ _ (RD.fm_right 0 6 (by omega) (by omega)) (RD.fm_right 1 6 (by omega) (by omega)) c (by rw [d]; decide)
theorem beg_file : RD.File begD begS := by
  obtain ⟨_, b, c, d⟩ := beg_fmt
  refine ⟨b, d, rfl, RD.fm_right 1 6 (by omega) (by omega), rfl, ?_⟩
  exact ⟨RD.fm 0 6, RD.fm_right 0 6 (by omega) (by omega), rfl, by decide, by rw [if_pos (by decide)]; exact c⟩
theorem begS_ok : begS.Ok := ⟨RD.fm_right 1 6 (by omega) (by omega), fun x hx => by cases hx⟩
/-- what begin leaves -/
def Began (At : World → Nat → RD → List Nat → Prop) (PAt : World → Nat → Nat → PS → List Nat → Prop) (w : World) (e : Ending) (w' : World) : Prop :=
  ∃ p q F G, e = .returned (.tuple #[.pointer (some ⟨p, 0, none⟩), .pointer (some ⟨q, 0, none⟩)]) ∧ At w' p begD F ∧ PAt w' q p begS G ∧ (∀ k ∈ F, k ∉ G) ∧ (∀ k ∈ F, w.heap.size ≤ k) ∧ (∀ k ∈ G, w.heap.size ≤ k) ∧ Below w.heap.size w w'
theorem begin_ok (At : World → Nat → RD → List Nat → Prop) (PAt : World → Nat → Nat → PS → List Nat → Prop) (lt : ∀ {w : World} {p : Nat} {d : RD} {F : List Nat}, At w p d F → ∀ k ∈ F, k < w.heap.size)
    (tch : ∀ {w w' : World} {p : Nat} {d : RD} {F S : List Nat}, At w p d F → Touch S w w' → (∀ k ∈ S, k ∉ F) → At w' p d F) (N : HasNew At 8) (P : PgKit At PAt) (w : World) : Calls Try.prog 12 #[] w (Began At PAt w) := by
  obtain ⟨f1, _, _, _⟩ := beg_fmt
  obtain ⟨g1, g2, _⟩ := beg_opens
  go_enter Try.func12, Try.ntmps12
  go_wp2_with fail
  refine (N.new 24 _ (by omega) (by omega)).mono ?_
  rintro _ w1 ⟨p, F, rfl, hA, hF, hb⟩
  have hBB := Lib.hid hb
  clear hb
  go_wp2_with fail
  refine (P.format _ p beg0 F 10 (by omega) beg0_ok 6 hA).mono ?_
  rintro _ w2 ⟨rfl, F2, hA2, hT2, hG2⟩
  rw [f1]
  have hA2 : At w2 p begD F2 := hA2
  have hF2 : ∀ k ∈ F2, w.heap.size ≤ k := fun k hk => (hG2 k hk).elim (hF k) (fun h => Nat.le_trans hBB.out.size h)
  have hB2 : Hid (Below w.heap.size w w2) := Lib.hid (hBB.out.trans (hT2.below hBB.out.size hF))
  clear hT2 hG2
  go_wp2_with fail
  refine (P.open_ _ p begD F2 20 (by omega) begD_ok begD_full hA2).mono ?_
  rintro e w3 ⟨hb3, ho⟩
  rw [g1] at ho
  obtain ⟨q, G, rfl, hP, hG⟩ := ho.elim (fun h => by cases h.1) (fun h => h.2)
  rw [g2] at hP
  have hA3 := tch hA2 (Touch.ofBelow hb3) (by simp)
  have hlt := lt hA2
  have HA := Lib.hid hA3
  have HP := Lib.hid hP
  have HG := Lib.hid hG
  have HB := Lib.hid (hB2.out.trans (hb3.mono hB2.out.size))
  have hsz := hB2.out.size
  clear hA2 hA3 hP hG hb3 ho
  go_wp2
  go_ret2
  refine ⟨p, q, F2, G, rfl, HA.out, HP.out, fun k hk hm => ?_, hF2, fun k hk => Nat.le_trans hsz (HG.out k hk), HB.out⟩
  have := hlt k hk
  have := HG.out k hm
  omega
theorem pgawake_ok (At : World → Nat → RD → List Nat → Prop) (PAt : World → Nat → Nat → PS → List Nat → Prop) (lt : ∀ {w : World} {p : Nat} {d : RD} {F : List Nat}, At w p d F → ∀ k ∈ F, k < w.heap.size)
    (tch : ∀ {w w' : World} {p : Nat} {d : RD} {F S : List Nat}, At w p d F → Touch S w w' → (∀ k ∈ S, k ∉ F) → At w' p d F) (N : HasNew At 8) (P : PgKit At PAt) (w : World) : Calls Try.prog 7 #[] w fun e w' => e = .returned (.bool true) ∧ Below w.heap.size w w' := by
  go_enter Try.func7, Try.ntmps7
  go_wp2_with fail
  refine (begin_ok At PAt lt tch N P _).mono ?_
  rintro _ w1 ⟨p, q, F, G, rfl, hA, hP, hFG, hF, hG, hb⟩
  have OC := P.other w1 q p begS G hP
  have HB1 := Lib.hid hb
  have hn : begS.o.val = .agg #[.int .i64 0, .int .i64 0, .int .i64 0, .int .i64 1, .int .i64 6] := rfl
  have hm : begS.m.val = .agg #[.int .i64 1, .int .i64 0, .int .i64 0, .int .i64 1, .int .i64 6] := rfl
  rw [hn, show begS.has = true from rfl] at OC
  have OC := Lib.hid OC
  have HP := Lib.hid hP
  clear hA hP hFG hF hG hb
  go_wp2_with fail
  refine OC.out.mono ?_
  rintro _ w2 ⟨rfl, hb2⟩
  have hP2 := P.touch HP.out (Touch.ofBelow hb2) (by simp)
  have hP3 := P.touch hP2 ((Touch.refl [] w2).alloc (.cells #[.int .i64 0, .int .i64 0, .int .i64 0, .int .i64 1, .int .i64 6] 32)) (by simp)
  have MC := P.meta_ _ q p begS G hP3
  rw [hm] at MC
  have MC := Lib.hid MC
  have B2 := HB1.out.trans (hb2.mono HB1.out.size)
  have HB2 := Lib.hid (B2.alloc B2.size (.cells #[.int .i64 0, .int .i64 0, .int .i64 0, .int .i64 1, .int .i64 6] 32))
  clear hP2 hP3 hb2
  go_wp2_with fail
  refine MC.out.mono ?_
  rintro _ w3 ⟨rfl, hb3⟩
  have hO : Blk w3 w2.heap.size #[.int .i64 0, .int .i64 0, .int .i64 0, .int .i64 1, .int .i64 6] 32 := (hb3.block _ (by simp)).trans (heap_alloc_new w2 _)
  have HB3 := Lib.hid (HB2.out.trans (hb3.mono HB2.out.size))
  have c0 : w3.cell? ⟨w2.heap.size, 0, none⟩ = some (.int .i64 0) := hO.cell 0
  have c1 : w3.cell? ⟨w2.heap.size, 1, none⟩ = some (.int .i64 0) := hO.cell 1
  have c2 : w3.cell? ⟨w2.heap.size, 2, none⟩ = some (.int .i64 0) := hO.cell 2
  have c3 : w3.cell? ⟨w2.heap.size, 3, none⟩ = some (.int .i64 1) := hO.cell 3
  have c4 : w3.cell? ⟨w2.heap.size, 4, none⟩ = some (.int .i64 6) := hO.cell 4
  clear hO hb3
  go_wp2
  go_ret
  exact ⟨rfl, HB3.out⟩
end Go.Proofs.Ytjgmlpfallakmaa
end
section
namespace Go.Proofs.Ytjgmlpfallakmaa
open Go.RowKit
/-- a call's cells -/
def ActP.cells (x : ActP) (pv : Value) : Array Value :=
  #[.int .i64 x.kind, .int .i64 x.page.kind, .int .i64 x.page.no, .int .i64 x.page.txn, .string x.page.body, .int .i64 x.meta_.txn, .int .i64 x.meta_.root, .int .i64 x.meta_.free, .int .i64 x.meta_.pages, .int .i64 x.meta_.limit, .bool x.next, .int .i64 x.n, .string x.text, pv]
set_option maxRecDepth 4000 in
set_option maxHeartbeats 1600000 in
theorem pgnil_any (At : World → Nat → RD → List Nat → Prop) (PAt : World → Nat → Nat → PS → List Nat → Prop) (lt : ∀ {w : World} {p : Nat} {d : RD} {F : List Nat}, At w p d F → ∀ k ∈ F, k < w.heap.size)
    (tch : ∀ {w w' : World} {p : Nat} {d : RD} {F S : List Nat}, At w p d F → Touch S w w' → (∀ k ∈ S, k ∉ F) → At w' p d F) (N : HasNew At 8) (P : PgKit At PAt) (w : World) (x : ActP) (PA : Option Addr) (pl pcap : Nat) :
    Calls Try.prog 6 #[.agg (x.cells (.slice PA pl pcap))] w fun e w' => e = .returned (.bool true) ∧ Below w.heap.size w w' := by
  have RC := fun w n => P.nilRead w n
  have hz0 : PV.none.val = .agg #[.int .i64 0, .int .i64 0, .int .i64 0, .string ⟨#[]⟩] := rfl
  simp only [hz0] at RC
  have RC := fun w n => Lib.hid (RC w n)
  clear hz0
  have OC := fun w => Lib.hid (P.nilOther w)
  have WC := fun w => Lib.hid (P.nilWrite w x.page)
  have SC := fun w => Lib.hid (P.nilSync w)
  have LC := fun w => Lib.hid (P.nilSeal w x.meta_)
  have DC := fun w => Lib.hid (P.nilDone w)
  have MC := fun w => Lib.hid (P.nilMeta w)
  have GC := fun w => Lib.hid (P.nilLog w)
  have AC := fun w => Lib.hid (pgawake_ok At PAt lt tch N P w)
  unfold MV.val MV.none at OC MC
  unfold PV.val at WC
  unfold MV.val at LC
  simp only at OC WC LC MC
  obtain ⟨kind, ⟨pk, pn, pt, pb⟩, ⟨mt, mr, mf, mp, ml⟩, next, n, text, picks⟩ := x
  unfold ActP.cells
  simp only at WC LC ⊢
  have HB : Hid (∀ o : Obj, Below w.heap.size w (w.alloc o)) := Lib.hid fun o => (Below.refl _ _).alloc (Nat.le_refl _) o
  have box := HB.out (.cells #[.int .i64 kind, .int .i64 pk, .int .i64 pn, .int .i64 pt, .string pb, .int .i64 mt, .int .i64 mr, .int .i64 mf, .int .i64 mp, .int .i64 ml, .bool next, .int .i64 n, .string text, .slice PA pl pcap] 53)
  go_enter Try.func6, Try.ntmps6
  go_wp2_with fail
  refine (AC _).out.mono ?_
  rintro _ w1 ⟨rfl, hb1⟩
  have hA1 := (Blk.new w #[.int .i64 kind, .int .i64 pk, .int .i64 pn, .int .i64 pt, .string pb, .int .i64 mt, .int .i64 mr, .int .i64 mf, .int .i64 mp, .int .i64 ml, .bool next, .int .i64 n, .string text, .slice PA pl pcap] 53).touch (Touch.ofBelow hb1) (by simp)
  have c11 : w1.cell? ⟨w.heap.size, 11, none⟩ = some (.int .i64 n) := hA1.cell 11
  have B1 := box.trans (hb1.mono (by simp))
  go_wp2_with fail
  refine (RC _ n).out.mono ?_
  rintro _ w2 ⟨rfl, hb2⟩
  have B2 := B1.trans (hb2.mono B1.size)
  have hA2 := hA1.touch (Touch.ofBelow hb2) (by simp)
  go_wp2_with fail
  refine (OC _).out.mono ?_
  rintro _ w3 ⟨rfl, hb3⟩
  have hP : Blk w3 w2.heap.size #[.int .i64 0, .int .i64 0, .int .i64 0, .string ⟨#[]⟩] 51 := (hb3.block _ (by simp)).trans (heap_alloc_new w2 _)
  have B2' := B2.alloc B2.size (.cells #[.int .i64 0, .int .i64 0, .int .i64 0, .string ⟨#[]⟩] 51)
  have B3 := B2'.trans (hb3.mono B2'.size)
  have hA3 := (hA2.alloc (.cells #[.int .i64 0, .int .i64 0, .int .i64 0, .string ⟨#[]⟩] 51)).touch (Touch.ofBelow hb3) (by simp)
  have p0 : w3.cell? ⟨w2.heap.size, 0, none⟩ = some (.int .i64 0) := hP.cell 0
  have p1 : w3.cell? ⟨w2.heap.size, 1, none⟩ = some (.int .i64 0) := hP.cell 1
  have p2 : w3.cell? ⟨w2.heap.size, 2, none⟩ = some (.int .i64 0) := hP.cell 2
  have p3 : w3.cell? ⟨w2.heap.size, 3, none⟩ = some (.string ⟨#[]⟩) := hP.cell 3
  have a1 : w3.cell? ⟨w.heap.size, 1, none⟩ = some (.int .i64 pk) := hA3.cell 1
  have a2 : w3.cell? ⟨w.heap.size, 2, none⟩ = some (.int .i64 pn) := hA3.cell 2
  have a3 : w3.cell? ⟨w.heap.size, 3, none⟩ = some (.int .i64 pt) := hA3.cell 3
  have a4 : w3.cell? ⟨w.heap.size, 4, none⟩ = some (.string pb) := hA3.cell 4
  have l1 := hP.lt
  have l2 := hA3.lt
  go_wp2_with fail
  refine (WC _).out.mono ?_
  rintro _ w4 ⟨rfl, hb4⟩
  have B3' := B3.alloc B3.size (.cells #[.int .i64 0, .int .i64 0, .int .i64 0, .int .i64 0, .int .i64 0] 32)
  have B4 := B3'.trans (hb4.mono B3'.size)
  have hO4 : Blk w4 w3.heap.size #[.int .i64 0, .int .i64 0, .int .i64 0, .int .i64 0, .int .i64 0] 32 := (hb4.block _ (by simp)).trans (heap_alloc_new w3 _)
  have hA4 := (hA3.alloc (.cells #[.int .i64 0, .int .i64 0, .int .i64 0, .int .i64 0, .int .i64 0] 32)).touch (Touch.ofBelow hb4) (by simp)
  clear p0 p1 p2 p3 a1 a2 a3 a4 l1 l2 hA2 hP hA1 c11 hb1 hb2 hb3
  go_wp2_with fail
  refine (SC _).out.mono ?_
  rintro _ w5 ⟨rfl, hb5⟩
  have B5 := B4.trans (hb5.mono B4.size)
  have hO5 := hO4.touch (Touch.ofBelow hb5) (by simp)
  have hA5 := hA4.touch (Touch.ofBelow hb5) (by simp)
  have a5 : w5.cell? ⟨w.heap.size, 5, none⟩ = some (.int .i64 mt) := hA5.cell 5
  have a6 : w5.cell? ⟨w.heap.size, 6, none⟩ = some (.int .i64 mr) := hA5.cell 6
  have a7 : w5.cell? ⟨w.heap.size, 7, none⟩ = some (.int .i64 mf) := hA5.cell 7
  have a8 : w5.cell? ⟨w.heap.size, 8, none⟩ = some (.int .i64 mp) := hA5.cell 8
  have a9 : w5.cell? ⟨w.heap.size, 9, none⟩ = some (.int .i64 ml) := hA5.cell 9
  go_wp2_with fail
  refine (LC _).out.mono ?_
  rintro _ w6 ⟨rfl, hb6⟩
  have B6 := B5.trans (hb6.mono B5.size)
  have hO6 := hO5.touch (Touch.ofBelow hb6) (by simp)
  clear a5 a6 a7 a8 a9 hA5 hA4 hO5 hO4 hA3
  go_wp2_with fail
  refine (DC _).out.mono ?_
  rintro _ w7 ⟨rfl, hb7⟩
  have B7 := B6.trans (hb7.mono B6.size)
  have hO7 := hO6.touch (Touch.ofBelow hb7) (by simp)
  go_wp2_with fail
  refine (MC _).out.mono ?_
  rintro _ w8 ⟨rfl, hb8⟩
  have B8 := B7.trans (hb8.mono B7.size)
  have hO8 := hO7.touch (Touch.ofBelow hb8) (by simp)
  have o0 : w8.cell? ⟨w3.heap.size, 0, none⟩ = some (.int .i64 0) := hO8.cell 0
  have o1 : w8.cell? ⟨w3.heap.size, 1, none⟩ = some (.int .i64 0) := hO8.cell 1
  have o2 : w8.cell? ⟨w3.heap.size, 2, none⟩ = some (.int .i64 0) := hO8.cell 2
  have o3 : w8.cell? ⟨w3.heap.size, 3, none⟩ = some (.int .i64 0) := hO8.cell 3
  have o4 : w8.cell? ⟨w3.heap.size, 4, none⟩ = some (.int .i64 0) := hO8.cell 4
  go_wp2_with fail
  refine (GC _).out.mono ?_
  rintro _ w9 ⟨⟨GA, gcap, rfl⟩, hb9⟩
  have B9 := Lib.hid (B8.trans (hb9.mono B8.size))
  go_wp2
  go_ret
  exact ⟨rfl, B9.out⟩
end Go.Proofs.Ytjgmlpfallakmaa
end
