/-
  Plain definitions of no statement: pages and metas as values (chapter 4), which may be, their bytes, and what any bytes are read as. No conditions.
-/
import Derived.Test.YtjgndgcegenikaaMetaPlain
namespace Go.Proofs.Ytjgndgcegenikaa
def ba (l : List UInt8) : ByteArray := ⟨l.toArray⟩
theorem ba_append (l k : List UInt8) : ba l ++ ba k = ba (l ++ k) := by
  unfold ba
  rw [← ByteArray.mk_append_mk]
theorem ba_data (s : ByteArray) : ba s.data.toList = s := by unfold ba; simp
theorem data_ba (l : List UInt8) : (ba l).data.toList = l := by unfold ba; simp
theorem ba_size (l : List UInt8) : (ba l).size = l.length := by
  unfold ba
  rw [ByteArray.size_mk', List.size_toArray]
theorem ba_inj {l k : List UInt8} (h : ba l = ba k) : l = k := by rw [← data_ba l, ← data_ba k, h]

open Go.RowKit
structure PV where
  kind : Int
  no : Int
  txn : Int
  body : ByteArray
def PV.val (p : PV) : Value := .agg #[.int .i64 p.kind, .int .i64 p.no, .int .i64 p.txn, .string p.body]
def PV.right (p : PV) : Bool := decide (1 ≤ p.kind) && decide (p.kind ≤ 4) && decide (1 ≤ p.no) && decide (p.no ≤ 511) && decide (0 ≤ p.txn) && decide (p.txn ≤ 1099511627776) && decide (p.body.size ≤ 488)
def PV.pg (p : PV) : Page.PG := ⟨p.kind.toNat, p.no.toNat, p.txn.toNat, p.body.data.toList⟩
def ofPG (q : Page.PG) : PV := ⟨q.kind, q.no, q.txn, ba q.body⟩
def PV.none : PV := ⟨0, 0, 0, ba []⟩
def PV.packS (p : PV) : ByteArray := if p.right then ba (Page.packed p.pg) else ba []
def PV.packE (p : PV) : Int := if p.right then 0 else 4
def unpackP (s : ByteArray) : PV := match Page.read s.data.toList with
  | some q => ofPG q
  | Option.none => PV.none
def unpackE (s : ByteArray) : Int := if (Page.read s.data.toList).isSome then 0 else 4
theorem PV.right_iff (p : PV) : p.right = true ↔ 1 ≤ p.kind ∧ p.kind ≤ 4 ∧ 1 ≤ p.no ∧ p.no ≤ 511 ∧ 0 ≤ p.txn ∧ p.txn ≤ 1099511627776 ∧ p.body.size ≤ 488 := by
  unfold PV.right
  simp only [Bool.and_eq_true, decide_eq_true_eq]
  omega
theorem PV.right_pg (p : PV) (h : p.right = true) : Page.right p.pg = true ∧ ofPG p.pg = p := by
  rw [PV.right_iff] at h
  obtain ⟨kind, no, txn, body⟩ := p
  simp only at h
  refine ⟨?_, ?_⟩
  · unfold Page.right PV.pg
    have e : body.data.toList.length = body.size := by rw [Array.length_toList]; rfl
    simp only [e, Bool.and_eq_true, decide_eq_true_eq]
    omega
  · unfold ofPG PV.pg
    simp only [ba_data, PV.mk.injEq, and_true]
    omega
theorem right_ofPG (q : Page.PG) : (ofPG q).right = Page.right q := by
  unfold ofPG PV.right Page.right
  rw [ba_size, Bool.eq_iff_iff]
  simp only [Bool.and_eq_true, decide_eq_true_eq]
  omega
theorem pg_ofPG (q : Page.PG) : (ofPG q).pg = q := by
  unfold ofPG PV.pg
  simp only [data_ba, Int.toNat_natCast]
theorem PV.packS_size (p : PV) : p.packS.size ≤ 512 := by
  unfold PV.packS
  split
  · rename_i h
    rw [ba_size, Page.packed_length]
    · exact Nat.le_refl _
    · rw [PV.right_iff] at h
      unfold PV.pg
      simp only [Array.length_toList]
      exact h.2.2.2.2.2.2
  · rw [ba_size]; exact Nat.zero_le _
/-- a meta, as it comes -/
structure MV where
  txn : Int
  root : Int
  free : Int
  pages : Int
  limit : Int
def MV.val (m : MV) : Value := .agg #[.int .i64 m.txn, .int .i64 m.root, .int .i64 m.free, .int .i64 m.pages, .int .i64 m.limit]
def MV.right (m : MV) : Bool := decide (0 ≤ m.txn) && decide (m.txn ≤ 1099511627776) && decide (2 ≤ m.limit) && decide (m.limit ≤ 512) && decide (1 ≤ m.pages) && decide (m.pages ≤ m.limit) && decide (0 ≤ m.root) && decide (m.root < m.pages) && decide (0 ≤ m.free) && decide (m.free < m.pages)
def MV.me (m : MV) : Page.ME := ⟨m.txn.toNat, m.root.toNat, m.free.toNat, m.pages.toNat, m.limit.toNat⟩
def ofME (q : Page.ME) : MV := ⟨q.txn, q.root, q.free, q.pages, q.limit⟩
def MV.none : MV := ⟨0, 0, 0, 0, 0⟩
def MV.packS (m : MV) : ByteArray := if m.right then ba (Page.packedM m.me) else ba []
def MV.packE (m : MV) : Int := if m.right then 0 else 4
def unpackM (s : ByteArray) : MV := match Page.readM s.data.toList with
  | some q => ofME q
  | Option.none => MV.none
def unpackME (s : ByteArray) : Int := if (Page.readM s.data.toList).isSome then 0 else 4
theorem MV.right_iff (m : MV) : m.right = true ↔ 0 ≤ m.txn ∧ m.txn ≤ 1099511627776 ∧ 2 ≤ m.limit ∧ m.limit ≤ 512 ∧ 1 ≤ m.pages ∧ m.pages ≤ m.limit ∧ 0 ≤ m.root ∧ m.root < m.pages ∧ 0 ≤ m.free ∧ m.free < m.pages := by
  unfold MV.right
  simp only [Bool.and_eq_true, decide_eq_true_eq]
  omega
theorem MV.right_me (m : MV) (h : m.right = true) : Page.rightM m.me = true ∧ ofME m.me = m := by
  rw [MV.right_iff] at h
  obtain ⟨txn, root, free, pages, limit⟩ := m
  simp only at h
  refine ⟨?_, ?_⟩
  · unfold Page.rightM MV.me
    simp only [Bool.and_eq_true, decide_eq_true_eq]
    omega
  · unfold ofME MV.me
    simp only [MV.mk.injEq]
    omega
theorem right_ofME (q : Page.ME) : (ofME q).right = Page.rightM q := by
  unfold ofME MV.right Page.rightM
  rw [Bool.eq_iff_iff]
  simp only [Bool.and_eq_true, decide_eq_true_eq]
  omega
theorem me_ofME (q : Page.ME) : (ofME q).me = q := by
  unfold ofME MV.me
  simp only [Int.toNat_natCast]
theorem MV.packS_size (m : MV) : m.packS.size ≤ 128 := by
  unfold MV.packS
  split
  · rw [ba_size, Page.packedM_length]; exact Nat.le_refl _
  · rw [ba_size]; exact Nat.zero_le _
def newestM (a b : ByteArray) : MV := match Page.newest a.data.toList b.data.toList with
  | some (q, _) => ofME q
  | Option.none => MV.none
def newestI (a b : ByteArray) : Int := match Page.newest a.data.toList b.data.toList with
  | some (_, k) => k
  | Option.none => 0
def newestE (a b : ByteArray) : Int := if (Page.newest a.data.toList b.data.toList).isSome then 0 else 4
/-- the seven functions of chapter 4: what each answers -/
structure PageKit (fright fpack funpack frightM fpackM funpackM fnewest : FuncId) : Prop where
  right : ∀ (w : World) (p : PV), Calls Try.prog fright #[p.val] w fun e w' => e = .returned (.bool p.right) ∧ Below w.heap.size w w'
  pack : ∀ (w : World) (p : PV), p.body.size ≤ 2000 → Calls Try.prog fpack #[p.val] w fun e w' => e = .returned (.tuple #[.string p.packS, .int .i64 p.packE]) ∧ Below w.heap.size w w'
  unpack : ∀ (w : World) (s : ByteArray), s.size ≤ 2000 → Calls Try.prog funpack #[.string s] w fun e w' => e = .returned (.tuple #[(unpackP s).val, .int .i64 (unpackE s)]) ∧ Below w.heap.size w w'
  rightM : ∀ (w : World) (m : MV), Calls Try.prog frightM #[m.val] w fun e w' => e = .returned (.bool m.right) ∧ Below w.heap.size w w'
  packM : ∀ (w : World) (m : MV), Calls Try.prog fpackM #[m.val] w fun e w' => e = .returned (.tuple #[.string m.packS, .int .i64 m.packE]) ∧ Below w.heap.size w w'
  unpackM : ∀ (w : World) (s : ByteArray), s.size ≤ 2000 → Calls Try.prog funpackM #[.string s] w fun e w' => e = .returned (.tuple #[(unpackM s).val, .int .i64 (unpackME s)]) ∧ Below w.heap.size w w'
  newest : ∀ (w : World) (a b : ByteArray), a.size ≤ 2000 → b.size ≤ 2000 → Calls Try.prog fnewest #[.string a, .string b] w fun e w' => e = .returned (.tuple #[(newestM a b).val, .int .i64 (newestI a b), .int .i64 (newestE a b)]) ∧ Below w.heap.size w w'
end Go.Proofs.Ytjgndgcegenikaa
