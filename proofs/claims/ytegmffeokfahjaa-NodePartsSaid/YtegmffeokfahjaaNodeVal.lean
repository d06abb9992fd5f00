/-
  Plain definitions and laws of no statement: cells as values (chapter 6), which may be, their bytes, and what any bytes are read as. No conditions but those typed.
-/
import Derived.Test.YtegmffeokfahjaaNodeSpec
import Derived.Test.YtegmffeokfahjaaPageSpec
import Derived.Test.YtegmffeokfahjaaLess
namespace Go.Proofs.Ytegmffeokfahjaa
/-- a cell, as it comes -/
structure CV where
  key : ByteArray
  val : ByteArray
  over : Int
  size : Int
  child : Int
namespace CV
def v (c : CV) : Value := .agg #[.string c.key, .string c.val, .int .i64 c.over, .int .i64 c.size, .int .i64 c.child]
def cl (c : CV) : Node.CL := ⟨c.key.data.toList, c.child.toNat, c.val.data.toList, c.over.toNat, c.size.toNat⟩
def of (q : Node.CL) : CV := ⟨ba q.key, ba q.val, q.over, q.size, q.child⟩
def none : CV := ⟨ba [], ba [], 0, 0, 0⟩
/-- may one be? -/
def ok (leaf : Bool) (c : CV) : Bool :=
  decide (c.key.size ≤ 120) && (if leaf then decide (c.key.size ≠ 0) && decide (c.child = 0) && ((decide (c.over = 0) && decide (c.size = 0) && decide (c.val.size ≤ 96)) || (decide (c.val.size = 0) && decide (1 ≤ c.over) && decide (c.over ≤ 511) && decide (97 ≤ c.size) && decide (c.size ≤ 4000)))
    else decide (1 ≤ c.child) && decide (c.child ≤ 511) && decide (c.val.size = 0) && decide (c.over = 0) && decide (c.size = 0))
theorem of_cl {leaf : Bool} {c : CV} (h : c.ok leaf = true) : of c.cl = c := by
  obtain ⟨key, val, over, size, child⟩ := c
  have e : 0 ≤ over ∧ 0 ≤ size ∧ 0 ≤ child := by
    unfold ok at h
    cases leaf <;> simp at h <;> omega
  unfold of cl
  simp only [ba_data]
  congr 1 <;> omega
theorem size_zero {s : ByteArray} : s.size = 0 ↔ s.data.toList = [] := by
  rw [← List.length_eq_zero_iff, Array.length_toList]
  rfl
theorem cl_ok {leaf : Bool} {c : CV} (h : c.ok leaf = true) : Node.CellOk leaf c.cl := by
  obtain ⟨key, val, over, size, child⟩ := c
  have ek : key.data.toList.length = key.size := by rw [Array.length_toList]; rfl
  have ev : val.data.toList.length = val.size := by rw [Array.length_toList]; rfl
  unfold ok at h
  unfold Node.CellOk cl
  simp only at h ⊢
  rw [ek]
  cases leaf with
  | false =>
    simp only [Bool.false_eq_true, if_false, Bool.and_eq_true, decide_eq_true_eq] at h ⊢
    obtain ⟨h1, ⟨⟨⟨h2, h3⟩, h4⟩, h5⟩, h6⟩ := h
    exact ⟨h1, by omega, by omega, size_zero.1 h4, by omega, by omega⟩
  | true =>
    simp only [if_true, Bool.and_eq_true, Bool.or_eq_true, decide_eq_true_eq] at h ⊢
    obtain ⟨h1, ⟨h2, h3⟩, h4⟩ := h
    refine ⟨h1, fun e => h2 (size_zero.2 e), by omega, ?_⟩
    rw [ev]
    rcases h4 with ⟨⟨a, b⟩, c⟩ | ⟨⟨⟨⟨a, b⟩, c⟩, d⟩, e⟩
    · exact .inl ⟨by omega, by omega, c⟩
    · exact .inr ⟨size_zero.1 a, by omega, by omega, by omega, by omega⟩
end CV
namespace Node
/-- keys rise -/
def rises : List CV → Bool
  | a :: b :: l => decide (cmpL a.key.data.toList b.key.data.toList < 0) && rises (b :: l)
  | _ => true
def firstOk (leaf : Bool) (l : List CV) : Bool := leaf || (match l with
  | c :: _ => decide (c.key.size = 0)
  | [] => false)
def right (leaf : Bool) (l : List CV) : Bool := l.all (CV.ok leaf) && rises l && firstOk leaf l
def countV (leaf : Bool) (l : List CV) : Nat := count leaf (l.map CV.cl)
def fits (leaf : Bool) (l : List CV) : Bool := right leaf l && decide (countV leaf l ≤ 488)
def encS (leaf : Bool) (l : List CV) : ByteArray := if fits leaf l then ba (bytes leaf (l.map CV.cl)) else ba []
def encE (leaf : Bool) (l : List CV) : Int := if right leaf l then (if countV leaf l ≤ 488 then 0 else 5) else 4
def bytesN (leaf : Bool) (l : List CV) : Int := if right leaf l then countV leaf l else 0
/-- what any bytes are read as -/
def dec (leaf : Bool) (s : ByteArray) : Option (List CV) :=
  if s.size ≤ 488 then (match readGo leaf s.data.toList (num s.data.toList 0 2) (2 + 2 * num s.data.toList 0 2) [] with
    | none => none
    | some l => if fits leaf (l.map CV.of) ∧ encS leaf (l.map CV.of) = s then some (l.map CV.of) else none) else none
theorem count_ge (leaf : Bool) (l : List CL) : 2 + 4 * l.length ≤ count leaf l := by
  unfold count
  rw [sum_two]
  have : 2 * l.length ≤ (l.map (long leaf)).sum := by
    induction l with
    | nil => simp
    | cons c l ih =>
      simp only [List.map_cons, List.sum_cons, List.length_cons]
      have : 2 ≤ long leaf c := by unfold long; omega
      omega
  omega
theorem right_all {leaf : Bool} {l : List CV} (h : right leaf l = true) : ∀ c ∈ l, c.ok leaf = true := by
  unfold right at h
  simp only [Bool.and_eq_true, List.all_eq_true] at h
  exact h.1.1
theorem dec_enc (leaf : Bool) (l : List CV) (h : fits leaf l = true) : dec leaf (encS leaf l) = some l := by
  have hf := h
  unfold fits at h
  simp only [Bool.and_eq_true, decide_eq_true_eq] at h
  obtain ⟨hr, hc⟩ := h
  have ha := right_all hr
  have hlen : l.length < 65536 := by
    have := count_ge leaf (l.map CV.cl)
    rw [List.length_map] at this
    unfold countV at hc
    omega
  obtain ⟨r1, r2⟩ := read_bytes leaf (l.map CV.cl) (fun c hc => by
    rw [List.mem_map] at hc
    obtain ⟨x, hx, rfl⟩ := hc
    exact CV.cl_ok (ha x hx)) (by rw [List.length_map]; exact hlen)
  rw [List.length_map] at r1 r2
  have e : encS leaf l = ba (bytes leaf (l.map CV.cl)) := by unfold encS; rw [if_pos hf]
  have back : (l.map CV.cl).map CV.of = l := by
    rw [List.map_map]
    conv => rhs; rw [← List.map_id l]
    exact List.map_congr_left (fun c hc => CV.of_cl (ha c hc))
  have hs : (encS leaf l).size ≤ 488 := by
    rw [e, ba_size, bytes_length]
    exact hc
  unfold dec
  rw [if_pos hs, e, data_ba, r1, r2]
  simp only
  rw [back, if_pos ⟨hf, e⟩]
end Node
end Go.Proofs.Ytegmffeokfahjaa
