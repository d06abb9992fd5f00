/-
  What the statements of chapter 6 lean on, of any functions of the program: what each call answers (a structure of contracts); the chapter's example and the bound on lists, over any that meet it. Conditions: lists and texts of at most 600; bytes of at most 2000.
-/
import Derived.Test.YtegmffeokfahjaaRNodeF
import Derived.Test.YtegmffeokfahjaaRNodeJ
namespace Go.Proofs.Ytegmffeokfahjaa
open Go.RowKit
structure NodeKit (fright fbytes fencode fdecode fseek fhalve : FuncId) : Prop where
  right : ∀ (w : World) (leaf : Bool) (v : Value) (l : List CV), CellsAt w v l → Bnd l → Calls Try.prog fright #[.bool leaf, v] w fun e w' => e = .returned (.bool (Node.right leaf l)) ∧ Below w.heap.size w w'
  bytes : ∀ (w : World) (leaf : Bool) (v : Value) (l : List CV), CellsAt w v l → Bnd l → Calls Try.prog fbytes #[.bool leaf, v] w fun e w' => e = .returned (.int .i64 (Node.bytesN leaf l)) ∧ Below w.heap.size w w'
  encode : ∀ (w : World) (leaf : Bool) (v : Value) (l : List CV), CellsAt w v l → Bnd l → Calls Try.prog fencode #[.bool leaf, v] w fun e w' => e = .returned (.tuple #[.string (Node.encS leaf l), .int .i64 (Node.encE leaf l)]) ∧ Below w.heap.size w w'
  decode : ∀ (w : World) (leaf : Bool) (s : ByteArray), s.size ≤ 2000 → Calls Try.prog fdecode #[.bool leaf, .string s] w fun e w' => ∃ V, e = .returned (.tuple #[V, .int .i64 (if (Node.dec leaf s).isSome then 0 else 4)]) ∧ CellsAt w' V ((Node.dec leaf s).getD []) ∧ Below w.heap.size w w'
  seek : ∀ (w : World) (leaf : Bool) (s key : ByteArray), s.size ≤ 2000 → key.size ≤ 2000 → Calls Try.prog fseek #[.bool leaf, .string s, .string key] w fun e w' => e = .returned (.tuple #[.int .i64 (Node.seekV leaf s key).1, (Node.seekV leaf s key).2.1.v, .bool (Node.seekV leaf s key).2.2]) ∧ Below w.heap.size w w'
  halve : ∀ (w : World) (leaf : Bool) (v : Value) (l : List CV), CellsAt w v l → Bnd l → Calls Try.prog fhalve #[.bool leaf, v] w fun e w' => e = .returned (.int .i64 (Node.halveV leaf l : Nat)) ∧ Below w.heap.size w w'
abbrev LandNode : Prop := NodeKit 13 15 11 17 20 23
/-- the reference -/
theorem refNode : NodeKit 14 16 12 19 21 24 where
  right := rnright_ok
  bytes := rbytes_ok
  encode := renc_ok
  decode := fun w leaf s _ => (rdec_ok w leaf s).mono fun _ _ ⟨V, he, hc, _, hb⟩ => ⟨V, he, hc, hb⟩
  seek := fun w leaf s key _ _ => rseek_ok w leaf s key
  halve := rhalve_ok
theorem one_cell (w : World) (c : CV) : CellsAt (w.alloc (.cells #[.string c.key, .string c.val, .int .i64 c.over, .int .i64 c.size, .int .i64 c.child] 35)) (.slice (some ⟨w.heap.size, 0, none⟩) 1 1) [c] := by
  refine ⟨some ⟨w.heap.size, 0, none⟩, 1, rfl, by simp, by omega, fun k hk => ⟨w.heap.size, 0, rfl, by simp, fun i hi => ?_⟩⟩
  have h0 : k = 0 := by simpa using hk
  subst h0
  have := Blk.new w #[.string c.key, .string c.val, .int .i64 c.over, .int .i64 c.size, .int .i64 c.child] 35
  rw [show 0 + 0 * 5 + i = i by omega, this.cell i]
  simp [CV.cells]
def exA : CV := ⟨⟨#[97]⟩, ⟨#[49]⟩, 0, 0, 0⟩
theorem ex_enc : Node.encS true [exA] = ⟨#[0, 1, 0, 4, 0, 1, 97, 0, 0, 1, 49]⟩ ∧ Node.encE true [exA] = 0 := by
  constructor <;> decide +kernel
set_option maxRecDepth 100000 in
set_option maxHeartbeats 1600000 in
theorem nawake_ok (K : LandNode) (w : World) : Calls Try.prog 9 #[] w fun e w' => e = .returned (.bool true) ∧ Below w.heap.size w w' := by
  have hb : Bnd [exA] := ⟨by simp, fun c hc => by simp only [List.mem_singleton] at hc; subst hc; exact ⟨by decide, by decide⟩⟩
  have EC := Lib.hid (K.encode _ true _ [exA] (one_cell w exA) hb)
  rw [ex_enc.1, ex_enc.2] at EC
  unfold exA at EC
  simp only at EC
  have e1 : ((⟨#[0, 1, 0, 4, 0, 1, 97, 0, 0, 1, 49]⟩ : ByteArray).toList == (⟨#[0, 1, 0, 4, 0, 1, 97, 0, 0, 1, 49]⟩ : ByteArray).toList) = true := beq_str_true rfl
  have hz := zeroC
  go_enter Try.func9, Try.ntmps9
  go_wp2_with fail
  refine EC.out.mono ?_
  rintro _ w2 ⟨rfl, hb2⟩
  go_wp2
  go_ret
  exact ⟨rfl, ((Below.refl _ w).alloc (Nat.le_refl _) _).trans (hb2.mono (by simp))⟩
/-- more than is gone through? -/
def longB (l : List CV) : Bool := (l.take 200).any (fun c => decide (300 < c.key.size) || decide (300 < c.val.size)) || decide (200 < l.length)
theorem longB_not {l : List CV} (h : longB l = false) : l.length ≤ 200 ∧ ∀ c ∈ l, c.key.size ≤ 300 ∧ c.val.size ≤ 300 := by
  unfold longB at h
  rw [Bool.or_eq_false_iff, decide_eq_false_iff_not, List.any_eq_false] at h
  obtain ⟨h1, h2⟩ := h
  rw [List.take_of_length_le (by omega)] at h1
  refine ⟨by omega, fun c hc => ?_⟩
  have := h1 c hc
  simp only [Bool.or_eq_true, decide_eq_true_eq] at this
  omega
theorem longB_bnd {l : List CV} (h : longB l = false) : Bnd l := by
  obtain ⟨h1, h2⟩ := longB_not h
  exact ⟨by omega, fun c hc => by have := h2 c hc; omega⟩
theorem longB_at (l : List CV) (k : Nat) (h : k < l.length) (hk : k < 200) (hc : 300 < l[k].key.size ∨ 300 < l[k].val.size) : longB l = true := by
  unfold longB
  rw [Bool.or_eq_true, List.any_eq_true]
  refine .inl ⟨l[k], ?_, by simp only [Bool.or_eq_true, decide_eq_true_eq]; exact hc⟩
  rw [List.mem_take_iff_getElem]
  exact ⟨k, by omega, rfl⟩
theorem longB_all (l : List CV) (hk : ∀ k (h : k < l.length), k < 200 → l[k].key.size ≤ 300 ∧ l[k].val.size ≤ 300) : longB l = decide (200 < l.length) := by
  unfold longB
  have : (l.take 200).any (fun c => decide (300 < c.key.size) || decide (300 < c.val.size)) = false := by
    rw [List.any_eq_false]
    intro c hc
    rw [List.mem_take_iff_getElem] at hc
    obtain ⟨k, h, rfl⟩ := hc
    have := hk k (by omega) (by omega)
    simp only [Bool.or_eq_true, decide_eq_true_eq]
    omega
  rw [this, Bool.false_or]
set_option maxRecDepth 100000 in
set_option maxHeartbeats 1600000 in
theorem nlong_ok (w : World) (v : Value) (l : List CV) (hc : CellsAt w v l) : Calls Try.prog 10 #[v] w fun e w' => e = .returned (.bool (longB l)) ∧ Below w.heap.size w w' := by
  have HC := Lib.hid hc
  obtain ⟨A, cap, rfl, h1, h2⟩ := hc.form
  obtain ⟨R, hR⟩ : ∃ R, longB l = R := ⟨_, rfl⟩
  have HR := Lib.hid hR
  rw [hR]
  clear hc hR
  go_enter Try.func10, Try.ntmps10
  go_wp2
  go_loopw [3] (fun ii wr => ∃ k : Nat, k ≤ l.length ∧ k ≤ 200 ∧ ii = .int .i64 k ∧ Hid (∀ j (h : j < l.length), j < k → l[j].key.size ≤ 300 ∧ l[j].val.size ≤ 300) ∧ Below w.heap.size w wr) (fun ii _ => 200 - (intOf ii).toNat)
  case atStart => exact ⟨0, by omega, by omega, rfl, Lib.hid (fun j h hj => by omega), Below.refl _ _⟩
  case round =>
    obtain ⟨k, hk, hk2, rfl, HA, hBr⟩ := hrel
    by_cases hkl : k < l.length
    · have t1 : decide (k < l.length) = true := decide_eq_true hkl
      by_cases hk3 : k < 200
      · have t2 : decide ((k : Int) < 200) = true := decide_eq_true (by omega)
        obtain ⟨b, off, hA, hlt, c0, c1, _⟩ := (HC.out.below hBr).get k hkl
        have i0 : (0 : Int) ≤ (k : Int) := by omega
        have i1 : (k : Int) < (l.length : Int) := by omega
        have LT := Lib.hid (longB_at l k hkl hk3)
        have HN := Lib.hid (show l[k].key.size ≤ 300 ∧ l[k].val.size ≤ 300 → ∀ j (h : j < l.length), j < k + 1 → l[j].key.size ≤ 300 ∧ l[j].val.size ≤ 300 from fun hh j h hj => by
          by_cases e : j = k
          · subst e; exact hh
          · exact HA.out j h (by omega))
        obtain ⟨key, hx⟩ : ∃ x, l[k].key = x := ⟨_, rfl⟩
        obtain ⟨val, hy⟩ : ∃ x, l[k].val = x := ⟨_, rfl⟩
        rw [hx] at c0 LT HN
        rw [hy] at c1 LT HN
        have HBr := Lib.hid hBr
        subst hA
        clear hx hy hBr
        by_cases p1 : 300 < key.size
        · have d1 : decide ((300 : Int) < (key.size : Int)) = true := decide_eq_true (by omega)
          have HRR : Hid (R = true) := Lib.hid (by rw [← HR.out]; exact LT.out (.inl p1))
          clear p1
          go_wp2
          go_ret
          exact ⟨by rw [HRR.out]; rfl, HBr.out⟩
        · have d1 : decide ((300 : Int) < (key.size : Int)) = false := decide_eq_false (by omega)
          by_cases p2 : 300 < val.size
          · have d2 : decide ((300 : Int) < (val.size : Int)) = true := decide_eq_true (by omega)
            have HRR : Hid (R = true) := Lib.hid (by rw [← HR.out]; exact LT.out (.inr p2))
            clear p1 p2
            go_wp2
            go_ret
            exact ⟨by rw [HRR.out]; rfl, HBr.out⟩
          · have d2 : decide ((300 : Int) < (val.size : Int)) = false := decide_eq_false (by omega)
            have HNN := Lib.hid (HN.out ⟨by omega, by omega⟩)
            clear p1 p2
            go_wp2
            go_roundw
            case rel => exact ⟨k + 1, by omega, by omega, by go_num, HNN, HBr.out⟩
            case measure => simp [intOf]; omega
      · have t2 : decide ((k : Int) < 200) = false := decide_eq_false (by omega)
        have HRR : Hid (R = decide ((200 : Int) < (l.length : Int))) := Lib.hid (by
          rw [← HR.out, longB_all l (fun j h hj => HA.out j h (by omega))]
          exact decide_eq_decide.2 (by omega))
        have HBr := Lib.hid hBr
        clear hBr
        go_wp2
        go_ret
        exact ⟨by rw [HRR.out]; rfl, HBr.out⟩
    · have t1 : decide (k < l.length) = false := decide_eq_false hkl
      have HRR : Hid (R = decide ((200 : Int) < (l.length : Int))) := Lib.hid (by
        rw [← HR.out, longB_all l (fun j h hj => HA.out j h (by omega))]
        exact decide_eq_decide.2 (by omega))
      have HBr := Lib.hid hBr
      clear hBr
      go_wp2
      go_ret
      exact ⟨by rw [HRR.out]; rfl, HBr.out⟩
end Go.Proofs.Ytegmffeokfahjaa
