/-
  Contracts of the landed functions of chapter 6 (rightPage, rightValue, rightCell, cellSize, cellsSize, cellsFrom): what each call answers. Conditions: lists and texts of at most 600, where they are counted.
-/
import Derived.Test.YtegmffeokfahjaaRNodeC
namespace Go.Proofs.Ytegmffeokfahjaa
open Go.RowKit
set_option maxRecDepth 100000 in
set_option maxHeartbeats 1600000 in
theorem lpage_ok (w : World) (n : Int) : Calls Try.prog 47 #[.int .i64 n] w fun e w' => e = .returned (.bool (decide (1 ≤ n) && decide (n ≤ 511))) ∧ w = w' := by
  obtain ⟨p, hp⟩ : ∃ p, decide ((1 : Int) ≤ n) = p := ⟨_, rfl⟩
  obtain ⟨q, hq⟩ : ∃ q, decide (n < (512 : Int)) = q := ⟨_, rfl⟩
  have HR : Hid ((decide (1 ≤ n) && decide (n ≤ 511)) = (p && q)) := Lib.hid (by
    rw [← hp, ← hq]
    congr 1
    exact decide_eq_decide.2 (by omega))
  cases p
  case false =>
    go_enter Try.func47, Try.ntmps47
    go_wp2
    go_ret
    exact ⟨by rw [HR.out]; rfl, rfl⟩
  case true =>
    cases q
    case false =>
      go_enter Try.func47, Try.ntmps47
      go_wp2
      go_ret
      exact ⟨by rw [HR.out]; rfl, rfl⟩
    case true =>
      go_enter Try.func47, Try.ntmps47
      go_wp2
      go_ret
      exact ⟨by rw [HR.out]; rfl, rfl⟩
/-- may a leaf's cell have these? -/
def CV.okV (over size : Int) (n : Nat) : Bool := if over = 0 then decide (size = 0) && decide (n ≤ 96) else decide (n = 0) && (decide (1 ≤ over) && decide (over ≤ 511)) && decide (96 < size) && decide (size ≤ 4000)
theorem CV.ok_true (c : CV) : c.ok true = (decide (c.key.size ≤ 120) && (decide (c.key.size ≠ 0) && decide (c.child = 0) && CV.okV c.over c.size c.val.size)) := by
  obtain ⟨key, val, over, size, child⟩ := c
  rw [Bool.eq_iff_iff, CV.ok_leaf]
  unfold CV.okV
  simp only
  split
  · rename_i h
    simp only [Bool.and_eq_true, decide_eq_true_eq]
    omega
  · rename_i h
    simp only [Bool.and_eq_true, decide_eq_true_eq]
    omega
set_option maxRecDepth 100000 in
set_option maxHeartbeats 1600000 in
theorem lvalue_ok (w : World) (c : CV) : Calls Try.prog 46 #[c.v] w fun e w' => e = .returned (.bool (CV.okV c.over c.size c.val.size)) ∧ Below w.heap.size w w' := by
  obtain ⟨key, val, over, size, child⟩ := c
  unfold CV.v
  simp only
  have hbl : Below w.heap.size w (w.alloc (.cells #[.string key, .string val, .int .i64 over, .int .i64 size, .int .i64 child] 35)) := (Below.refl _ w).alloc (Nat.le_refl _) _
  by_cases h0 : over = 0
  · have d0 : (over == 0) = true := by rw [beq_iff_eq]; exact h0
    obtain ⟨p, hp⟩ : ∃ p, (size == 0) = p := ⟨_, rfl⟩
    obtain ⟨q, hq⟩ : ∃ q, decide ((val.size : Int) ≤ 96) = q := ⟨_, rfl⟩
    have HR : Hid (CV.okV over size val.size = (p && q)) := Lib.hid (by
      unfold CV.okV
      rw [if_pos h0, ← hp, ← hq]
      congr 1
      exact decide_eq_decide.2 (by omega))
    clear h0
    cases p
    case false =>
      go_enter Try.func46, Try.ntmps46
      go_wp2
      go_ret
      exact ⟨by rw [HR.out]; rfl, hbl⟩
    case true =>
      cases q
      case false =>
        go_enter Try.func46, Try.ntmps46
        go_wp2
        go_ret
        exact ⟨by rw [HR.out]; rfl, hbl⟩
      case true =>
        go_enter Try.func46, Try.ntmps46
        go_wp2
        go_ret
        exact ⟨by rw [HR.out]; rfl, hbl⟩
  · have d0 : (over == 0) = false := by rw [beq_eq_false_iff_ne]; exact h0
    obtain ⟨p, hp⟩ : ∃ p, decide (val.size = 0) = p := ⟨_, rfl⟩
    obtain ⟨p1, p2, p3, p4⟩ := empty_iff val p hp
    obtain ⟨q, hq⟩ : ∃ q, (decide (1 ≤ over) && decide (over ≤ 511)) = q := ⟨_, rfl⟩
    obtain ⟨r, hr⟩ : ∃ r, decide ((96 : Int) < size) = r := ⟨_, rfl⟩
    obtain ⟨t, ht⟩ : ∃ t, decide (size ≤ (4000 : Int)) = t := ⟨_, rfl⟩
    have PC := fun w => lpage_ok w over
    simp only [hq] at PC
    have PC := fun w => Lib.hid (PC w)
    have HR : Hid (CV.okV over size val.size = (p && q && r && t)) := Lib.hid (by
      unfold CV.okV
      rw [if_neg h0, hp, hq, hr, ht])
    clear h0 hp hq
    cases p
    case false =>
      go_enter Try.func46, Try.ntmps46
      go_wp2
      go_ret
      exact ⟨by rw [HR.out]; rfl, hbl⟩
    case true =>
      cases q
      case false =>
        go_enter Try.func46, Try.ntmps46
        go_wp2_with (go_at_call 47; refine (PC _).out.mono ?_; rintro _ _ ⟨rfl, rfl⟩)
        go_ret
        exact ⟨by rw [HR.out]; rfl, hbl⟩
      case true =>
        cases r
        case false =>
          go_enter Try.func46, Try.ntmps46
          go_wp2_with (go_at_call 47; refine (PC _).out.mono ?_; rintro _ _ ⟨rfl, rfl⟩)
          go_ret
          exact ⟨by rw [HR.out]; rfl, hbl⟩
        case true =>
          cases t
          case false =>
            go_enter Try.func46, Try.ntmps46
            go_wp2_with (go_at_call 47; refine (PC _).out.mono ?_; rintro _ _ ⟨rfl, rfl⟩)
            go_ret
            exact ⟨by rw [HR.out]; rfl, hbl⟩
          case true =>
            go_enter Try.func46, Try.ntmps46
            go_wp2_with (go_at_call 47; refine (PC _).out.mono ?_; rintro _ _ ⟨rfl, rfl⟩)
            go_ret
            exact ⟨by rw [HR.out]; rfl, hbl⟩
set_option maxRecDepth 100000 in
set_option maxHeartbeats 1600000 in
theorem lcell_ok (w : World) (leaf : Bool) (c : CV) : Calls Try.prog 32 #[.bool leaf, c.v] w fun e w' => e = .returned (.bool (c.ok leaf)) ∧ Below w.heap.size w w' := by
  have hok := CV.ok_true c
  have hokb : c.ok false = (decide (c.key.size ≤ 120) && (decide (c.val.size = 0) && decide (c.over = 0) && decide (c.size = 0) && (decide (1 ≤ c.child) && decide (c.child ≤ 511)))) := by
    obtain ⟨key, val, over, size, child⟩ := c
    rw [Bool.eq_iff_iff, CV.ok_branch]
    simp only [Bool.and_eq_true, decide_eq_true_eq]
    omega
  have VC := fun w => lvalue_ok w c
  obtain ⟨key, val, over, size, child⟩ := c
  unfold CV.v at VC ⊢
  simp only at hok hokb VC ⊢
  have hbl : Below w.heap.size w (w.alloc (.cells #[.string key, .string val, .int .i64 over, .int .i64 size, .int .i64 child] 35)) := (Below.refl _ w).alloc (Nat.le_refl _) _
  obtain ⟨k, hk⟩ : ∃ k, decide ((120 : Int) < (key.size : Int)) = k := ⟨_, rfl⟩
  have hk2 : decide (key.size ≤ 120) = !k := by rw [← hk, ← decide_not]; exact decide_eq_decide.2 (by omega)
  rw [hk2] at hok hokb
  cases leaf
  case true =>
    rw [hok]
    obtain ⟨z, hz⟩ : ∃ z, decide (key.size = 0) = z := ⟨_, rfl⟩
    obtain ⟨e1, e2, e3, e4⟩ := empty_iff key z hz
    obtain ⟨q, hq⟩ : ∃ q, (child == 0) = q := ⟨_, rfl⟩
    have z1 : (!(key.toList == (⟨#[]⟩ : ByteArray).toList)) = !z := by rw [e3]
    have z2 : (!(key.toList == [])) = !z := by rw [e2]
    have z3 : (!key.toList.isEmpty) = !z := by rw [e1]
    have hz2 : decide (key.size ≠ 0) = !z := by rw [← hz, ← decide_not]
    have hq2 : decide (child = 0) = q := by rw [← hq]; rfl
    obtain ⟨V, hV⟩ : ∃ V, CV.okV over size val.size = V := ⟨_, rfl⟩
    simp only [hV] at VC
    have VC := fun w => Lib.hid (VC w)
    rw [hz2, hq2, hV]
    clear hk2 hok hokb hz hz2 hq2 hV e4
    cases k
    case true =>
      go_enter Try.func32, Try.ntmps32
      go_wp2
      go_ret
      exact ⟨rfl, hbl⟩
    case false =>
      cases z
      case true =>
        go_enter Try.func32, Try.ntmps32
        go_wp2
        go_ret
        exact ⟨rfl, hbl⟩
      case false =>
        cases q
        case false =>
          go_enter Try.func32, Try.ntmps32
          go_wp2
          go_ret
          exact ⟨rfl, hbl⟩
        case true =>
          go_enter Try.func32, Try.ntmps32
          go_wp2_with fail
          refine (VC _).out.mono ?_
          rintro _ w2 ⟨rfl, hb2⟩
          go_wp2
          go_ret
          exact ⟨rfl, hbl.trans (hb2.mono (by simp))⟩
  case false =>
    rw [hokb]
    have PC := fun w => lpage_ok w child
    obtain ⟨P, hP⟩ : ∃ P, (decide (1 ≤ child) && decide (child ≤ 511)) = P := ⟨_, rfl⟩
    simp only [hP] at PC
    have PC := fun w => Lib.hid (PC w)
    rw [hP]
    obtain ⟨v, hv⟩ : ∃ v, decide (val.size = 0) = v := ⟨_, rfl⟩
    obtain ⟨e1, e2, e3, e4⟩ := empty_iff val v hv
    obtain ⟨o, ho⟩ : ∃ o, (over == 0) = o := ⟨_, rfl⟩
    obtain ⟨z, hz⟩ : ∃ z, (size == 0) = z := ⟨_, rfl⟩
    have ho2 : decide (over = 0) = o := by rw [← ho]; rfl
    have hz2 : decide (size = 0) = z := by rw [← hz]; rfl
    rw [hv, ho2, hz2]
    clear hk2 hok hokb hv ho2 hz2 hP VC e4
    cases k
    case true =>
      go_enter Try.func32, Try.ntmps32
      go_wp2
      go_ret
      exact ⟨rfl, hbl⟩
    case false =>
      cases v
      case false =>
        go_enter Try.func32, Try.ntmps32
        go_wp2
        go_ret
        exact ⟨rfl, hbl⟩
      case true =>
        cases o
        case false =>
          go_enter Try.func32, Try.ntmps32
          go_wp2
          go_ret
          exact ⟨rfl, hbl⟩
        case true =>
          cases z
          case false =>
            go_enter Try.func32, Try.ntmps32
            go_wp2
            go_ret
            exact ⟨rfl, hbl⟩
          case true =>
            go_enter Try.func32, Try.ntmps32
            go_wp2_with (go_at_call 47; refine (PC _).out.mono ?_; rintro _ _ ⟨rfl, rfl⟩)
            go_ret
            exact ⟨rfl, hbl⟩
set_option maxRecDepth 100000 in
set_option maxHeartbeats 1600000 in
theorem lsize_ok (w : World) (leaf : Bool) (c : CV) (hk : c.key.size ≤ 600) (hv : c.val.size ≤ 600) : Calls Try.prog 41 #[.bool leaf, c.v] w fun e w' => e = .returned (.int .i64 (2 + Node.long leaf c.cl : Nat)) ∧ Below w.heap.size w w' := by
  obtain ⟨key, val, over, size, child⟩ := c
  simp only at hk hv
  unfold CV.v
  simp only
  have hbl : Below w.heap.size w (w.alloc (.cells #[.string key, .string val, .int .i64 over, .int .i64 size, .int .i64 child] 35)) := (Below.refl _ w).alloc (Nat.le_refl _) _
  have ek : key.data.toList.length = key.size := by rw [Array.length_toList]; rfl
  have ev : val.data.toList.length = val.size := by rw [Array.length_toList]; rfl
  have m1 : IntKind.i64.wrap (4 + (key.size : Int)) = 4 + key.size := IntWalk.i64_in _ (by omega)
  have m2 : IntKind.i64.wrap (4 + (key.size : Int) + 4) = 4 + key.size + 4 := IntWalk.i64_in _ (by omega)
  have m3 : IntKind.i64.wrap (4 + (key.size : Int) + 1) = 4 + key.size + 1 := IntWalk.i64_in _ (by omega)
  have m4 : IntKind.i64.wrap (4 + (key.size : Int) + 1 + 4) = 4 + key.size + 1 + 4 := IntWalk.i64_in _ (by omega)
  have m5 : IntKind.i64.wrap (4 + (key.size : Int) + 1 + 4 + 4) = 4 + key.size + 1 + 4 + 4 := IntWalk.i64_in _ (by omega)
  have m6 : IntKind.i64.wrap (4 + (key.size : Int) + 1 + 2) = 4 + key.size + 1 + 2 := IntWalk.i64_in _ (by omega)
  have m7 : IntKind.i64.wrap (4 + (key.size : Int) + 1 + 2 + (val.size : Int)) = 4 + key.size + 1 + 2 + val.size := IntWalk.i64_in _ (by omega)
  cases leaf
  · have HR : Hid (((2 + Node.long false (CV.cl ⟨key, val, over, size, child⟩) : Nat) : Int) = (4 + key.size + 4 : Int)) := Lib.hid (by unfold Node.long CV.cl; simp only [ek]; simp; omega)
    clear hk hv ek ev
    go_enter Try.func41, Try.ntmps41
    go_wp2
    go_ret
    exact ⟨by rw [HR.out]; rfl, hbl⟩
  · by_cases h : 0 < over
    · have d1 : decide (0 < over) = true := decide_eq_true h
      have HR : Hid (((2 + Node.long true (CV.cl ⟨key, val, over, size, child⟩) : Nat) : Int) = (4 + key.size + 1 + 4 + 4 : Int)) := Lib.hid (by unfold Node.long CV.cl; simp only [ek, if_true]; rw [if_pos (by omega)]; omega)
      clear hk hv ek ev h
      go_enter Try.func41, Try.ntmps41
      go_wp2
      go_ret
      exact ⟨by rw [HR.out]; rfl, hbl⟩
    · have d1 : decide (0 < over) = false := decide_eq_false h
      have HR : Hid (((2 + Node.long true (CV.cl ⟨key, val, over, size, child⟩) : Nat) : Int) = (4 + key.size + 1 + 2 + val.size : Int)) := Lib.hid (by unfold Node.long CV.cl; simp only [ek, ev, if_true]; rw [if_neg (by omega)]; omega)
      clear hk hv ek ev h
      go_enter Try.func41, Try.ntmps41
      go_wp2
      go_ret
      exact ⟨by rw [HR.out]; rfl, hbl⟩
set_option maxRecDepth 100000 in
set_option maxHeartbeats 1600000 in
theorem lsizes_ok (w : World) (leaf : Bool) (v : Value) (l : List CV) (hc : CellsAt w v l) (hb : Bnd l) : Calls Try.prog 33 #[.bool leaf, v] w fun e w' => e = .returned (.int .i64 ((Node.szs leaf l).sum : Nat)) ∧ Below w.heap.size w w' := by
  have HC := Lib.hid hc
  have HB := Lib.hid hb
  have hcb := Lib.hid (countV_bnd leaf l hb)
  have hcv : ∀ k, Node.countV leaf (l.take k) = 2 + (Node.szs leaf (l.take k)).sum := fun k => Node.countV_sum leaf _
  have HL := Lib.hid hb.1
  have HCV := Lib.hid hcv
  obtain ⟨A, cap, rfl, h1, h2⟩ := hc.form
  obtain ⟨R, hR⟩ : ∃ R : Nat, (Node.szs leaf l).sum = R := ⟨_, rfl⟩
  have HR := Lib.hid hR
  rw [hR]
  have h2 := HL.out
  clear hc hb hR hcv
  go_enter Try.func33, Try.ntmps33
  go_wp2
  go_loopw [5, 10] (fun nn ii wr => ∃ k : Nat, k ≤ l.length ∧ nn = .int .i64 ((Node.szs leaf (l.take k)).sum : Nat) ∧ ii = .int .i64 k ∧ Below w.heap.size w wr) (fun _ ii _ => l.length - (intOf ii).toNat)
  case atStart => exact ⟨0, by omega, rfl, rfl, Below.refl _ _⟩
  case round =>
    obtain ⟨k, hk, rfl, rfl, hBr⟩ := hrel
    by_cases hkl : k < l.length
    · have t1 : decide (k < l.length) = true := decide_eq_true hkl
      obtain ⟨b, off, hA, hlt, c0, c1, c2, c3, c4⟩ := (HC.out.below hBr).get k hkl
      have hs := HB.out.at_ k hkl
      have hsucc := countV_succ leaf l k hkl
      have hbd := hcb.out k hk
      have hlb := long_bnd leaf l[k] hs.1 hs.2
      have e1 := HCV.out k
      have e2 := HCV.out (k + 1)
      have LC := fun w => lsize_ok w leaf l[k] hs.1 hs.2
      obtain ⟨n, hn⟩ : ∃ n, (Node.szs leaf (l.take k)).sum = n := ⟨_, rfl⟩
      obtain ⟨n2, hn2⟩ : ∃ n, (Node.szs leaf (l.take (k + 1))).sum = n := ⟨_, rfl⟩
      obtain ⟨z, hz⟩ : ∃ z, 2 + Node.long leaf l[k].cl = z := ⟨_, rfl⟩
      rw [hn] at e1
      rw [hn2] at e2
      simp only [hz] at LC
      rw [hn]
      obtain ⟨⟨key, val, over, size, child⟩, hx⟩ : ∃ x, l[k] = x := ⟨_, rfl⟩
      simp only [hx] at c0 c1 c2 c3 c4 LC
      unfold CV.v at LC
      simp only at LC
      have LC := fun w => Lib.hid (LC w)
      have m2 : IntKind.i64.wrap ((n : Int) + (z : Int)) = ((n + z : Nat) : Int) := by rw [IntWalk.i64_in _ (by omega)]; omega
      have HS : Hid ((Node.szs leaf (l.take (k + 1))).sum = n + z) := Lib.hid (by rw [hn2]; omega)
      have HBr := Lib.hid hBr
      subst hA
      have i0 : (0 : Int) ≤ (k : Int) := by omega
      have i1 : (k : Int) < (l.length : Int) := by omega
      clear hx hn hn2 hz hsucc hs hBr e1 e2 hbd hlb
      go_wp2_with fail
      refine (LC _).out.mono ?_
      rintro _ w2 ⟨rfl, hb2⟩
      go_wp2
      go_roundw
      case rel => exact ⟨k + 1, by omega, by rw [HS.out]; rfl, by go_num, HBr.out.trans (((Below.refl _ wr).alloc (Nat.le_refl _) _).mono HBr.out.size |>.trans (hb2.mono (by have := HBr.out.size; simp; omega)))⟩
      case measure => simp [intOf]; omega
    · obtain rfl : k = l.length := by omega
      have t1 : decide (l.length < l.length) = false := decide_eq_false (by omega)
      have HE : Hid ((Node.szs leaf (l.take l.length)).sum = R) := Lib.hid (by rw [List.take_length]; exact HR.out)
      have HBr := Lib.hid hBr
      clear hBr
      go_wp2
      go_ret
      exact ⟨by rw [← HE.out]; rfl, HBr.out⟩
set_option maxRecDepth 100000 in
set_option maxHeartbeats 1600000 in
theorem lfrom_ok (w : World) (n : Nat) (h : n ≤ 100000) : Calls Try.prog 28 #[.int .i64 n] w fun e w' => e = .returned (.int .i64 (2 + 2 * n : Nat)) ∧ w = w' := by
  have m1 : IntKind.i64.wrap ((n : Int) * 2) = n * 2 := IntWalk.i64_in _ (by omega)
  have m2 : IntKind.i64.wrap (2 + (n : Int) * 2) = 2 + n * 2 := IntWalk.i64_in _ (by omega)
  have HR : Hid (((2 + 2 * n : Nat) : Int) = 2 + n * 2) := Lib.hid (by omega)
  clear h
  go_enter Try.func28, Try.ntmps28
  go_wp2
  go_ret
  exact ⟨by rw [HR.out]; rfl, rfl⟩
end Go.Proofs.Ytegmffeokfahjaa
