/-
  Contracts of the reference (rollbookref06): Long, Count. Conditions: lists and texts of at most 600.
-/
import Derived.Test.YtegmffeokfahjaaRNodeA
namespace Go.Proofs.Ytegmffeokfahjaa
open Go.RowKit
set_option maxRecDepth 100000 in
set_option maxHeartbeats 1600000 in
theorem rlong_ok (w : World) (leaf : Bool) (c : CV) (hk : c.key.size ≤ 600) (hv : c.val.size ≤ 600) : Calls Try.prog 42 #[.bool leaf, c.v] w fun e w' => e = .returned (.int .i64 (Node.long leaf c.cl : Nat)) ∧ Below w.heap.size w w' := by
  obtain ⟨key, val, over, size, child⟩ := c
  simp only at hk hv
  unfold CV.v
  simp only
  have hbl : Below w.heap.size w (w.alloc (.cells #[.string key, .string val, .int .i64 over, .int .i64 size, .int .i64 child] 35)) := (Below.refl _ w).alloc (Nat.le_refl _) _
  have ek : key.data.toList.length = key.size := by rw [Array.length_toList]; rfl
  have ev : val.data.toList.length = val.size := by rw [Array.length_toList]; rfl
  have m1 : IntKind.i64.wrap (2 + (key.size : Int)) = 2 + key.size := IntWalk.i64_in _ (by omega)
  have m2 : IntKind.i64.wrap (2 + (key.size : Int) + 4) = 2 + key.size + 4 := IntWalk.i64_in _ (by omega)
  have m3 : IntKind.i64.wrap (2 + (key.size : Int) + 9) = 2 + key.size + 9 := IntWalk.i64_in _ (by omega)
  have m4 : IntKind.i64.wrap (2 + (key.size : Int) + 3) = 2 + key.size + 3 := IntWalk.i64_in _ (by omega)
  have m5 : IntKind.i64.wrap (2 + (key.size : Int) + 3 + (val.size : Int)) = 2 + key.size + 3 + val.size := IntWalk.i64_in _ (by omega)
  cases leaf
  · have HR : Hid ((Node.long false (CV.cl ⟨key, val, over, size, child⟩) : Nat) = (2 + key.size + 4 : Int)) := Lib.hid (by unfold Node.long CV.cl; simp only [ek]; simp)
    clear hk hv ek ev
    go_enter Try.func42, Try.ntmps42
    go_wp2
    go_ret
    exact ⟨by rw [HR.out]; rfl, hbl⟩
  · by_cases h : 0 < over
    · have d1 : decide (0 < over) = true := decide_eq_true h
      have HR : Hid ((Node.long true (CV.cl ⟨key, val, over, size, child⟩) : Nat) = (2 + key.size + 9 : Int)) := Lib.hid (by unfold Node.long CV.cl; simp only [ek, if_true]; rw [if_pos (by omega)]; omega)
      clear hk hv ek ev h
      go_enter Try.func42, Try.ntmps42
      go_wp2
      go_ret
      exact ⟨by rw [HR.out]; rfl, hbl⟩
    · have d1 : decide (0 < over) = false := decide_eq_false h
      have HR : Hid ((Node.long true (CV.cl ⟨key, val, over, size, child⟩) : Nat) = (2 + key.size + 3 + val.size : Int)) := Lib.hid (by unfold Node.long CV.cl; simp only [ek, ev, if_true]; rw [if_neg (by omega)]; omega)
      clear hk hv ek ev h
      go_enter Try.func42, Try.ntmps42
      go_wp2
      go_ret
      exact ⟨by rw [HR.out]; rfl, hbl⟩
theorem countV_succ (leaf : Bool) (l : List CV) (k : Nat) (h : k < l.length) : Node.countV leaf (l.take (k + 1)) = Node.countV leaf (l.take k) + 2 + Node.long leaf l[k].cl := by
  rw [Node.countV_sum, Node.countV_sum]
  have e : ∀ j, Node.szs leaf (l.take j) = (Node.szs leaf l).take j := fun j => by unfold Node.szs; rw [List.map_take]
  have hl : k < (Node.szs leaf l).length := by unfold Node.szs; rw [List.length_map]; exact h
  have hg : (Node.szs leaf l)[k]'hl = 2 + Node.long leaf l[k].cl := List.getElem_map ..
  rw [e, e, Node.sum_take_succ _ _ hl, hg]
  omega
theorem long_bnd (leaf : Bool) (c : CV) (hk : c.key.size ≤ 600) (hv : c.val.size ≤ 600) : Node.long leaf c.cl ≤ 1300 := by
  have ek : c.key.data.toList.length = c.key.size := by rw [Array.length_toList]; rfl
  have ev : c.val.data.toList.length = c.val.size := by rw [Array.length_toList]; rfl
  unfold Node.long CV.cl
  simp only [ek, ev]
  split
  · split <;> omega
  · omega
theorem countV_bnd (leaf : Bool) (l : List CV) (h : Bnd l) : ∀ k, k ≤ l.length → Node.countV leaf (l.take k) ≤ 2 + 1302 * k := by
  intro k
  induction k with
  | zero => intro _; rw [List.take_zero]; exact Nat.le_refl _
  | succ k ih =>
    intro hk
    rw [countV_succ leaf l k (by omega)]
    have h1 := ih (by omega)
    have h2 := h.at_ k (by omega)
    have := long_bnd leaf l[k] h2.1 h2.2
    omega
set_option maxRecDepth 100000 in
set_option maxHeartbeats 1600000 in
theorem rcount_ok (w : World) (leaf : Bool) (v : Value) (l : List CV) (hc : CellsAt w v l) (hb : Bnd l) : Calls Try.prog 26 #[.bool leaf, v] w fun e w' => e = .returned (.int .i64 (Node.countV leaf l : Nat)) ∧ Below w.heap.size w w' := by
  have HC := Lib.hid hc
  have HL := Lib.hid hb.1
  have HB := Lib.hid hb
  have hcb := Lib.hid (countV_bnd leaf l hb)
  obtain ⟨A, cap, rfl, h1, h2⟩ := hc.form
  obtain ⟨R, hR⟩ : ∃ R : Nat, Node.countV leaf l = R := ⟨_, rfl⟩
  have HR := Lib.hid hR
  rw [hR]
  have h2 := HL.out
  clear hc hb hR
  go_enter Try.func26, Try.ntmps26
  go_wp2
  go_loopw [5, 6] (fun nn ii wr => ∃ k : Nat, k ≤ l.length ∧ nn = .int .i64 (Node.countV leaf (l.take k) : Nat) ∧ ii = .int .i64 k ∧ Below w.heap.size w wr) (fun _ ii _ => l.length - (intOf ii).toNat)
  case atStart => exact ⟨0, by omega, rfl, rfl, Below.refl _ _⟩
  case round =>
    obtain ⟨k, hk, rfl, rfl, hBr⟩ := hrel
    by_cases hkl : k < l.length
    · have t1 : decide (k < l.length) = true := decide_eq_true hkl
      obtain ⟨b, off, hA, hlt, c0, c1, c2, c3, c4⟩ := (HC.out.below hBr).get k hkl
      have hs := HB.out.at_ k hkl
      have hsucc := countV_succ leaf l k hkl
      have hbd := hcb.out k hk
      have hlb := long_bnd leaf l[k] hs.1 hs.2
      have LC := fun w => Lib.hid (rlong_ok w leaf l[k] hs.1 hs.2)
      obtain ⟨n, hn⟩ : ∃ n, Node.countV leaf (l.take k) = n := ⟨_, rfl⟩
      obtain ⟨z, hz⟩ : ∃ z, Node.long leaf l[k].cl = z := ⟨_, rfl⟩
      rw [hn, hz] at hsucc
      rw [hn] at hbd
      rw [hz] at hlb
      simp only [hz] at LC
      rw [hn]
      obtain ⟨⟨key, val, over, size, child⟩, hx⟩ : ∃ x, l[k] = x := ⟨_, rfl⟩
      simp only [hx] at c0 c1 c2 c3 c4 LC
      unfold CV.v at LC
      simp only at LC
      have m1 : IntKind.i64.wrap ((n : Int) + 2) = n + 2 := IntWalk.i64_in _ (by omega)
      have m2 : IntKind.i64.wrap ((n : Int) + 2 + (z : Int)) = ((n + 2 + z : Nat) : Int) := by rw [IntWalk.i64_in _ (by omega)]; omega
      have HS := Lib.hid hsucc
      have HBr := Lib.hid hBr
      subst hA
      have i0 : (0 : Int) ≤ (k : Int) := by omega
      have i1 : (k : Int) < (l.length : Int) := by omega
      clear hx hn hz hsucc hs hBr
      go_wp2_with fail
      refine (LC _).out.mono ?_
      rintro _ w2 ⟨rfl, hb2⟩
      go_wp2
      go_roundw
      case rel => exact ⟨k + 1, by omega, by rw [HS.out]; congr 1, by go_num, HBr.out.trans (hb2.mono HBr.out.size)⟩
      case measure => simp [intOf]; omega
    · obtain rfl : k = l.length := by omega
      have t1 : decide (l.length < l.length) = false := decide_eq_false (by omega)
      have HE : Hid (Node.countV leaf (l.take l.length) = R) := Lib.hid (by rw [List.take_length]; exact HR.out)
      have HBr := Lib.hid hBr
      clear hBr
      go_wp2
      go_ret
      exact ⟨by rw [← HE.out]; rfl, HBr.out⟩
end Go.Proofs.Ytegmffeokfahjaa
