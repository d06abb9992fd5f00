/-
  The order of free pages as the program has it: cmp.Compare, cmp.Or, order. No conditions.
-/
import Derived.Test.YtjgndgcegenikaaFlB
import Derived.Deep.RegionLaw
import Derived.StillTailTactics
import Derived.Deep.Draws
import Derived.Sort.Grow
namespace Go.Proofs.Ytjgndgcegenikaa
open Go.RowKit Go.Sort Go.Lib
namespace Fr
def cmpI (x y : Int) : Int := if x < y then -1 else if y < x then 1 else 0
def orI (a b : Int) : Int := if a ≠ 0 then a else b
def cmpF (a b : FP) : Int := orI (cmpI a.1 b.1) (cmpI a.2 b.2)
theorem cmpF_less (a b : FP) : decide (cmpF a b < 0) = less a b := by
  rw [Bool.eq_iff_iff, less_iff, decide_eq_true_iff]
  unfold cmpF orI cmpI
  split <;> (repeat' split) <;> omega
end Fr
set_option maxRecDepth 100000 in
theorem cmpNaN_ok (w : World) (x : Int) : Calls Try.prog 59 #[.int .i64 x] w fun e w' => e = .returned (.bool false) ∧ w = w' := by
  have d : (x != x) = false := by simp
  go_enter Try.func59, Try.ntmps59
  go_wp2
  go_ret
  exact ⟨by first | rfl | simp, rfl⟩
set_option maxRecDepth 100000 in
theorem cmpI_ok (w : World) (x y : Int) : Calls Try.prog 43 #[.int .i64 x, .int .i64 y] w fun e w' => e = .returned (.int .i64 (Fr.cmpI x y)) ∧ w = w' := by
  have C := fun w => Lib.hid (cmpNaN_ok w x)
  have C' := fun w => Lib.hid (cmpNaN_ok w y)
  obtain ⟨r, hr⟩ : ∃ r, Fr.cmpI x y = r := ⟨_, rfl⟩
  rw [hr]
  unfold Fr.cmpI at hr
  by_cases h1 : x < y
  · have d1 : decide (x < y) = true := decide_eq_true h1
    have HE : Hid (r = -1) := Lib.hid (by rw [← hr, if_pos h1])
    clear h1 hr
    go_enter Try.func43, Try.ntmps43
    go_wp2_with fail
    refine (C _).out.mono ?_
    rintro _ _ ⟨rfl, rfl⟩
    go_wp2_with fail
    refine (C' _).out.mono ?_
    rintro _ _ ⟨rfl, rfl⟩
    go_wp2
    go_ret
    exact ⟨by rw [HE.out]; rfl, rfl⟩
  · have d1 : decide (x < y) = false := decide_eq_false h1
    by_cases h2 : y < x
    · have d2 : decide (y < x) = true := decide_eq_true h2
      have HE : Hid (r = 1) := Lib.hid (by rw [← hr, if_neg h1, if_pos h2])
      clear h1 h2 hr
      go_enter Try.func43, Try.ntmps43
      go_wp2_with fail
      refine (C _).out.mono ?_
      rintro _ _ ⟨rfl, rfl⟩
      go_wp2_with fail
      refine (C' _).out.mono ?_
      rintro _ _ ⟨rfl, rfl⟩
      go_wp2
      go_ret
      exact ⟨by rw [HE.out]; rfl, rfl⟩
    · have d2 : decide (y < x) = false := decide_eq_false h2
      have HE : Hid (r = 0) := Lib.hid (by rw [← hr, if_neg h1, if_neg h2])
      clear h1 h2 hr
      go_enter Try.func43, Try.ntmps43
      go_wp2_with fail
      refine (C _).out.mono ?_
      rintro _ _ ⟨rfl, rfl⟩
      go_wp2_with fail
      refine (C' _).out.mono ?_
      rintro _ _ ⟨rfl, rfl⟩
      go_wp2
      go_ret
      exact ⟨by rw [HE.out]; rfl, rfl⟩
set_option maxRecDepth 100000 in
theorem cmpOr_ok (w : World) (g : Nat) (a b : Int) (c0 : w.cell? ⟨g, 0, none⟩ = some (.int .i64 a)) (c1 : w.cell? ⟨g, 1, none⟩ = some (.int .i64 b)) : Calls Try.prog 42 #[.slice (some ⟨g, 0, none⟩) 2 2] w fun e w' => e = .returned (.int .i64 (Fr.orI a b)) ∧ w = w' := by
  have HP : Hid (a ≠ 0 → Fr.orI a b = a) := Lib.hid (fun h => if_pos h)
  have HN : Hid (a = 0 → Fr.orI a b = b) := Lib.hid (fun h => if_neg (by simp [h]))
  obtain ⟨r, hr⟩ : ∃ r, Fr.orI a b = r := ⟨_, rfl⟩
  rw [hr] at HP HN ⊢
  clear hr
  go_enter Try.func42, Try.ntmps42
  go_wp2
  go_loop [8] (fun ii => ∃ k : Nat, k ≤ 2 ∧ ii = .int .i64 k ∧ Hid (0 < k → a = 0) ∧ Hid (1 < k → b = 0)) (fun ii => 2 - (intOf ii).toNat)
  case atStart => exact ⟨0, by omega, rfl, Lib.hid (fun h => by omega), Lib.hid (fun h => by omega)⟩
  case round =>
    obtain ⟨k, hk, rfl, HA, HB⟩ := hrel
    rcases (by omega : k = 0 ∨ k = 1 ∨ k = 2) with rfl | rfl | rfl
    · by_cases h : a = 0
      · have d1 : (a != 0) = false := by simp [h]
        have HA2 : Hid (0 < 1 → a = 0) := Lib.hid (fun _ => h)
        clear h
        go_wp2
        go_round
        case rel => exact ⟨1, by omega, by go_num, HA2, Lib.hid (fun h => by omega)⟩
        case measure => simp [intOf]
      · have d1 : (a != 0) = true := by simp [h]
        have HE : Hid (r = a) := Lib.hid (HP.out h)
        clear h
        go_wp2
        go_ret
        exact ⟨by rw [HE.out]; rfl, rfl⟩
    · by_cases h : b = 0
      · have d1 : (b != 0) = false := by simp [h]
        have HB2 : Hid (1 < 2 → b = 0) := Lib.hid (fun _ => h)
        clear h
        go_wp2
        go_round
        case rel => exact ⟨2, by omega, by go_num, Lib.hid (fun _ => HA.out (by omega)), HB2⟩
        case measure => simp [intOf]
      · have d1 : (b != 0) = true := by simp [h]
        have HE : Hid (r = b) := Lib.hid (HN.out (HA.out (by omega)))
        clear h
        go_wp2
        go_ret
        exact ⟨by rw [HE.out]; rfl, rfl⟩
    · have HE : Hid (r = 0) := Lib.hid ((HN.out (HA.out (by omega))).trans (HB.out (by omega)))
      go_wp2
      go_ret
      exact ⟨by rw [HE.out]; rfl, rfl⟩
theorem region_tail {P : Program} {id : Nat} {Q : Exit → Act → World → Prop} {a : Act} {w : World} {l : List Oper} (n : Nat) (hm : P.follows .mixedOrders = true) (hB : Region.lexTailB .any l.toArray n = true)
    (h : ∀ W, w.drew = W → wpStill P l.toArray W (fun a' => wpList P l.toArray Q (l.drop n) a' W) (l.take n) a) : (Code.region id l.toArray true).wp P Q a w := wp_region_still_tail n hm hB (h _ rfl)
theorem grow3 (w : World) (a b c : Obj) : (((w.alloc a).alloc b).drew).alloc c = grow (w.drewN 1) #[a, b, c] := by
  rw [alloc_eq_grow, alloc_eq_grow, alloc_eq_grow]
  show grow (grow (grow (w.drewN 1) #[a]) #[b]) #[c] = _
  rw [grow_grow, grow_grow]
  rfl
theorem cell_third (w : World) (o1 o2 : Obj) (cs : Array Value) (t : TypeId) (i : Nat) : (((w.alloc o1).alloc o2).alloc (.cells cs t)).cell? ⟨w.heap.size + 1 + 1, i, none⟩ = cs[i]? := by
  have h := (Blk.new ((w.alloc o1).alloc o2) cs t).cell i
  rw [World.size_alloc, World.size_alloc] at h
  exact h
set_option maxRecDepth 100000 in
set_option maxHeartbeats 3200000 in
/-- the program's order: it lays some blocks -/
theorem order_ok (w : World) (f g : FP) : Calls Try.prog 34 #[fv f, fv g] w fun e w' => e = .returned (.int .i64 (Fr.cmpF f g)) ∧ ∃ q os', w' = grow (w.drewN q) os' := by
  obtain ⟨x, y⟩ := f
  obtain ⟨z, u⟩ := g
  have C1 := fun w => Lib.hid ((cmpI_ok w x z).mono (R' := fun e w' => e = .returned (.int .i64 (Fr.cmpI x z)) ∧ w' = w) fun _ _ ⟨a, b⟩ => ⟨a, b.symm⟩)
  have C2 := fun w => Lib.hid ((cmpI_ok w y u).mono (R' := fun e w' => e = .returned (.int .i64 (Fr.cmpI y u)) ∧ w' = w) fun _ _ ⟨a, b⟩ => ⟨a, b.symm⟩)
  have CO := Lib.hid (fun (w : World) (g : Nat) (h0 : w.cell? ⟨g, 0, none⟩ = some (.int .i64 (Fr.cmpI x z))) (h1 : w.cell? ⟨g, 1, none⟩ = some (.int .i64 (Fr.cmpI y u))) => cmpOr_ok w g _ _ h0 h1)
  have HE : Hid (Fr.cmpF (x, y) (z, u) = Fr.orI (Fr.cmpI x z) (Fr.cmpI y u)) := Lib.hid rfl
  obtain ⟨E, hE⟩ : ∃ E, Fr.cmpF (x, y) (z, u) = E := ⟨_, rfl⟩
  obtain ⟨c1, hc1⟩ : ∃ c, Fr.cmpI x z = c := ⟨_, rfl⟩
  obtain ⟨c2, hc2⟩ : ∃ c, Fr.cmpI y u = c := ⟨_, rfl⟩
  rw [hE]
  rw [hE] at HE
  simp only [hc1] at C1 CO HE
  simp only [hc2] at C2 CO HE
  unfold fv
  simp only
  clear hE hc1 hc2
  go_enter Try.func34, Try.ntmps34
  go_wp2
  obtain ⟨W, hW⟩ : ∃ W, ((w.alloc (.cells #[.int .i64 x, .int .i64 y] 31)).alloc (.cells #[.int .i64 z, .int .i64 u] 31)).drew = W := ⟨_, rfl⟩
  have k0 : W.cell? ⟨w.heap.size, 0, none⟩ = some (.int .i64 x) := by rw [← hW]; simp
  have k1 : W.cell? ⟨w.heap.size, 1, none⟩ = some (.int .i64 y) := by rw [← hW]; simp
  have k2 : W.cell? ⟨w.heap.size + 1, 0, none⟩ = some (.int .i64 z) := by rw [← hW]; simp
  have k3 : W.cell? ⟨w.heap.size + 1, 1, none⟩ = some (.int .i64 u) := by rw [← hW]; simp
  have CO3 : Hid (Calls Try.prog 42 #[.slice (some ⟨W.heap.size, 0, none⟩) 2 2] (W.alloc (.cells #[.int .i64 c1, .int .i64 c2] 3)) fun e w' => e = .returned (.int .i64 E) ∧ W.alloc (.cells #[.int .i64 c1, .int .i64 c2] 3) = w') := Lib.hid (by
    rw [HE.out]
    exact CO.out _ _ ((Blk.new W _ _).cell 0) ((Blk.new W _ _).cell 1))
  have HG : Hid (∃ q os', W.alloc (.cells #[.int .i64 c1, .int .i64 c2] 3) = grow (w.drewN q) os') := Lib.hid ⟨1, #[.cells #[.int .i64 x, .int .i64 y] 31, .cells #[.int .i64 z, .int .i64 u] 31, .cells #[.int .i64 c1, .int .i64 c2] 3], by rw [← hW]; exact grow3 _ _ _ _⟩
  clear CO HE
  refine region_tail 10 (by kernel_rfl) (by kernel_rfl) (fun W2 hW2 => ?_)
  obtain rfl : W = W2 := hW.symm.trans hW2
  clear hW hW2
  simp only [List.take_succ_cons, List.take_zero, List.drop_succ_cons, List.drop_zero]
  repeat still_step
  still_call (C1 _).out
  repeat still_step
  still_call (C2 _).out
  repeat still_step
  refine wpStill_nil ?_
  go_wp2_with (go_at_call 42; refine CO3.out.mono ?_; rintro _ _ ⟨rfl, rfl⟩)
  go_ret
  exact ⟨rfl, HG.out⟩
end Go.Proofs.Ytjgndgcegenikaa
