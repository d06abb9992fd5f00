/-
  Contracts of the reference (rollbookref07), a table in memory: what each call answers and leaves. Conditions: tables of four slots.
-/
import Derived.Test.YtmfbjdfekgbamaaProg
import Derived.Test.YtmfbjdfekgbamaaRdSpec
import Derived.WalkKit
import Derived.Lib.Hide
namespace Go.Proofs.Ytmfbjdfekgbamaa
open Go.RowKit
/-- what a call on a table leaves -/
def RdDid (At : World → Nat → List Int → List Nat → Prop) (w : World) (p : Nat) (F : List Nat) (l : List Int) (e0 : Ending) (e : Ending) (w' : World) : Prop :=
  e = e0 ∧ ∃ F', At w' p l F' ∧ Touch F w w' ∧ Grows F F' w.heap.size
/-- what New leaves -/
def RdMade (At : World → Nat → List Int → List Nat → Prop) (w : World) (e : Ending) (w' : World) : Prop :=
  ∃ p F, e = .returned (.pointer (some ⟨p, 0, none⟩)) ∧ At w' p Rd.none4 F ∧ (∀ k ∈ F, w.heap.size ≤ k) ∧ Below w.heap.size w w'
/-- four numbers, as they lie -/
def rdCells (l : List Int) : Array Value := (l.map (fun x => Value.int .i64 x)).toArray
theorem rdCells_at (l : List Int) (k : Nat) (h : k < l.length) : (rdCells l)[k]? = some (.int .i64 l[k]) := by
  unfold rdCells
  simp [h]
theorem rdCells_set (l : List Int) (k : Nat) (n : Int) : (rdCells l).setIfInBounds k (.int .i64 n) = rdCells (l.set k n) := by
  unfold rdCells
  simp [List.map_set]
def RRefAt (w : World) (p : Nat) (l : List Int) (F : List Nat) : Prop :=
  ∃ g, p ≠ g ∧ Blk w p #[.slice (some ⟨g, 0, none⟩) 4 4] 49 ∧ Blk w g (rdCells l) 3 ∧ l.length = 4 ∧ F = [p, g]
theorem RRefAt.lt {w : World} {p : Nat} {l : List Int} {F : List Nat} (h : RRefAt w p l F) : ∀ k ∈ F, k < w.heap.size := by
  obtain ⟨g, _, hp, hg, _, rfl⟩ := h
  intro k hk
  simp only [List.mem_cons, List.not_mem_nil, or_false] at hk
  rcases hk with rfl | rfl
  · exact hp.lt
  · exact hg.lt
theorem RRefAt.touch {w w' : World} {p : Nat} {l : List Int} {F S : List Nat} (h : RRefAt w p l F) (hT : Touch S w w') (hS : ∀ k ∈ S, k ∉ F) : RRefAt w' p l F := by
  obtain ⟨g, hne, hp, hg, hl, rfl⟩ := h
  exact ⟨g, hne, hp.touch hT (fun hk => hS _ hk (by simp)), hg.touch hT (fun hk => hS _ hk (by simp)), hl, rfl⟩
set_option maxRecDepth 100000 in
set_option maxHeartbeats 1600000 in
theorem rrnew_ok (w : World) : Calls Try.prog 8 #[] w (RdMade RRefAt w) := by
  go_enter Try.func8, Try.ntmps8
  go_wp2
  go_ret
  have h1 := Blk.new w #[.int .i64 (-1), .int .i64 (-1), .int .i64 (-1), .int .i64 (-1)] 3
  refine ⟨w.heap.size + 1, [w.heap.size + 1, w.heap.size], by simp, ⟨w.heap.size, by omega, ?_, h1.alloc _, rfl, rfl⟩, by simp, ((Below.refl _ w).alloc (Nat.le_refl _) _).alloc (by simp) _⟩
  have := Blk.new (w.alloc (.cells #[.int .i64 (-1), .int .i64 (-1), .int .i64 (-1), .int .i64 (-1)] 3)) #[.slice (some ⟨w.heap.size, 0, none⟩) 4 4] 49
  simpa using this
/-- the cells of a table -/
theorem RRefAt.cells {w : World} {p : Nat} {l : List Int} {F : List Nat} (h : RRefAt w p l F) : ∃ g, F = [p, g] ∧ p ≠ g ∧ p < w.heap.size ∧ g < w.heap.size ∧ w.cell? ⟨p, 0, none⟩ = some (.slice (some ⟨g, 0, none⟩) 4 4) ∧ (∀ k (hk : k < l.length), w.cell? ⟨g, k, none⟩ = some (.int .i64 l[k])) ∧ (∀ k, w.frozen? ⟨g, k, none⟩ = false) ∧
    (∀ k n, k < 4 → RRefAt (w.setCell ⟨g, k, none⟩ (.int .i64 n)) p (l.set k n) F ∧ Touch F w (w.setCell ⟨g, k, none⟩ (.int .i64 n))) := by
  obtain ⟨g, hne, hp, hg, hl, rfl⟩ := h
  refine ⟨g, rfl, hne, hp.lt, hg.lt, hp.cell 0, fun k hk => ?_, fun k => hg.free k, fun k n hk => ⟨⟨g, hne, ?_, ?_, by rw [List.length_set]; exact hl, rfl⟩, (Touch.refl _ w).setCell (.inl (by simp)) _⟩⟩
  · rw [hg.cell k, rdCells_at l k hk]
  · exact hp.setOther (a := ⟨g, k, none⟩) hne _
  · rw [← rdCells_set]
    exact hg.set k _
set_option maxRecDepth 100000 in
set_option maxHeartbeats 1600000 in
theorem rrenter_bad (w : World) (v : Value) (n : Int) (h : Rd.may n = false) : Calls Try.prog 10 #[v, .int .i64 n] w fun e w' => e = .returned (.tuple #[.int .i64 0, .int .i64 1]) ∧ w = w' := by
  have hh : ¬ (0 ≤ n ∧ n ≤ 1099511627776) := fun hx => by rw [(Rd.may_iff n).2 hx] at h; cases h
  by_cases h0 : n < 0
  · have d1 : decide (n < 0) = true := decide_eq_true h0
    clear h hh h0
    go_enter Try.func10, Try.ntmps10
    go_wp2
    go_ret2
    exact ⟨rfl, rfl⟩
  · have d1 : decide (n < 0) = false := decide_eq_false h0
    have d2 : decide (1099511627776 < n) = true := decide_eq_true (by omega)
    clear h hh h0
    go_enter Try.func10, Try.ntmps10
    go_wp2
    go_ret2
    exact ⟨rfl, rfl⟩
set_option maxRecDepth 100000 in
set_option maxHeartbeats 1600000 in
theorem rrenter_ok (w : World) (p : Nat) (l : List Int) (F : List Nat) (n : Int) (hok : Rd.Ok l) (hA : RRefAt w p l F) : Calls Try.prog 10 #[.pointer (some ⟨p, 0, none⟩), .int .i64 n] w (RdDid RRefAt w p F (Rd.enterL l n) (.returned (.tuple #[.int .i64 (Rd.enterI l n), .int .i64 (Rd.enterE l n)]))) := by
  by_cases hm : Rd.may n = true
  · have hmi := (Rd.may_iff n).1 hm
    have d1 : decide (n < 0) = false := decide_eq_false (by omega)
    have d2 : decide (1099511627776 < n) = false := decide_eq_false (by omega)
    have hl := hok.1
    have HL := Lib.hid hok.1
    obtain ⟨g, hF, hne, hpl, hgl, cp, cg, fg, hset⟩ := hA.cells
    have HA := Lib.hid hA
    have HSET := Lib.hid hset
    have HM := Lib.hid hm
    have CG := Lib.hid cg
    have g0 := fg
    clear hA hset cg hm hok hl fg hF
    go_enter Try.func10, Try.ntmps10
    go_wp2
    go_loop [6] (fun ii => ∃ k : Nat, k ≤ 4 ∧ ii = .int .i64 k ∧ Hid (∀ j (hj : j < l.length), j < k → 0 ≤ l[j])) (fun ii => 4 - (intOf ii).toNat)
    case atStart => exact ⟨0, by omega, rfl, Lib.hid (fun j _ hj => by omega)⟩
    case round =>
      obtain ⟨k, hk, rfl, HB⟩ := hrel
      by_cases hk4 : k < 4
      · have t1 : decide ((k : Int) < 4) = true := decide_eq_true (by omega)
        have hkl : k < l.length := by rw [HL.out]; exact hk4
        have ck := CG.out k hkl
        have i0 : (0 : Int) ≤ (k : Int) := by omega
        have i1 : (k : Int) < 4 := by omega
        have gk := g0 k
        obtain ⟨x, hx⟩ : ∃ x, l[k] = x := ⟨_, rfl⟩
        rw [hx] at ck
        by_cases hx0 : x < 0
        · have d3 : decide (x < 0) = true := decide_eq_true hx0
          have hfree : Rd.free l = k := Rd.free_is l k hkl (by rw [hx]; exact hx0) HB.out
          have he : Rd.enters l n = true := by unfold Rd.enters; rw [HM.out, hfree, decide_eq_true hk4]; rfl
          have HE1 : Hid (Rd.enterL l n = l.set k n) := Lib.hid (by unfold Rd.enterL; rw [if_pos he, hfree])
          have HE2 : Hid (Rd.enterI l n = (k : Int)) := Lib.hid (by unfold Rd.enterI; rw [if_pos he, hfree])
          have HE3 : Hid (Rd.enterE l n = 0) := Lib.hid (by unfold Rd.enterE; rw [if_pos HM.out, if_pos (by rw [hfree]; exact hk4)])
          have HS := Lib.hid (HSET.out k n hk4)
          clear hx hx0 hfree he hkl
          go_wp2
          go_ret2
          rw [HE1.out, HE2.out, HE3.out]
          exact ⟨rfl, F, HS.out.1, HS.out.2, Grows.refl _ _⟩
        · have d3 : decide (x < 0) = false := decide_eq_false hx0
          have HB2 : Hid (∀ j (hj : j < l.length), j < k + 1 → 0 ≤ l[j]) := Lib.hid (fun j hj hjk => by
            by_cases e : j = k
            · subst e; rw [hx]; omega
            · exact HB.out j hj (by omega))
          clear hx hx0 hkl
          go_wp2
          go_round
          case rel => exact ⟨k + 1, by omega, by go_num, HB2⟩
          case measure => simp [intOf]; omega
      · have t1 : decide ((k : Int) < 4) = false := decide_eq_false (by omega)
        have hfull : Rd.free l = 4 := by
          rw [Rd.free_full l (fun j hj => HB.out j hj (by rw [HL.out] at hj; omega)), HL.out]
        have he : Rd.enters l n = false := by unfold Rd.enters; rw [hfull]; simp
        have HE1 : Hid (Rd.enterL l n = l) := Lib.hid (by unfold Rd.enterL; rw [he]; rfl)
        have HE2 : Hid (Rd.enterI l n = 0) := Lib.hid (by unfold Rd.enterI; rw [he]; rfl)
        have HE3 : Hid (Rd.enterE l n = 9) := Lib.hid (by unfold Rd.enterE; rw [if_pos HM.out, hfull]; rfl)
        clear hfull he
        go_wp2
        go_ret2
        rw [HE1.out, HE2.out, HE3.out]
        exact ⟨rfl, F, HA.out, Touch.refl _ _, Grows.refl _ _⟩
  · have hm : Rd.may n = false := by simpa using hm
    have he : Rd.enters l n = false := by unfold Rd.enters; rw [hm]; rfl
    have e1 : Rd.enterL l n = l := by unfold Rd.enterL; rw [he]; rfl
    have e2 : Rd.enterI l n = 0 := by unfold Rd.enterI; rw [he]; rfl
    have e3 : Rd.enterE l n = 1 := by unfold Rd.enterE; rw [hm]; rfl
    rw [e1, e2, e3]
    refine (rrenter_bad w _ n hm).mono ?_
    rintro _ _ ⟨rfl, rfl⟩
    exact ⟨rfl, F, hA, Touch.refl _ _, Grows.refl _ _⟩
/-- a slot's number -/
theorem rd_has (i : Int) : Rd.has i = true ↔ 0 ≤ i ∧ i ≤ 3 := by unfold Rd.has; simp
set_option maxRecDepth 100000 in
set_option maxHeartbeats 1600000 in
theorem rrleave_ok (w : World) (p : Nat) (l : List Int) (F : List Nat) (i : Int) (hok : Rd.Ok l) (hA : RRefAt w p l F) : Calls Try.prog 12 #[.pointer (some ⟨p, 0, none⟩), .int .i64 i] w (RdDid RRefAt w p F (Rd.leaveL l i) (.returned (.int .i64 (Rd.leaveE l i)))) := by
  have HA := Lib.hid hA
  by_cases hh : Rd.has i = true
  · have hi := (rd_has i).1 hh
    obtain ⟨k, rfl⟩ := Int.eq_ofNat_of_zero_le hi.1
    have hk4 : k < 4 := by omega
    have d1 : decide ((k : Int) < 0) = false := decide_eq_false (by omega)
    have d2 : decide ((3 : Int) < (k : Int)) = false := decide_eq_false (by omega)
    have i0 : (0 : Int) ≤ (k : Int) := by omega
    have i1 : (k : Int) < 4 := by omega
    obtain ⟨g, hF, hne, hpl, hgl, cp, cg, fg, hset⟩ := hA.cells
    have hkl : k < l.length := by rw [hok.1]; exact hk4
    have ck := cg k hkl
    have gk := fg k
    have HS := Lib.hid (hset k (-1) hk4)
    have hat : Rd.at_ l (k : Nat) = l[k] := by unfold Rd.at_; rw [List.getD_eq_getElem?_getD]; simp [hkl]
    obtain ⟨x, hx⟩ : ∃ x, l[k] = x := ⟨_, rfl⟩
    rw [hx] at ck hat
    by_cases hx0 : x < 0
    · have d3 : decide (x < 0) = true := decide_eq_true hx0
      have HE1 : Hid (Rd.leaveL l (k : Nat) = l) := Lib.hid (by unfold Rd.leaveL Rd.there; rw [hat, decide_eq_false (show ¬ 0 ≤ x by omega), Bool.and_false]; rfl)
      have HE2 : Hid (Rd.leaveE l (k : Nat) = 7) := Lib.hid (by unfold Rd.leaveE; rw [if_pos hh, hat, if_pos hx0])
      clear hA hset cg fg hh hi hok hat hx hx0 hkl
      go_enter Try.func12, Try.ntmps12
      go_wp2
      go_ret
      rw [HE1.out, HE2.out]
      exact ⟨rfl, F, HA.out, Touch.refl _ _, Grows.refl _ _⟩
    · have d3 : decide (x < 0) = false := decide_eq_false hx0
      have HE1 : Hid (Rd.leaveL l (k : Nat) = l.set k (-1)) := Lib.hid (by unfold Rd.leaveL Rd.there; rw [hat, hh, decide_eq_true (show 0 ≤ x by omega)]; simp)
      have HE2 : Hid (Rd.leaveE l (k : Nat) = 0) := Lib.hid (by unfold Rd.leaveE; rw [if_pos hh, hat, if_neg hx0])
      clear hA hset cg fg hh hi hok hat hx hx0 hkl
      go_enter Try.func12, Try.ntmps12
      go_wp2
      go_ret
      rw [HE1.out, HE2.out]
      exact ⟨rfl, F, HS.out.1, HS.out.2, Grows.refl _ _⟩
  · have hf : Rd.has i = false := by simpa using hh
    have hi : ¬ (0 ≤ i ∧ i ≤ 3) := fun h => hh ((rd_has i).2 h)
    have HE1 : Hid (Rd.leaveL l i = l) := Lib.hid (by unfold Rd.leaveL Rd.there; rw [hf]; rfl)
    have HE2 : Hid (Rd.leaveE l i = 1) := Lib.hid (by unfold Rd.leaveE; rw [hf]; rfl)
    by_cases h0 : i < 0
    · have d1 : decide (i < 0) = true := decide_eq_true h0
      clear hA hh hf hi h0 hok
      go_enter Try.func12, Try.ntmps12
      go_wp2
      go_ret
      rw [HE1.out, HE2.out]
      exact ⟨rfl, F, HA.out, Touch.refl _ _, Grows.refl _ _⟩
    · have d1 : decide (i < 0) = false := decide_eq_false h0
      have d2 : decide ((3 : Int) < i) = true := decide_eq_true (by omega)
      clear hA hh hf hi h0 hok
      go_enter Try.func12, Try.ntmps12
      go_wp2
      go_ret
      rw [HE1.out, HE2.out]
      exact ⟨rfl, F, HA.out, Touch.refl _ _, Grows.refl _ _⟩
set_option maxRecDepth 100000 in
set_option maxHeartbeats 1600000 in
theorem rrreads_ok (w : World) (p : Nat) (l : List Int) (F : List Nat) (i : Int) (hok : Rd.Ok l) (hA : RRefAt w p l F) : Calls Try.prog 18 #[.pointer (some ⟨p, 0, none⟩), .int .i64 i] w fun e w' => e = .returned (.tuple #[.int .i64 (Rd.readN l i), .bool (Rd.there l i)]) ∧ w = w' := by
  by_cases hh : Rd.has i = true
  · have hi := (rd_has i).1 hh
    obtain ⟨k, rfl⟩ := Int.eq_ofNat_of_zero_le hi.1
    have hk4 : k < 4 := by omega
    have d1 : decide ((k : Int) < 0) = false := decide_eq_false (by omega)
    have d2 : decide ((3 : Int) < (k : Int)) = false := decide_eq_false (by omega)
    have i0 : (0 : Int) ≤ (k : Int) := by omega
    have i1 : (k : Int) < 4 := by omega
    obtain ⟨g, hF, hne, hpl, hgl, cp, cg, fg, hset⟩ := hA.cells
    have hkl : k < l.length := by rw [hok.1]; exact hk4
    have ck := cg k hkl
    have hat : Rd.at_ l (k : Nat) = l[k] := by unfold Rd.at_; rw [List.getD_eq_getElem?_getD]; simp [hkl]
    obtain ⟨x, hx⟩ : ∃ x, l[k] = x := ⟨_, rfl⟩
    rw [hx] at ck hat
    by_cases hx0 : x < 0
    · have d3 : decide (x < 0) = true := decide_eq_true hx0
      have ht : Rd.there l (k : Nat) = false := by unfold Rd.there; rw [hat, decide_eq_false (show ¬ 0 ≤ x by omega), Bool.and_false]
      have HE1 : Hid (Rd.there l (k : Nat) = false) := Lib.hid ht
      have HE2 : Hid (Rd.readN l (k : Nat) = 0) := Lib.hid (by unfold Rd.readN; rw [ht]; rfl)
      clear hA hset cg fg hh hi hok hat hx hx0 hkl ht
      go_enter Try.func18, Try.ntmps18
      go_wp2
      go_ret2
      rw [HE1.out, HE2.out]
      exact ⟨rfl, rfl⟩
    · have d3 : decide (x < 0) = false := decide_eq_false hx0
      have ht : Rd.there l (k : Nat) = true := by unfold Rd.there; rw [hat, hh, decide_eq_true (show 0 ≤ x by omega)]; rfl
      have HE1 : Hid (Rd.there l (k : Nat) = true) := Lib.hid ht
      have HE2 : Hid (Rd.readN l (k : Nat) = x) := Lib.hid (by unfold Rd.readN; rw [if_pos ht, hat])
      clear hA hset cg fg hh hi hok hat hx hx0 hkl ht
      go_enter Try.func18, Try.ntmps18
      go_wp2
      go_ret2
      rw [HE1.out, HE2.out]
      exact ⟨rfl, rfl⟩
  · have hf : Rd.has i = false := by simpa using hh
    have hi : ¬ (0 ≤ i ∧ i ≤ 3) := fun h => hh ((rd_has i).2 h)
    have ht : Rd.there l i = false := by unfold Rd.there; rw [hf]; rfl
    have HE1 : Hid (Rd.there l i = false) := Lib.hid ht
    have HE2 : Hid (Rd.readN l i = 0) := Lib.hid (by unfold Rd.readN; rw [ht]; rfl)
    by_cases h0 : i < 0
    · have d1 : decide (i < 0) = true := decide_eq_true h0
      clear hA hh hf hi h0 hok ht
      go_enter Try.func18, Try.ntmps18
      go_wp2
      go_ret2
      rw [HE1.out, HE2.out]
      exact ⟨rfl, rfl⟩
    · have d1 : decide (i < 0) = false := decide_eq_false h0
      have d2 : decide ((3 : Int) < i) = true := decide_eq_true (by omega)
      clear hA hh hf hi h0 hok ht
      go_enter Try.func18, Try.ntmps18
      go_wp2
      go_ret2
      rw [HE1.out, HE2.out]
      exact ⟨rfl, rfl⟩
namespace Rd
theorem oldest_take (l : List Int) (now : Int) (k : Nat) (hk : k < l.length) : oldest (l.take (k + 1)) now = step (oldest (l.take k) now) l[k] := by
  unfold oldest
  rw [List.take_succ_eq_append_getElem hk, List.foldl_append]
  rfl
end Rd
set_option maxRecDepth 100000 in
set_option maxHeartbeats 1600000 in
theorem rroldest_ok (w : World) (p : Nat) (l : List Int) (F : List Nat) (now : Int) (hok : Rd.Ok l) (hA : RRefAt w p l F) : Calls Try.prog 16 #[.pointer (some ⟨p, 0, none⟩), .int .i64 now] w fun e w' => e = .returned (.int .i64 (Rd.oldest l now)) ∧ w = w' := by
  obtain ⟨g, hF, hne, hpl, hgl, cp, cg, fg, hset⟩ := hA.cells
  have CG := Lib.hid cg
  have HL := Lib.hid hok.1
  obtain ⟨R, hR⟩ : ∃ R, Rd.oldest l now = R := ⟨_, rfl⟩
  have HR := Lib.hid hR
  rw [hR]
  clear hA cg fg hset hok hR
  go_enter Try.func16, Try.ntmps16
  go_wp2
  go_loop [1, 5] (fun nn ii => ∃ (k : Nat) (m : Int), k ≤ 4 ∧ nn = .int .i64 m ∧ ii = .int .i64 k ∧ Hid (m = Rd.oldest (l.take k) now)) (fun _ ii => 4 - (intOf ii).toNat)
  case atStart => exact ⟨0, now, by omega, rfl, rfl, Lib.hid rfl⟩
  case round =>
    obtain ⟨k, m, hk, rfl, rfl, HM⟩ := hrel
    by_cases hk4 : k < 4
    · have t1 : decide ((k : Int) < 4) = true := decide_eq_true (by omega)
      have hkl : k < l.length := by rw [HL.out]; exact hk4
      have ck := CG.out k hkl
      have i0 : (0 : Int) ≤ (k : Int) := by omega
      have i1 : (k : Int) < 4 := by omega
      have hs := Rd.oldest_take l now k hkl
      rw [← HM.out] at hs
      obtain ⟨x, hx⟩ : ∃ x, l[k] = x := ⟨_, rfl⟩
      rw [hx] at ck hs
      unfold Rd.step at hs
      by_cases hx0 : 0 ≤ x
      · have d1 : decide (0 ≤ x) = true := decide_eq_true hx0
        rw [if_pos hx0] at hs
        by_cases hxm : x < m
        · have d2 : decide (x < m) = true := decide_eq_true hxm
          have HS : Hid (x = Rd.oldest (l.take (k + 1)) now) := Lib.hid (by rw [hs]; omega)
          clear hx hs hx0 hxm hkl
          go_wp2
          go_round
          case rel => exact ⟨k + 1, x, by omega, rfl, by go_num, HS⟩
          case measure => simp [intOf]; omega
        · have d2 : decide (x < m) = false := decide_eq_false hxm
          have HS : Hid (m = Rd.oldest (l.take (k + 1)) now) := Lib.hid (by rw [hs]; omega)
          clear hx hs hx0 hxm hkl
          go_wp2
          go_round
          case rel => exact ⟨k + 1, m, by omega, rfl, by go_num, HS⟩
          case measure => simp [intOf]; omega
      · have d1 : decide (0 ≤ x) = false := decide_eq_false hx0
        rw [if_neg hx0] at hs
        have HS : Hid (m = Rd.oldest (l.take (k + 1)) now) := Lib.hid hs.symm
        clear hx hs hx0 hkl
        go_wp2
        go_round
        case rel => exact ⟨k + 1, m, by omega, rfl, by go_num, HS⟩
        case measure => simp [intOf]; omega
    · obtain rfl : k = 4 := by omega
      have HE : Hid (m = R) := Lib.hid (by rw [HM.out, ← HR.out, ← HL.out, List.take_length])
      go_wp2
      go_ret
      exact ⟨by rw [← HE.out]; rfl, rfl⟩
set_option maxRecDepth 100000 in
set_option maxHeartbeats 1600000 in
theorem rrtimes_ok (w : World) (p : Nat) (l : List Int) (F : List Nat) (n : Int) (hok : Rd.Ok l) (hA : RRefAt w p l F) : Calls Try.prog 20 #[.pointer (some ⟨p, 0, none⟩), .int .i64 n] w fun e w' => e = .returned (.int .i64 (l.count n : Nat)) ∧ w = w' := by
  obtain ⟨g, hF, hne, hpl, hgl, cp, cg, fg, hset⟩ := hA.cells
  have CG := Lib.hid cg
  have HL := Lib.hid hok.1
  obtain ⟨R, hR⟩ : ∃ R, l.count n = R := ⟨_, rfl⟩
  have HR := Lib.hid hR
  rw [hR]
  clear hA cg fg hset hok hR
  go_enter Try.func20, Try.ntmps20
  go_wp2
  go_loop [5, 6] (fun nn ii => ∃ (k m : Nat), k ≤ 4 ∧ m ≤ k ∧ nn = .int .i64 m ∧ ii = .int .i64 k ∧ Hid (m = (l.take k).count n)) (fun _ ii => 4 - (intOf ii).toNat)
  case atStart => exact ⟨0, 0, by omega, by omega, rfl, rfl, Lib.hid rfl⟩
  case round =>
    obtain ⟨k, m, hk, hmk, rfl, rfl, HM⟩ := hrel
    by_cases hk4 : k < 4
    · have t1 : decide ((k : Int) < 4) = true := decide_eq_true (by omega)
      have hkl : k < l.length := by rw [HL.out]; exact hk4
      have ck := CG.out k hkl
      have i0 : (0 : Int) ≤ (k : Int) := by omega
      have i1 : (k : Int) < 4 := by omega
      have hs := Rd.count_take_succ l n k hkl
      rw [← HM.out] at hs
      obtain ⟨x, hx⟩ : ∃ x, l[k] = x := ⟨_, rfl⟩
      rw [hx] at ck hs
      by_cases hxn : x = n
      · have d1 : (x == n) = true := by rw [beq_iff_eq]; exact hxn
        have HS : Hid (m + 1 = (l.take (k + 1)).count n) := Lib.hid (by rw [hs, if_pos hxn])
        clear hx hs hxn hkl
        go_wp2
        go_round
        case rel => exact ⟨k + 1, m + 1, by omega, by omega, by go_num, by go_num, HS⟩
        case measure => simp [intOf]; omega
      · have d1 : (x == n) = false := by rw [beq_eq_false_iff_ne]; exact hxn
        have HS : Hid (m = (l.take (k + 1)).count n) := Lib.hid (by rw [hs, if_neg hxn]; rfl)
        clear hx hs hxn hkl
        go_wp2
        go_round
        case rel => exact ⟨k + 1, m, by omega, by omega, rfl, by go_num, HS⟩
        case measure => simp [intOf]; omega
    · obtain rfl : k = 4 := by omega
      have HE : Hid (m = R) := Lib.hid (by rw [HM.out, ← HR.out, ← HL.out, List.take_length])
      go_wp2
      go_ret
      exact ⟨by rw [← HE.out]; rfl, rfl⟩
set_option maxRecDepth 100000 in
set_option maxHeartbeats 1600000 in
theorem rrcount_ok (w : World) (p : Nat) (l : List Int) (F : List Nat) (hok : Rd.Ok l) (hA : RRefAt w p l F) : Calls Try.prog 14 #[.pointer (some ⟨p, 0, none⟩)] w fun e w' => e = .returned (.int .i64 (Rd.count l : Nat)) ∧ w = w' := by
  have TC0 := fun w' (h : RRefAt w' p l F) => rrtimes_ok w' p l F (-1) hok h
  have hc : l.count (-1) ≤ 4 := by rw [← hok.1]; exact List.count_le_length
  obtain ⟨c, hcc⟩ : ∃ c, l.count (-1) = c := ⟨_, rfl⟩
  simp only [hcc] at TC0
  rw [hcc] at hc
  have TC := Lib.hid TC0
  have HA := Lib.hid hA
  have m1 : IntKind.i64.wrap (4 - (c : Int)) = 4 - c := IntWalk.i64_in _ (by omega)
  have HR : Hid (((Rd.count l : Nat) : Int) = 4 - (c : Int)) := Lib.hid (by unfold Rd.count; rw [hcc]; omega)
  clear hA hok TC0 hcc
  go_enter Try.func14, Try.ntmps14
  go_wp2_with fail
  refine (TC.out _ HA.out).mono ?_
  rintro _ _ ⟨rfl, rfl⟩
  go_wp2
  go_ret
  exact ⟨by rw [HR.out]; rfl, rfl⟩
end Go.Proofs.Ytmfbjdfekgbamaa
