/-
  The landed list of free pages: Add, Copy, Count. Conditions: those of a list that may be.
-/
import Derived.Test.YtjgndgcegenikaaFlB
import Derived.Deep.RegionLaw
namespace Go.Proofs.Ytjgndgcegenikaa
open Go.RowKit
namespace Fr
theorem tells_add {t : St} {l : List FP} (ht : Tells t l) (x : Int) (k : Nat) (hn : t k = none) : Tells (t.set k (some x)) (l ++ [(x, (k : Int))]) := by
  intro j z
  unfold St.set
  rw [List.mem_append, List.mem_singleton]
  by_cases e : j = k
  · subst e
    rw [if_pos rfl]
    constructor
    · intro h; injection h with h; subst h; exact .inr rfl
    · rintro (h | h)
      · have := (ht j z).2 h; rw [hn] at this; cases this
      · injection h with h1; rw [h1]
  · rw [if_neg e, ht j z]
    constructor
    · exact .inl
    · rintro (h | h)
      · exact h
      · injection h with _ h2; omega
theorem tells_drop {t : St} {l : List FP} (ht : Tells t l) (k : Nat) : Tells (t.set k none) (l.filter (fun g => decide (g.2 ≠ (k : Int)))) := by
  intro j z
  unfold St.set
  rw [List.mem_filter]
  by_cases e : j = k
  · subst e; simp
  · rw [if_neg e, ht j z]
    constructor
    · intro h; exact ⟨h, by simp; omega⟩
    · exact fun h => h.1
end Fr
theorem Fr.st_put {w : World} {p : Nat} {t : Fr.St} (h : Blk w p (Fr.stA t) 57) (k : Nat) (hk : k < 512) (o : Option Int) (b : Bool) (x : Int) (hb : o.isSome = b) (hx : o.getD 0 = x) :
    Blk ((w.setCell ⟨p, k * 2, none⟩ (.bool b)).setCell ⟨p, k * 2 + 1, none⟩ (.int .i64 x)) p (Fr.stA (t.set k o)) 57 := by
  subst hb hx
  have := (h.set (k * 2) (.bool o.isSome)).set (k * 2 + 1) (.int .i64 (o.getD 0))
  rwa [Fr.stA_set t k hk o] at this
theorem Fr.st_touch (w : World) (p : Nat) (a b : Nat) (x y : Value) : Touch [p] w ((w.setCell ⟨p, a, none⟩ x).setCell ⟨p, b, none⟩ y) :=
  ((Touch.refl _ w).setCell (.inl (by simp)) _).setCell (.inl (by simp)) _
set_option maxRecDepth 100000 in
set_option maxHeartbeats 3200000 in
theorem fladd_ok (w : World) (p : Nat) (l : List FP) (F : List Nat) (f : FP) (hA : FLAt w p l F) : Calls Try.prog 11 #[.pointer (some ⟨p, 0, none⟩), fv f] w (FrDid FLAt w p F (Fr.addL l f) (.returned (.int .i64 (Fr.addE l f)))) := by
  have HA := Lib.hid hA
  obtain ⟨R, hR⟩ : ∃ R, Fr.right f = R := ⟨_, rfl⟩
  obtain ⟨H, hH⟩ : ∃ H, Fr.has l f.2 = H := ⟨_, rfl⟩
  have C := fun w => Lib.hid (flright_ok w f)
  simp only [hR] at C
  have HE : Hid (Fr.addE l f = if R then (if H then 8 else 0) else 1) := Lib.hid (by unfold Fr.addE; rw [hR, hH])
  have HL : Hid (Fr.addL l f = if R && !H then l ++ [f] else l) := Lib.hid (by unfold Fr.addL Fr.adds; rw [hR, hH])
  obtain ⟨t, hp0, ht, rfl⟩ := hA
  have hp := hp0.lt
  have HP := Lib.hid hp0
  have HT := Lib.hid ht
  cases R
  case false =>
    clear hR hH ht hp0
    obtain ⟨x, y⟩ := f
    unfold fv at C ⊢
    simp only at C ⊢
    go_enter Try.func11, Try.ntmps11
    go_wp2_with fail
    refine (C _).out.mono ?_
    rintro _ w1 ⟨rfl, hb1⟩
    have HB : Hid (Below w.heap.size w w1) := Lib.hid (((Below.refl _ w).alloc (Nat.le_refl _) _).trans (hb1.mono (by simp)))
    go_wp2
    go_ret
    rw [HE.out, HL.out]
    exact ⟨rfl, [p], HA.out.touch (Touch.ofBelow HB.out) (by simp), (Touch.ofBelow HB.out).more (by simp), Grows.refl _ _⟩
  case true =>
    have hri := (Fr.right_iff f).1 hR
    obtain ⟨k, hk⟩ := Int.eq_ofNat_of_zero_le (show 0 ≤ f.2 by omega)
    have hk5 : k < 512 := by omega
    have hHt : (t k).isSome = H := by rw [Fr.tells_has ht, ← hH, hk]
    have i0 : (0 : Int) ≤ (k : Int) := by omega
    have i1 : (k : Int) < 512 := by omega
    clear hR hH hri
    obtain ⟨x, y⟩ := f
    simp only at hk
    subst hk
    unfold fv at C ⊢
    simp only at C ⊢
    have HC0 : Hid (∀ w1, Below w.heap.size w w1 → Blk w1 p (Fr.stA t) 57) := Lib.hid (fun w1 hb => (hb.block p hp).trans HP.out)
    have c0 := fun (w1 : World) (h : Blk w1 p (Fr.stA t) 57) => (h.cell (k * 2)).trans (Fr.stA_get t k 0 hk5 (by omega))
    simp only [Fr.stCell, hHt, List.getElem?_cons_zero] at c0
    cases H
    case true =>
      clear hHt ht hp0 i1
      have i1 : (k : Int) < 512 := by omega
      clear hk5
      go_enter Try.func11, Try.ntmps11
      go_wp2_with fail
      refine (C _).out.mono ?_
      rintro _ w1 ⟨rfl, hb1⟩
      have HB : Hid (Below w.heap.size w w1) := Lib.hid (((Below.refl _ w).alloc (Nat.le_refl _) _).trans (hb1.mono (by simp)))
      have hX : Blk w1 w.heap.size #[.int .i64 x, .int .i64 k] 31 := (hb1.block _ (by simp)).trans (heap_alloc_new w _)
      have y1 : w1.cell? ⟨w.heap.size, 1, none⟩ = some (.int .i64 k) := hX.cell 1
      have s0 := c0 w1 (HC0.out w1 HB.out)
      have HB2 : Hid (Below w.heap.size w w1.drew) := Lib.hid (fr_drewN HB.out 1)
      clear hb1 hX c0
      go_wp2
      go_region
      go_wp2
      go_ret
      rw [HE.out, HL.out]
      exact ⟨rfl, [p], HA.out.touch (Touch.ofBelow HB2.out) (by simp), (Touch.ofBelow HB2.out).more (by simp), Grows.refl _ _⟩
    case false =>
      have HN : Hid (t k = none) := Lib.hid (by simpa using hHt)
      have HK := Lib.hid hk5
      clear hHt ht hp0 hk5
      go_enter Try.func11, Try.ntmps11
      go_wp2_with fail
      refine (C _).out.mono ?_
      rintro _ w1 ⟨rfl, hb1⟩
      have HB : Hid (Below w.heap.size w w1) := Lib.hid (((Below.refl _ w).alloc (Nat.le_refl _) _).trans (hb1.mono (by simp)))
      have hX : Blk w1 w.heap.size #[.int .i64 x, .int .i64 k] 31 := (hb1.block _ (by simp)).trans (heap_alloc_new w _)
      have y0 : w1.cell? ⟨w.heap.size, 0, none⟩ = some (.int .i64 x) := hX.cell 0
      have y1 : w1.cell? ⟨w.heap.size, 1, none⟩ = some (.int .i64 k) := hX.cell 1
      have s0 := c0 w1 (HC0.out w1 HB.out)
      obtain ⟨z, s1⟩ : ∃ z, w1.cell? ⟨p, k * 2 + 1, none⟩ = some z := ⟨_, ((HC0.out w1 HB.out).cell (k * 2 + 1)).trans (Fr.stA_get t k 1 HK.out (by omega))⟩
      have f0 := (HC0.out w1 HB.out).free (k * 2)
      have f1 := (HC0.out w1 HB.out).free (k * 2 + 1)
      have HD : Hid (∀ n, FLAt (((w1.setCell ⟨p, k * 2, none⟩ (.bool true)).setCell ⟨p, k * 2 + 1, none⟩ (.int .i64 x)).drewN n) p (l ++ [(x, (k : Int))]) [p] ∧ Touch [p] w (((w1.setCell ⟨p, k * 2, none⟩ (.bool true)).setCell ⟨p, k * 2 + 1, none⟩ (.int .i64 x)).drewN n)) := Lib.hid (fun n => by
        have h1 := Fr.st_put (HC0.out w1 HB.out) k HK.out (some x) true x rfl rfl
        have h2 := ((Touch.ofBelow HB.out).more (S' := [p]) (by simp)).trans (Fr.st_touch w1 p (k * 2) (k * 2 + 1) (.bool true) (.int .i64 x)) (Grows.refl _ _)
        exact ⟨⟨_, h1, Fr.tells_add HT.out x k HN.out, rfl⟩, h2.os, h2.tape, h2.output, h2.size, h2.block⟩)
      clear hb1 hX c0
      go_wp2
      go_region
      go_wp2
      go_region
      go_wp2
      go_ret
      rw [HE.out, HL.out]
      exact ⟨rfl, [p], (HD.out 2).1, (HD.out 2).2, Grows.refl _ _⟩
set_option maxRecDepth 100000 in
theorem flcopy_ok (w : World) (p : Nat) (l : List FP) (F : List Nat) (hA : FLAt w p l F) : Calls Try.prog 15 #[.pointer (some ⟨p, 0, none⟩)] w (FrMade FLAt l w) := by
  obtain ⟨t, hp0, ht, rfl⟩ := hA
  have hz := flZero
  have hld := fl_load2 hp0
  obtain ⟨T, hT⟩ : ∃ T, Fr.stA t = T := ⟨_, rfl⟩
  obtain ⟨Z, hZ⟩ : ∃ Z, Fr.stA (fun _ => none) = Z := ⟨_, rfl⟩
  have hb0 : (w.alloc (.cells Z 57)).heap[w.heap.size]? = some (.cells Z 57 (0, 0)) := heap_alloc_new w _
  have hst : (Instr.storeAt 57 (.pointer (some ⟨w.heap.size, 0, none⟩)) (.agg T)).run Try.prog (w.alloc (.cells Z 57)) = .ok () ((w.alloc (.cells Z 57)).setRow w.heap.size T) := by
    have := run_storeVar_row (P := Try.prog) _ w.heap.size 57 57 Z T hb0 (by rw [flSize, ← hT, Fr.stA_size]) (by rw [← hT, ← hZ, Fr.stA_size, Fr.stA_size]) (by rw [← hT]; exact all_oneCell_toArray (Fr.one_cells t 512))
    simp only [Instr.storeAt, Instr.sureAddr, Sem.run_bind, Sem.run_pure, Result.andThen_ok, this]
  rw [World.setRow_alloc_new] at hst
  have HE : Hid (Blk (w.alloc (.cells T 57)) w.heap.size (Fr.stA t) 57) := Lib.hid (hT ▸ Blk.new w _ _)
  have HT := Lib.hid ht
  rw [hZ] at hz
  rw [hT] at hld
  have hsz : p < w.heap.size := hp0.lt
  clear hZ hT hb0 ht hp0
  go_enter Try.func15, Try.ntmps15
  go_wp2_with (first | (refine wpList_load_run rfl 57 _ rfl (p := .pointer (some ⟨p, 0, none⟩)) (v := .agg T) (by rfl) hld ?_) | (refine wpList_store_run rfl 57 _ _ rfl (p := .pointer (some ⟨w.heap.size, 0, none⟩)) (v := .agg T) (by rfl) (by rfl) hst ?_))
  go_ret
  exact ⟨w.heap.size, [w.heap.size], rfl, ⟨t, HE.out, HT.out, rfl⟩, by simp, (Below.refl _ w).alloc (Nat.le_refl _) _⟩
end Go.Proofs.Ytjgndgcegenikaa
