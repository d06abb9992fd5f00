/-
  Contracts of the program's device: what reads its head or writes its head alone. No conditions but those typed.
-/
import Derived.Test.YtbjiliodelndcaaDevR
namespace Go.Proofs.Ytbjiliodelndcaa
open Go.RowKit
attribute [local go_sem ↓] Go.wp_at_zero Go.wp_at_succ
theorem dev_has (w : World) (p : Nat) (d : RD) (F : List Nat) (i : Int) (h : DevAt w p d F) : Calls Try.prog 33 #[.pointer (some ⟨p, 0, none⟩), .int .i64 i] w fun e w' => e = .returned (.bool (d.has i)) ∧ w = w' := by
  obtain ⟨vs, mb, n, f, hb, hs, _⟩ := h
  obtain ⟨A, cap, rfl⟩ := ownsRow_slice hs
  have c0 : w.cell? ⟨p, 1, none⟩ = some (.slice A d.sector.length cap) := hb.cell 1
  clear hb hs
  by_cases h0 : 0 ≤ i
  · have d0 : decide (0 ≤ i) = true := decide_eq_true h0
    by_cases h1 : i < d.sector.length
    · have d1 : decide (i < (d.sector.length : Int)) = true := decide_eq_true h1
      have HH : Hid (d.has i = true) := Lib.hid (by unfold RD.has; simp [h0, h1])
      clear h0 h1
      go_enter Try.func33, Try.ntmps33
      go_wp2
      go_ret
      exact ⟨by rw [HH.out]; rfl, rfl⟩
    · have d1 : decide (i < (d.sector.length : Int)) = false := decide_eq_false h1
      have HH : Hid (d.has i = false) := Lib.hid (by unfold RD.has; simp; omega)
      clear h0 h1
      go_enter Try.func33, Try.ntmps33
      go_wp2
      go_ret
      exact ⟨by rw [HH.out]; rfl, rfl⟩
  · have d0 : decide (0 ≤ i) = false := decide_eq_false h0
    have HH : Hid (d.has i = false) := Lib.hid (by unfold RD.has; simp [h0])
    clear h0
    go_enter Try.func33, Try.ntmps33
    go_wp2
    go_ret
    exact ⟨by rw [HH.out]; rfl, rfl⟩
theorem dev_lose (w : World) (p : Nat) (x1 x2 x3 x4 x5 x0 : Value) (hb : Blk w p #[x0, x1, x2, x3, x4, x5] 58) :
    Calls Try.prog 35 #[.pointer (some ⟨p, 0, none⟩)] w fun e w' => e = .returned (.tuple #[]) ∧ Blk w' p #[.bool false, x1, x2, .int .i64 0, x4, x5] 58 ∧ Touch [p] w w' := by
  have c0 : w.cell? ⟨p, 0, none⟩ = some x0 := hb.cell 0
  have c3 : w.cell? ⟨p, 3, none⟩ = some x3 := hb.cell 3
  have f0 := hb.free 0
  have f3 := hb.free 3
  have hpl := hb.lt
  go_enter Try.func35, Try.ntmps35
  go_wp2

  refine bodyPost_end (results_none rfl _ _ _) rfl ?_
  exact ⟨rfl, (hb.set 0 _).set 3 _, ((Touch.refl _ w).setCell (by simp) _).setCell (by simp) _⟩
theorem dev_step (w : World) (p : Nat) (d : RD) (F : List Nat) (K : Nat) (hK : K ≤ 1000000) (ok : RD.Ok K d) (h : DevAt w p d F) :
    Calls Try.prog 41 #[.pointer (some ⟨p, 0, none⟩)] w (Did DevAt w p F d.stepped (.returned (.int .i64 d.syncE))) := by
  obtain ⟨vs, mb, hb, HE⟩ := h.head
  clear h
  have c0 : w.cell? ⟨p, 0, none⟩ = some (.bool (!d.off)) := hb.cell 0
  have c3 : w.cell? ⟨p, 3, none⟩ = some (.int .i64 d.left) := hb.cell 3
  have c5 : w.cell? ⟨p, 5, none⟩ = some (.int .i64 d.count) := hb.cell 5
  have f0 := hb.free 0
  have f3 := hb.free 3
  have f5 := hb.free 5
  have b1 := ok.count
  have b2 := ok.left
  have hpl := hb.lt
  have HH := Lib.hid HE
  clear HE
  cases ho : d.off
  · by_cases k1 : d.left = 1
    · have d1 : (d.left == 1) = true := by rw [beq_iff_eq]; exact k1
      rw [ho] at c0
      have HG : Hid (d.syncE = 6) := Lib.hid (by unfold RD.syncE RD.goes; rw [ho, k1]; rfl)
      have HS : Hid (d.stepped = { d with count := d.count + 1, off := true, left := 0 }) := Lib.hid (by unfold RD.stepped; rw [ho, if_neg (by simp), if_pos k1])
      have LO := Lib.hid (dev_lose _ _ _ _ _ _ _ _ (hb.set 5 (.int .i64 (d.count + 1))))
      clear k1 ho
      go_enter Try.func41, Try.ntmps41
      go_wp2_with (go_at_call 35; refine LO.out.mono ?_; rintro _ w2 ⟨rfl, hb2, hT2⟩)
      go_ret
      refine ⟨by rw [HG.out]; rfl, ?_⟩
      rw [HS.out]
      exact HH.out _ _ hb2 (((Touch.refl _ w).setCell (by simp) _).trans hT2 (Grows.refl _ _)) rfl rfl
    · have d1 : (d.left == 1) = false := by rw [beq_eq_false_iff_ne]; exact k1
      rw [ho] at c0
      have HG : Hid (d.syncE = 0) := Lib.hid (by unfold RD.syncE RD.goes; rw [ho]; simp [k1])
      obtain ⟨m, hm⟩ : ∃ m : Int, (if 1 < d.left then d.left - 1 else d.left) = m := ⟨_, rfl⟩
      have HS : Hid (d.stepped = { d with count := d.count + 1, left := m }) := Lib.hid (by
        unfold RD.stepped; rw [ho, if_neg (by simp), if_neg k1, ← hm]; split <;> rfl)
      have hmx : max (d.left - 1) 0 = m := by rw [← hm]; split <;> omega
      clear k1 ho hm
      go_enter Try.func41, Try.ntmps41
      go_wp2
      go_ret
      refine ⟨by rw [HG.out]; rfl, ?_⟩
      rw [HS.out]
      exact HH.out _ _ (((hb.set 5 _).set 3 _)) ((((Touch.refl _ w).setCell (by simp) _).setCell (by simp) _)) rfl rfl
  · rw [ho] at c0
    have HG : Hid (d.syncE = 6) := Lib.hid (by unfold RD.syncE RD.goes; rw [ho]; rfl)
    have HS : Hid (d.stepped = d) := Lib.hid (by unfold RD.stepped; rw [ho, if_pos rfl])
    clear ho
    go_enter Try.func41, Try.ntmps41
    go_wp2
    go_ret
    refine ⟨by rw [HG.out]; rfl, ?_⟩
    rw [HS.out]
    exact HH.out _ _ hb (Touch.refl _ w) rfl rfl
theorem dev_size (w : World) (p : Nat) (d : RD) (F : List Nat) (h : DevAt w p d F) : Calls Try.prog 10 #[.pointer (some ⟨p, 0, none⟩)] w fun e w' => e = .returned (.int .i64 d.sector.length) ∧ w = w' := by
  obtain ⟨vs, mb, n, f, hb, hs, _⟩ := h
  obtain ⟨A, cap, rfl⟩ := ownsRow_slice hs
  have c0 : w.cell? ⟨p, 1, none⟩ = some (.slice A d.sector.length cap) := hb.cell 1
  clear hb hs
  go_enter Try.func10, Try.ntmps10
  go_wp2
  go_ret
  exact ⟨rfl, rfl⟩
theorem dev_on (w : World) (p : Nat) (d : RD) (F : List Nat) (h : DevAt w p d F) : Calls Try.prog 13 #[.pointer (some ⟨p, 0, none⟩)] w fun e w' => e = .returned (.bool (!d.off)) ∧ w = w' := by
  obtain ⟨vs, mb, n, f, hb, _⟩ := h
  have c0 : w.cell? ⟨p, 0, none⟩ = some (.bool (!d.off)) := hb.cell 0
  clear hb
  go_enter Try.func13, Try.ntmps13
  go_wp2
  go_ret
  exact ⟨rfl, rfl⟩
theorem dev_steps (w : World) (p : Nat) (d : RD) (F : List Nat) (h : DevAt w p d F) : Calls Try.prog 14 #[.pointer (some ⟨p, 0, none⟩)] w fun e w' => e = .returned (.int .i64 d.count) ∧ w = w' := by
  obtain ⟨vs, mb, n, f, hb, _⟩ := h
  have c0 : w.cell? ⟨p, 5, none⟩ = some (.int .i64 d.count) := hb.cell 5
  clear hb
  go_enter Try.func14, Try.ntmps14
  go_wp2
  go_ret
  exact ⟨rfl, rfl⟩
theorem dev_writes (w : World) (p : Nat) (d : RD) (F : List Nat) (h : DevAt w p d F) : Calls Try.prog 15 #[.pointer (some ⟨p, 0, none⟩)] w fun e w' => e = .returned (.int .i64 d.wrote) ∧ w = w' := by
  obtain ⟨vs, mb, n, f, hb, _⟩ := h
  have c0 : w.cell? ⟨p, 4, none⟩ = some (.int .i64 d.wrote) := hb.cell 4
  clear hb
  go_enter Try.func15, Try.ntmps15
  go_wp2
  go_ret
  exact ⟨rfl, rfl⟩
theorem dev_fuse (w : World) (p : Nat) (d : RD) (F : List Nat) (n : Int) (h : DevAt w p d F) : Calls Try.prog 25 #[.pointer (some ⟨p, 0, none⟩), .int .i64 n] w (Did DevAt w p F (d.fuseD n) (.returned (.int .i64 d.fuseE))) := by
  obtain ⟨vs, mb, hb, HE⟩ := h.head
  clear h
  have c0 : w.cell? ⟨p, 0, none⟩ = some (.bool (!d.off)) := hb.cell 0
  have c3 : w.cell? ⟨p, 3, none⟩ = some (.int .i64 d.left) := hb.cell 3
  have f3 := hb.free 3
  have hpl := hb.lt
  have HH := Lib.hid HE
  clear HE
  obtain ⟨m, hm⟩ : ∃ m : Int, (if n < 1 then 0 else n) = m := ⟨_, rfl⟩
  have hmx : max n 0 = m := by rw [← hm]; split <;> omega
  cases ho : d.off
  · rw [ho] at c0
    have HD : Hid (d.fuseD n = { d with left := m } ∧ d.fuseE = 0) := Lib.hid (by unfold RD.fuseD RD.fuseE; rw [ho, hm]; exact ⟨rfl, rfl⟩)
    clear ho hm
    go_enter Try.func25, Try.ntmps25
    go_wp2
    go_ret
    refine ⟨by rw [HD.out.2]; rfl, ?_⟩
    rw [HD.out.1]
    exact HH.out _ _ (hb.set 3 _) ((Touch.refl _ w).setCell (by simp) _) rfl rfl
  · rw [ho] at c0
    have HD : Hid (d.fuseD n = d ∧ d.fuseE = 6) := Lib.hid (by unfold RD.fuseD RD.fuseE; rw [ho]; exact ⟨rfl, rfl⟩)
    clear ho hm
    go_enter Try.func25, Try.ntmps25
    go_wp2
    go_ret
    refine ⟨by rw [HD.out.2]; rfl, ?_⟩
    rw [HD.out.1]
    exact HH.out _ _ hb (Touch.refl _ w) rfl rfl
theorem dev_cut (w : World) (p : Nat) (d : RD) (F : List Nat) (h : DevAt w p d F) : Calls Try.prog 23 #[.pointer (some ⟨p, 0, none⟩)] w (Did DevAt w p F d.cutD (.returned (.int .i64 d.fuseE))) := by
  obtain ⟨vs, mb, hb, HE⟩ := h.head
  clear h
  have c0 : w.cell? ⟨p, 0, none⟩ = some (.bool (!d.off)) := hb.cell 0
  have LO := Lib.hid (dev_lose _ _ _ _ _ _ _ _ hb)
  have HH := Lib.hid HE
  clear HE
  cases ho : d.off
  · rw [ho] at c0
    have HD : Hid (d.cutD = { d with off := true, left := 0 } ∧ d.fuseE = 0) := Lib.hid (by unfold RD.cutD RD.fuseE; rw [ho]; exact ⟨rfl, rfl⟩)
    clear ho
    go_enter Try.func23, Try.ntmps23
    go_wp2_with (go_at_call 35; refine LO.out.mono ?_; rintro _ w2 ⟨rfl, hb2, hT2⟩)
    go_ret
    refine ⟨by rw [HD.out.2]; rfl, ?_⟩
    rw [HD.out.1]
    exact HH.out _ _ hb2 hT2 rfl rfl
  · rw [ho] at c0
    have HD : Hid (d.cutD = d ∧ d.fuseE = 6) := Lib.hid (by unfold RD.cutD RD.fuseE; rw [ho]; exact ⟨rfl, rfl⟩)
    clear ho
    go_enter Try.func23, Try.ntmps23
    go_wp2
    go_ret
    refine ⟨by rw [HD.out.2]; rfl, ?_⟩
    rw [HD.out.1]
    exact HH.out _ _ hb (Touch.refl _ w) rfl rfl
end Go.Proofs.Ytbjiliodelndcaa
