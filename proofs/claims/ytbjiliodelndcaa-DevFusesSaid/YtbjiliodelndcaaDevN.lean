/-
  Contracts of the program's device: of one that isn't there; Waits, Lasts, Read. No conditions but those typed.
-/
import Derived.Test.YtbjiliodelndcaaDevS
import Derived.Test.YtbjiliodelndcaaDevMay
namespace Go.Proofs.Ytbjiliodelndcaa
open Go.RowKit
attribute [local go_sem ↓] Go.wp_at_zero Go.wp_at_succ
theorem nil_size (w : World) : Calls Try.prog 10 #[.pointer none] w fun e w' => e = .returned (.int .i64 0) ∧ w = w' := by
  go_enter Try.func10, Try.ntmps10
  go_wp2
  go_ret
  exact ⟨rfl, rfl⟩
theorem nil_on (w : World) : Calls Try.prog 13 #[.pointer none] w fun e w' => e = .returned (.bool false) ∧ w = w' := by
  go_enter Try.func13, Try.ntmps13
  go_wp2
  go_ret
  exact ⟨rfl, rfl⟩
theorem nil_steps (w : World) : Calls Try.prog 14 #[.pointer none] w fun e w' => e = .returned (.int .i64 0) ∧ w = w' := by
  go_enter Try.func14, Try.ntmps14
  go_wp2
  go_ret
  exact ⟨rfl, rfl⟩
theorem nil_writes (w : World) : Calls Try.prog 15 #[.pointer none] w fun e w' => e = .returned (.int .i64 0) ∧ w = w' := by
  go_enter Try.func15, Try.ntmps15
  go_wp2
  go_ret
  exact ⟨rfl, rfl⟩
theorem nil_read (w : World) (i : Int) : Calls Try.prog 16 #[.pointer none, .int .i64 i] w fun e w' => e = .returned (.tuple #[.string ⟨#[]⟩, .int .i64 2]) ∧ w = w' := by
  go_enter Try.func16, Try.ntmps16
  go_wp2
  exact bodyPost_ret (results_tmp2 rfl _ _ _) rfl ⟨rfl, rfl⟩
theorem nil_waits (w : World) (i : Int) : Calls Try.prog 18 #[.pointer none, .int .i64 i] w fun e w' => e = .returned (.int .i64 0) ∧ w = w' := by
  go_enter Try.func18, Try.ntmps18
  go_wp2
  go_ret
  exact ⟨rfl, rfl⟩
theorem nil_lasts (w : World) (i : Int) : Calls Try.prog 20 #[.pointer none, .int .i64 i] w fun e w' => e = .returned (.string ⟨#[]⟩) ∧ w = w' := by
  go_enter Try.func20, Try.ntmps20
  go_wp2
  go_ret
  exact ⟨rfl, rfl⟩
theorem nil_cut (w : World) : Calls Try.prog 23 #[.pointer none] w fun e w' => e = .returned (.int .i64 2) ∧ w = w' := by
  go_enter Try.func23, Try.ntmps23
  go_wp2
  go_ret
  exact ⟨rfl, rfl⟩
theorem nil_start (w : World) (v : Value) : Calls Try.prog 24 #[.pointer none, v] w fun e w' => e = .returned (.int .i64 2) ∧ w = w' := by
  go_enter Try.func24, Try.ntmps24
  go_wp2
  go_ret
  exact ⟨rfl, rfl⟩
theorem nil_fuse (w : World) (n : Int) : Calls Try.prog 25 #[.pointer none, .int .i64 n] w fun e w' => e = .returned (.int .i64 2) ∧ w = w' := by
  go_enter Try.func25, Try.ntmps25
  go_wp2
  go_ret
  exact ⟨rfl, rfl⟩
theorem nil_sync (w : World) : Calls Try.prog 26 #[.pointer none] w fun e w' => e = .returned (.int .i64 2) ∧ w = w' := by
  go_enter Try.func26, Try.ntmps26
  go_wp2
  go_ret
  exact ⟨rfl, rfl⟩
theorem nil_write (w : World) (i : Int) (s : ByteArray) : Calls Try.prog 27 #[.pointer none, .int .i64 i, .string s] w fun e w' => e = .returned (.int .i64 2) ∧ w = w' := by
  go_enter Try.func27, Try.ntmps27
  go_wp2
  go_ret
  exact ⟨rfl, rfl⟩
theorem zero55 (w : World) : (zeroValue 55).run Try.prog w = .ok (.slice none 0 0) w := by kernel_rfl
/-- what waits of a number -/
def RD.waiting (d : RD) (i : Int) : List ByteArray := if 0 ≤ i then RD.writes d.row i.toNat else []
theorem RD.waits_eq (d : RD) (i : Int) : d.waits i = (d.waiting i).length := by unfold RD.waits RD.waitsIn RD.waiting; split <;> rfl
/-- what lies under a number in the map of what waits -/
theorem DevAt.under {w : World} {p : Nat} {d : RD} {F : List Nat} (h : DevAt w p d F) (i : Int) : ∃ vs mb v, Blk w p #[.bool (!d.off), vs, .map (some mb), .int .i64 d.left, .int .i64 d.wrote, .int .i64 d.count] 58 ∧
    (∀ wx : World, Touch [] w wx → (Instr.lookup 56 (.map (some mb)) (.int .i64 i) false).run Try.prog wx = .ok v wx) ∧ w.ownsRow 0 62 128 v (d.waiting i).length (secs (d.waiting i)) ∧ All128 (d.waiting i) ∧ w.ownsRow 0 62 128 vs d.sector.length (secs d.sector) ∧ All128 d.sector := by
  obtain ⟨vs, mb, n, f, hb, hs, hm, hn, hr, hr2, h1, h2, h3, h4, hlt, hz, hz2⟩ := h
  refine ⟨vs, mb, (f i).getD (.slice none 0 0), hb, fun wx hx => (hm.touch hx (by simp)).lookup Try.underlying56 Try.underlying3 (zero55 wx) i, ?_, ?_, hs, hz⟩
  · cases hf : f i with
    | some v =>
      obtain ⟨k, rfl, _, _, ho⟩ := hr i v hf
      have e : d.waiting (k : Int) = RD.writes d.row k := by unfold RD.waiting; rw [if_pos (by omega)]; rfl
      rw [e]
      exact ho
    | none =>
      have e : d.waiting i = [] := by
        unfold RD.waiting
        split
        · rename_i h0
          cases hw : RD.writes d.row i.toNat with
          | nil => rfl
          | cons a l =>
            obtain ⟨v, hv⟩ := hr2 i.toNat (by rw [hw]; simp)
            rw [show ((i.toNat : Nat) : Int) = i by omega, hf] at hv
            cases hv
        · rfl
      rw [e]
      exact World.ownsRow_nil _ _ _ _
  · intro s hs
    unfold RD.waiting RD.writes at hs
    split at hs
    · obtain ⟨x, hx, rfl⟩ := List.mem_map.1 hs
      exact hz2 x (List.mem_filter.1 hx).1
    · cases hs
theorem dev_waits (w : World) (p : Nat) (d : RD) (F : List Nat) (i : Int) (h : DevAt w p d F) : Calls Try.prog 18 #[.pointer (some ⟨p, 0, none⟩), .int .i64 i] w fun e w' => e = .returned (.int .i64 (d.waits i)) ∧ w = w' := by
  obtain ⟨vs, mb, v, hb, hlk, ho, _⟩ := h.under i
  obtain ⟨A, cap, rfl⟩ := ownsRow_slice ho
  have c2 : w.cell? ⟨p, 2, none⟩ = some (.map (some mb)) := hb.cell 2
  have l1 := hlk w (Touch.refl _ _)
  rw [RD.waits_eq]
  obtain ⟨m, hm⟩ : ∃ m : Nat, (d.waiting i).length = m := ⟨_, rfl⟩
  rw [hm] at l1
  rw [hm]
  clear hb hlk ho hm
  go_enter Try.func18, Try.ntmps18
  go_wp2
  go_ret
  exact ⟨rfl, rfl⟩
theorem dev_lasts (w : World) (p : Nat) (d : RD) (F : List Nat) (i : Int) (h : DevAt w p d F) : Calls Try.prog 20 #[.pointer (some ⟨p, 0, none⟩), .int .i64 i] w fun e w' => e = .returned (.string (d.lastsS i)) ∧ Below w.heap.size w w' := by
  have hh := dev_has w p d F i h
  obtain ⟨vs, mb, v, hb, _, _, _, hs, hz⟩ := h.under i
  obtain ⟨A, cap, rfl⟩ := ownsRow_slice hs
  have c1 : w.cell? ⟨p, 1, none⟩ = some (.slice A d.sector.length cap) := hb.cell 1
  clear h hb
  by_cases hi : d.has i = true
  · rw [hi] at hh
    have HS : Hid (d.lastsS i = d.sector.getD i.toNat ⟨#[]⟩) := Lib.hid (by unfold RD.lastsS; rw [if_pos hi])
    unfold RD.has at hi
    simp only [Bool.and_eq_true, decide_eq_true_eq] at hi
    obtain ⟨i0, i1⟩ := hi
    obtain ⟨k, rfl⟩ := Int.eq_ofNat_of_zero_le i0
    have hk : k < d.sector.length := by omega
    rcases hs.2 with ⟨_, h0⟩ | ⟨g, _, _, hv, _⟩
    · omega
    injection hv with e1 _ _
    subst e1
    obtain ⟨x, hx⟩ : ∃ x, d.sector[k] = x := ⟨_, rfl⟩
    have hld := load_sector hs hz hk
    have HT : Hid (∀ w, Calls Try.prog 34 #[sagg x] w fun e w' => e = .returned (.string x) ∧ Below w.heap.size w w') := Lib.hid (fun w => text34 x (by rw [← hx]; exact hz.get hk) w)
    rw [hx] at hld
    obtain ⟨V, hV⟩ : ∃ V, sagg x = V := ⟨_, rfl⟩
    rw [hV] at hld HT
    have HX : Hid (d.lastsS (k : Int) = x) := Lib.hid (by rw [HS.out, ← hx]; simp [List.getD_eq_getElem?_getD, hk])
    clear hs hz hx hV HS
    have HH := Lib.hid hh
    clear hh
    go_enter Try.func20, Try.ntmps20
    go_wp2_with (first | (go_at_call 33; refine HH.out.mono ?_; rintro _ _ ⟨rfl, rfl⟩) | (refine wpList_load_run rfl 62 _ rfl (p := .pointer (some ⟨g, k * 128, none⟩)) (v := V) (by rfl) hld ?_) | (go_at_call 34; refine (HT.out _).mono ?_; rintro _ w1 ⟨rfl, hb1⟩))
    go_ret
    exact ⟨by rw [HX.out]; rfl, hb1⟩
  · have hi : d.has i = false := by simpa using hi
    rw [hi] at hh
    have HS : Hid (d.lastsS i = ⟨#[]⟩) := Lib.hid (by unfold RD.lastsS; rw [if_neg (by rw [hi]; simp)])
    have HH := Lib.hid hh
    clear hh hs hz hi
    go_enter Try.func20, Try.ntmps20
    go_wp2_with (go_at_call 33; refine HH.out.mono ?_; rintro _ _ ⟨rfl, rfl⟩)
    go_ret
    exact ⟨by rw [HS.out]; rfl, Below.refl _ _⟩
set_option maxRecDepth 4000 in
set_option maxHeartbeats 800000 in
theorem dev_read (w : World) (p : Nat) (d : RD) (F : List Nat) (K : Nat) (hK : K ≤ 1000000) (ok : RD.Ok K d) (i : Int) (h : DevAt w p d F) :
    Calls Try.prog 16 #[.pointer (some ⟨p, 0, none⟩), .int .i64 i] w fun e w' => e = .returned (.tuple #[.string (d.readS i), .int .i64 (d.readE i)]) ∧ Below w.heap.size w w' := by
  have hh := dev_has w p d F i h
  obtain ⟨vs, mb, v, hb, hlk, hv, hvz, hs, hz⟩ := h.under i
  have hwl := RD.waitsIn_le d.row i
  have c0 : w.cell? ⟨p, 0, none⟩ = some (.bool (!d.off)) := hb.cell 0
  have c1 : w.cell? ⟨p, 1, none⟩ = some vs := hb.cell 1
  have c2 : w.cell? ⟨p, 2, none⟩ = some (.map (some mb)) := hb.cell 2
  have l1 := hlk w (Touch.refl _ _)
  clear h hb hlk
  by_cases hi : d.has i = true
  · rw [hi] at hh
    have HH := Lib.hid hh
    clear hh
    cases ho : d.off
    · rw [ho] at c0
      have HE : Hid (d.readE i = 0) := Lib.hid (by unfold RD.readE; rw [if_pos hi, ho]; rfl)
      have HS : Hid (d.readS i = RD.last d.row i.toNat (d.sector.getD i.toNat ⟨#[]⟩)) := Lib.hid (by unfold RD.readS; rw [hi, ho]; rfl)
      unfold RD.has at hi
      simp only [Bool.and_eq_true, decide_eq_true_eq] at hi
      obtain ⟨i0, i1⟩ := hi
      obtain ⟨k, rfl⟩ := Int.eq_ofNat_of_zero_le i0
      have hk : k < d.sector.length := by omega
      have hwt : d.waiting (k : Int) = RD.writes d.row k := by unfold RD.waiting; rw [if_pos (by omega)]; rfl
      have HS2 : Hid (d.readS (k : Int) = (d.sector.getD k ⟨#[]⟩ :: d.waiting k).getLast (by simp)) := Lib.hid (by rw [HS.out, RD.last_writes]; simp only [hwt]; rfl)
      obtain ⟨L, hL⟩ : ∃ L, d.waiting (k : Int) = L := ⟨_, rfl⟩
      have hll : L.length ≤ 1000000 := by rw [← hL, ← RD.waits_eq]; have := ok.row; unfold RD.waits; omega
      rw [hL] at hv hvz
      simp only [hL] at HS2
      by_cases h0 : L = []
      · subst h0
        obtain ⟨A2, cap2, rfl⟩ := ownsRow_slice hv
        obtain ⟨A, cap, rfl⟩ := ownsRow_slice hs
        rcases hs.2 with ⟨_, h0⟩ | ⟨g, _, _, hg, _⟩
        · omega
        injection hg with e1 _ _
        subst e1
        obtain ⟨x, hx⟩ : ∃ x, d.sector[k] = x := ⟨_, rfl⟩
        have hld := load_sector hs hz hk
        have HT : Hid (∀ w, Calls Try.prog 34 #[sagg x] w fun e w' => e = .returned (.string x) ∧ Below w.heap.size w w') := Lib.hid (fun w => text34 x (by rw [← hx]; exact hz.get hk) w)
        rw [hx] at hld
        obtain ⟨V, hV⟩ : ∃ V, sagg x = V := ⟨_, rfl⟩
        rw [hV] at hld HT
        have HX : Hid (d.readS (k : Int) = x) := Lib.hid (by rw [HS2.out, ← hx]; simp [List.getD_eq_getElem?_getD, hk])
        clear hs hz hv hvz hx hV HS HS2 hL hwt ho hwl
        go_enter Try.func16, Try.ntmps16
        go_wp2_with (first | (go_at_call 33; refine HH.out.mono ?_; rintro _ _ ⟨rfl, rfl⟩) | (refine wpList_load_run rfl 62 _ rfl (p := .pointer (some ⟨g, k * 128, none⟩)) (v := V) (by rfl) hld ?_) | (go_at_call 34; refine (HT.out _).mono ?_; rintro _ w1 ⟨rfl, hb1⟩))
        exact bodyPost_ret (results_tmp2 rfl _ _ _) rfl ⟨by rw [HX.out, HE.out]; rfl, hb1⟩
      · obtain ⟨n, hn⟩ : ∃ n, L.length = n + 1 := ⟨L.length - 1, by have := List.length_pos_iff.2 h0; omega⟩
        have hn' : n < L.length := by omega
        obtain ⟨A, cap, rfl⟩ := ownsRow_slice hv
        rcases hv.2 with ⟨_, h0⟩ | ⟨g, _, _, hg, _⟩
        · omega
        injection hg with e1 _ _
        subst e1
        obtain ⟨x, hx⟩ : ∃ x, L[n] = x := ⟨_, rfl⟩
        have hld := load_sector hv hvz hn'
        have HT : Hid (∀ w, Calls Try.prog 34 #[sagg x] w fun e w' => e = .returned (.string x) ∧ Below w.heap.size w w') := Lib.hid (fun w => text34 x (by rw [← hx]; exact hvz.get hn') w)
        rw [hx] at hld
        obtain ⟨V, hV⟩ : ∃ V, sagg x = V := ⟨_, rfl⟩
        rw [hV] at hld HT
        have HX : Hid (d.readS (k : Int) = x) := Lib.hid (by rw [HS2.out, ← hx, List.getLast_eq_getElem]; simp [hn])
        obtain ⟨m, hm⟩ : ∃ m : Nat, L.length = m := ⟨_, rfl⟩
        rw [hm] at l1 hll
        have d1 : decide ((0 : Int) < (m : Int)) = true := decide_eq_true (by omega)
        have i3 : (0 : Int) ≤ (n : Int) := by omega
        have i4 : (n : Int) < (m : Int) := by omega
        have i5 : (m : Int) - 1 = (n : Int) := by omega
        have i6 : RowKit.wrap64 ((m : Int) - 1) = (n : Int) := by
          rw [← IntWalk.i64_left, i5]
          exact IntWalk.i64_in _ (by omega)
        clear hs hz hv hvz hx hV HS HS2 hL hwt ho hwl h0 hn hn' hm
        go_enter Try.func16, Try.ntmps16
        go_wp2_with (first | (go_at_call 33; refine HH.out.mono ?_; rintro _ _ ⟨rfl, rfl⟩) | (refine wpList_load_run rfl 62 _ rfl (p := .pointer (some ⟨g, n * 128, none⟩)) (v := V) (by rfl) hld ?_) | (go_at_call 34; refine (HT.out _).mono ?_; rintro _ w1 ⟨rfl, hb1⟩))
        exact bodyPost_ret (results_tmp2 rfl _ _ _) rfl ⟨by rw [HX.out, HE.out]; rfl, hb1⟩
    · rw [ho] at c0
      have HE : Hid (d.readE i = 6) := Lib.hid (by unfold RD.readE; rw [if_pos hi, ho]; rfl)
      have HS : Hid (d.readS i = ⟨#[]⟩) := Lib.hid (by unfold RD.readS; rw [hi, ho]; rfl)
      clear hs hz hv hvz hi ho
      go_enter Try.func16, Try.ntmps16
      go_wp2_with (go_at_call 33; refine HH.out.mono ?_; rintro _ _ ⟨rfl, rfl⟩)
      exact bodyPost_ret (results_tmp2 rfl _ _ _) rfl ⟨by rw [HS.out, HE.out]; rfl, Below.refl _ _⟩
  · have hi : d.has i = false := by simpa using hi
    rw [hi] at hh
    have HE : Hid (d.readE i = 1) := Lib.hid (by unfold RD.readE; rw [if_neg (by rw [hi]; simp)])
    have HS : Hid (d.readS i = ⟨#[]⟩) := Lib.hid (by unfold RD.readS; rw [hi]; rfl)
    have HH := Lib.hid hh
    clear hh hs hz hv hvz hi
    go_enter Try.func16, Try.ntmps16
    go_wp2_with (go_at_call 33; refine HH.out.mono ?_; rintro _ _ ⟨rfl, rfl⟩)
    exact bodyPost_ret (results_tmp2 rfl _ _ _) rfl ⟨by rw [HS.out, HE.out]; rfl, Below.refl _ _⟩
end Go.Proofs.Ytbjiliodelndcaa
