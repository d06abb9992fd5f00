/-
  Contracts of the reference (rollbookref06): Right, Bytes. Conditions: lists and texts of at most 600.
-/
import Derived.Test.YtegmffeokfahjaaRNodeB
import Derived.Test.YtegmffeokfahjaaNodeRight
import Derived.BigQuiet
namespace Go.Proofs.Ytegmffeokfahjaa
open Go.RowKit
set_option maxRecDepth 100000 in
set_option maxHeartbeats 1600000 in
theorem rnright_none (w : World) (A : Option Addr) (cap : Nat) : Calls Try.prog 14 #[.bool false, .slice A 0 cap] w fun e w' => e = .returned (.bool false) ∧ Below w.heap.size w w' := by
  go_enter Try.func14, Try.ntmps14
  go_wp2
  go_ret
  exact ⟨rfl, Below.refl _ _⟩
set_option maxRecDepth 100000 in
set_option maxHeartbeats 3200000 in
theorem rnright_true (w : World) (A : Option Addr) (cap : Nat) (l : List CV) (hc : CellsAt w (.slice A l.length cap) l) (hb : Bnd l) : Calls Try.prog 14 #[.bool true, .slice A l.length cap] w fun e w' => e = .returned (.bool (Node.right true l)) ∧ Below w.heap.size w w' := by
  have HC := Lib.hid hc
  have HB := Lib.hid hb
  obtain ⟨R, hR⟩ : ∃ R, Node.right true l = R := ⟨_, rfl⟩
  have HR := Lib.hid hR
  rw [hR]
  have hl6 : l.length ≤ 600 := hb.1
  have step : Hid (∀ k (hk : k < l.length) wr, Below w.heap.size w wr → ∃ b off, A = some ⟨b, off, none⟩ ∧ b < wr.heap.size ∧ wr.cell? ⟨b, off + k * 5, none⟩ = some (.string l[k].key) ∧ wr.cell? ⟨b, off + k * 5 + 1, none⟩ = some (.string l[k].val) ∧ wr.cell? ⟨b, off + k * 5 + 2, none⟩ = some (.int .i64 l[k].over) ∧ wr.cell? ⟨b, off + k * 5 + 3, none⟩ = some (.int .i64 l[k].size) ∧ wr.cell? ⟨b, off + k * 5 + 4, none⟩ = some (.int .i64 l[k].child)) :=
    Lib.hid (fun k hk wr hbr => (HC.out.below hbr).get k hk)
  clear hc hb hR
  go_enter Try.func14, Try.ntmps14
  go_wp2
  go_loopw [5] (fun ii wr => ∃ k : Nat, k ≤ l.length ∧ ii = .int .i64 k ∧ Hid (∀ j, j < k → Node.FineAt true l j) ∧ Below w.heap.size w wr) (fun ii _ => l.length - (intOf ii).toNat)
  case atStart => exact ⟨0, by omega, rfl, Lib.hid (fun j hj => by omega), Below.refl _ _⟩
  case round =>
    obtain ⟨k, hk, rfl, HF, hBr⟩ := hrel
    by_cases hkl : k < l.length
    · have t1 : decide (k < l.length) = true := decide_eq_true hkl
      have hs := HB.out.at_ k hkl
      obtain ⟨b, off, hA, hlt, c0, c1, c2, c3, c4⟩ := step.out k hkl wr hBr
      have LC := fun w => rcell_ok w true l[k]
      have i0 : (0 : Int) ≤ (k : Int) := by omega
      have i1 : (k : Int) < (l.length : Int) := by omega
      obtain ⟨z, hz⟩ : ∃ z, l[k].ok true = z := ⟨_, rfl⟩
      have HZ := Lib.hid hz
      simp only [hz] at LC
      have HX : Hid (l[k].key.size ≤ 600) := Lib.hid hs.1
      obtain ⟨⟨key, val, over, size, child⟩, hx⟩ : ∃ x, l[k] = x := ⟨_, rfl⟩
      have HKey : Hid (l[k].key = key) := Lib.hid (by rw [hx])
      simp only [hx] at c0 c1 c2 c3 c4 LC
      unfold CV.v at LC
      simp only at LC
      have LC := fun w => Lib.hid (LC w)
      have HBr := Lib.hid hBr
      cases z
      · have HRR : Hid (R = false) := Lib.hid (by rw [← HR.out]; exact Node.right_not true l k hkl (fun h => by have := (h hkl).1; rw [HZ.out] at this; cases this))
        subst hA
        clear hx hz hs hBr
        go_wp2_with fail
        refine (LC _).out.mono ?_
        rintro _ w2 ⟨rfl, hb2⟩
        go_wp2
        go_ret
        exact ⟨by rw [HRR.out]; rfl, HBr.out.trans (hb2.mono HBr.out.size)⟩
      · by_cases hk0 : 0 < k
        · have d1 : decide ((0 : Int) < (k : Int)) = true := decide_eq_true (by omega)
          obtain ⟨j, rfl⟩ : ∃ j, k = j + 1 := ⟨k - 1, by omega⟩
          obtain ⟨b', off', hA', _, p0, _⟩ := step.out j (by omega) wr hBr
          obtain ⟨rfl, rfl⟩ : b = b' ∧ off = off' := by
            rw [hA] at hA'
            injection hA' with h
            injection h with h1 h2
            exact ⟨h1, h2⟩
          have hsj := HB.out.at_ j (by omega)
          obtain ⟨kj, hkj⟩ : ∃ x, l[j].key = x := ⟨_, rfl⟩
          rw [hkj] at p0
          have LQ := fun w => Lib.hid (less_quiet kj key (by rw [← hkj]; omega) w)
          obtain ⟨n, hn⟩ : ∃ n, cmpL kj.data.toList key.data.toList = n := ⟨_, rfl⟩
          simp only [hn] at LQ
          have HN : Hid (cmpL l[j].key.data.toList l[j + 1].key.data.toList = n) := Lib.hid (by rw [hkj, HKey.out]; exact hn)
          have m1 : IntKind.i64.wrap (((j + 1 : Nat) : Int) - 1) = j := by rw [IntWalk.i64_in _ (by omega)]; omega
          have m2 : IntKind.i64.wrap ((j : Int) + 1 - 1) = j := by rw [IntWalk.i64_in _ (by omega)]; omega
          have m3 : IntKind.i64.wrap (j : Int) = j := IntWalk.i64_in _ (by omega)
          have j0 : (0 : Int) ≤ (j : Int) := by omega
          have j1 : (j : Int) < (l.length : Int) := by omega
          subst hA
          clear hx hz hs hBr hkj hn hsj hA'
          by_cases hn0 : 0 ≤ n
          · have d2 : decide (0 ≤ n) = true := decide_eq_true hn0
            have HRR : Hid (R = false) := Lib.hid (by rw [← HR.out]; exact Node.right_not true l (j + 1) hkl (fun h => by have := (h hkl).2 (by omega); simp only [Nat.add_sub_cancel] at this; rw [HN.out] at this; omega))
            go_wp2_with fail
            refine (LC _).out.mono ?_
            rintro _ w2 ⟨rfl, hb2⟩
            have q0 := (hb2.cell (p := ⟨b, off + (j + 1) * 5, none⟩) hlt).trans c0
            have r0 := (hb2.cell (p := ⟨b, off + j * 5, none⟩) hlt).trans p0
            have hlt2 : b < w2.heap.size := Nat.lt_of_lt_of_le hlt hb2.size
            go_wp2
            go_quiet ((go_at_call 22; exact Calls.quiet_of (LQ _).out))
            go_wp2
            go_ret
            exact ⟨by rw [HRR.out]; rfl, Below.drewN (HBr.out.trans (hb2.mono HBr.out.size)) _⟩
          · have d2 : decide (0 ≤ n) = false := decide_eq_false hn0
            have HF2 : Hid (∀ i, i < j + 1 + 1 → Node.FineAt true l i) := Lib.hid (fun i hi => by
              by_cases e : i = j + 1
              · subst e
                intro h
                refine ⟨HZ.out, fun _ => ?_⟩
                simp only [Nat.add_sub_cancel]
                rw [HN.out]
                omega
              · exact HF.out i (by omega))
            go_wp2_with fail
            refine (LC _).out.mono ?_
            rintro _ w2 ⟨rfl, hb2⟩
            have q0 := (hb2.cell (p := ⟨b, off + (j + 1) * 5, none⟩) hlt).trans c0
            have r0 := (hb2.cell (p := ⟨b, off + j * 5, none⟩) hlt).trans p0
            have hlt2 : b < w2.heap.size := Nat.lt_of_lt_of_le hlt hb2.size
            go_wp2
            go_quiet ((go_at_call 22; exact Calls.quiet_of (LQ _).out))
            go_wp2
            go_roundw
            case rel => exact ⟨j + 1 + 1, by omega, by go_num, HF2, Below.drewN (HBr.out.trans (hb2.mono HBr.out.size)) _⟩
            case measure => simp [intOf]; omega
        · have d1 : decide ((0 : Int) < (k : Int)) = false := decide_eq_false (by omega)
          obtain rfl : k = 0 := by omega
          simp only [Nat.zero_mul, Nat.add_zero] at c0 c1 c2 c3 c4
          have HF2 : Hid (∀ i, i < 0 + 1 → Node.FineAt true l i) := Lib.hid (fun i hi => by
            obtain rfl : i = 0 := by omega
            intro h
            exact ⟨HZ.out, fun h0 => absurd h0 (by omega)⟩)
          subst hA
          clear hx hz hs hBr
          go_wp2_with fail
          refine (LC _).out.mono ?_
          rintro _ w2 ⟨rfl, hb2⟩
          go_wp2
          go_quiet (fail)
          go_wp2
          go_roundw
          case rel => exact ⟨0 + 1, by omega, by go_num, HF2, Below.drewN (HBr.out.trans (hb2.mono HBr.out.size)) _⟩
          case measure => simp [intOf]; omega
    · obtain rfl : k = l.length := by omega
      have t1 : decide (l.length < l.length) = false := decide_eq_false (by omega)
      have HRR : Hid (R = true) := Lib.hid (by rw [← HR.out, Node.right_by true l HF.out]; rfl)
      have HBr := Lib.hid hBr
      clear hBr
      go_wp2
      go_ret
      exact ⟨by rw [HRR.out]; rfl, HBr.out⟩
set_option maxRecDepth 100000 in
set_option maxHeartbeats 3200000 in
theorem rnright_false (w : World) (A : Option Addr) (cap : Nat) (l : List CV) (hc : CellsAt w (.slice A l.length cap) l) (hb : Bnd l) (hne : l.length ≠ 0) : Calls Try.prog 14 #[.bool false, .slice A l.length cap] w fun e w' => e = .returned (.bool (Node.right false l)) ∧ Below w.heap.size w w' := by
  have HC := Lib.hid hc
  have HB := Lib.hid hb
  obtain ⟨R, hR⟩ : ∃ R, Node.right false l = R := ⟨_, rfl⟩
  have HR := Lib.hid hR
  rw [hR]
  have hl6 : l.length ≤ 600 := hb.1
  have d0 : ((l.length : Int) == 0) = false := by rw [beq_eq_false_iff_ne]; omega
  have step : Hid (∀ k (hk : k < l.length) wr, Below w.heap.size w wr → ∃ b off, A = some ⟨b, off, none⟩ ∧ b < wr.heap.size ∧ wr.cell? ⟨b, off + k * 5, none⟩ = some (.string l[k].key) ∧ wr.cell? ⟨b, off + k * 5 + 1, none⟩ = some (.string l[k].val) ∧ wr.cell? ⟨b, off + k * 5 + 2, none⟩ = some (.int .i64 l[k].over) ∧ wr.cell? ⟨b, off + k * 5 + 3, none⟩ = some (.int .i64 l[k].size) ∧ wr.cell? ⟨b, off + k * 5 + 4, none⟩ = some (.int .i64 l[k].child)) :=
    Lib.hid (fun k hk wr hbr => (HC.out.below hbr).get k hk)
  clear hc hb hR
  go_enter Try.func14, Try.ntmps14
  go_wp2
  go_loopw [5] (fun ii wr => ∃ k : Nat, k ≤ l.length ∧ ii = .int .i64 k ∧ Hid (∀ j, j < k → Node.FineAt false l j) ∧ Below w.heap.size w wr) (fun ii _ => l.length - (intOf ii).toNat)
  case atStart => exact ⟨0, by omega, rfl, Lib.hid (fun j hj => by omega), Below.refl _ _⟩
  case round =>
    obtain ⟨k, hk, rfl, HF, hBr⟩ := hrel
    by_cases hkl : k < l.length
    · have t1 : decide (k < l.length) = true := decide_eq_true hkl
      have hs := HB.out.at_ k hkl
      obtain ⟨b, off, hA, hlt, c0, c1, c2, c3, c4⟩ := step.out k hkl wr hBr
      have LC := fun w => rcell_ok w false l[k]
      have i0 : (0 : Int) ≤ (k : Int) := by omega
      have i1 : (k : Int) < (l.length : Int) := by omega
      obtain ⟨z, hz⟩ : ∃ z, l[k].ok false = z := ⟨_, rfl⟩
      have HZ := Lib.hid hz
      simp only [hz] at LC
      have HX : Hid (l[k].key.size ≤ 600) := Lib.hid hs.1
      obtain ⟨⟨key, val, over, size, child⟩, hx⟩ : ∃ x, l[k] = x := ⟨_, rfl⟩
      have HKey : Hid (l[k].key = key) := Lib.hid (by rw [hx])
      simp only [hx] at c0 c1 c2 c3 c4 LC
      unfold CV.v at LC
      simp only at LC
      have LC := fun w => Lib.hid (LC w)
      have HBr := Lib.hid hBr
      cases z
      · have HRR : Hid (R = false) := Lib.hid (by rw [← HR.out]; exact Node.right_not false l k hkl (fun h => by have := (h hkl).1; rw [HZ.out] at this; cases this))
        subst hA
        clear hx hz hs hBr
        go_wp2_with fail
        refine (LC _).out.mono ?_
        rintro _ w2 ⟨rfl, hb2⟩
        go_wp2
        go_ret
        exact ⟨by rw [HRR.out]; rfl, HBr.out.trans (hb2.mono HBr.out.size)⟩
      · by_cases hk0 : 0 < k
        · have d1 : decide ((0 : Int) < (k : Int)) = true := decide_eq_true (by omega)
          obtain ⟨j, rfl⟩ : ∃ j, k = j + 1 := ⟨k - 1, by omega⟩
          obtain ⟨b', off', hA', _, p0, _⟩ := step.out j (by omega) wr hBr
          obtain ⟨rfl, rfl⟩ : b = b' ∧ off = off' := by
            rw [hA] at hA'
            injection hA' with h
            injection h with h1 h2
            exact ⟨h1, h2⟩
          have hsj := HB.out.at_ j (by omega)
          obtain ⟨kj, hkj⟩ : ∃ x, l[j].key = x := ⟨_, rfl⟩
          rw [hkj] at p0
          have LQ := fun w => Lib.hid (less_quiet kj key (by rw [← hkj]; omega) w)
          obtain ⟨n, hn⟩ : ∃ n, cmpL kj.data.toList key.data.toList = n := ⟨_, rfl⟩
          simp only [hn] at LQ
          have HN : Hid (cmpL l[j].key.data.toList l[j + 1].key.data.toList = n) := Lib.hid (by rw [hkj, HKey.out]; exact hn)
          have m1 : IntKind.i64.wrap (((j + 1 : Nat) : Int) - 1) = j := by rw [IntWalk.i64_in _ (by omega)]; omega
          have m2 : IntKind.i64.wrap ((j : Int) + 1 - 1) = j := by rw [IntWalk.i64_in _ (by omega)]; omega
          have m3 : IntKind.i64.wrap (j : Int) = j := IntWalk.i64_in _ (by omega)
          have j0 : (0 : Int) ≤ (j : Int) := by omega
          have j1 : (j : Int) < (l.length : Int) := by omega
          subst hA
          clear hx hz hs hBr hkj hn hsj hA'
          by_cases hn0 : 0 ≤ n
          · have d2 : decide (0 ≤ n) = true := decide_eq_true hn0
            have HRR : Hid (R = false) := Lib.hid (by rw [← HR.out]; exact Node.right_not false l (j + 1) hkl (fun h => by have := (h hkl).2 (by omega); simp only [Nat.add_sub_cancel] at this; rw [HN.out] at this; omega))
            go_wp2_with fail
            refine (LC _).out.mono ?_
            rintro _ w2 ⟨rfl, hb2⟩
            have q0 := (hb2.cell (p := ⟨b, off + (j + 1) * 5, none⟩) hlt).trans c0
            have r0 := (hb2.cell (p := ⟨b, off + j * 5, none⟩) hlt).trans p0
            have hlt2 : b < w2.heap.size := Nat.lt_of_lt_of_le hlt hb2.size
            go_wp2
            go_quiet ((go_at_call 22; exact Calls.quiet_of (LQ _).out))
            go_wp2
            go_ret
            exact ⟨by rw [HRR.out]; rfl, Below.drewN (HBr.out.trans (hb2.mono HBr.out.size)) _⟩
          · have d2 : decide (0 ≤ n) = false := decide_eq_false hn0
            have HF2 : Hid (∀ i, i < j + 1 + 1 → Node.FineAt false l i) := Lib.hid (fun i hi => by
              by_cases e : i = j + 1
              · subst e
                intro h
                refine ⟨HZ.out, fun _ => ?_⟩
                simp only [Nat.add_sub_cancel]
                rw [HN.out]
                omega
              · exact HF.out i (by omega))
            go_wp2_with fail
            refine (LC _).out.mono ?_
            rintro _ w2 ⟨rfl, hb2⟩
            have q0 := (hb2.cell (p := ⟨b, off + (j + 1) * 5, none⟩) hlt).trans c0
            have r0 := (hb2.cell (p := ⟨b, off + j * 5, none⟩) hlt).trans p0
            have hlt2 : b < w2.heap.size := Nat.lt_of_lt_of_le hlt hb2.size
            go_wp2
            go_quiet ((go_at_call 22; exact Calls.quiet_of (LQ _).out))
            go_wp2
            go_roundw
            case rel => exact ⟨j + 1 + 1, by omega, by go_num, HF2, Below.drewN (HBr.out.trans (hb2.mono HBr.out.size)) _⟩
            case measure => simp [intOf]; omega
        · have d1 : decide ((0 : Int) < (k : Int)) = false := decide_eq_false (by omega)
          obtain rfl : k = 0 := by omega
          simp only [Nat.zero_mul, Nat.add_zero] at c0 c1 c2 c3 c4
          have HF2 : Hid (∀ i, i < 0 + 1 → Node.FineAt false l i) := Lib.hid (fun i hi => by
            obtain rfl : i = 0 := by omega
            intro h
            exact ⟨HZ.out, fun h0 => absurd h0 (by omega)⟩)
          subst hA
          clear hx hz hs hBr
          go_wp2_with fail
          refine (LC _).out.mono ?_
          rintro _ w2 ⟨rfl, hb2⟩
          go_wp2
          go_quiet (fail)
          go_wp2
          go_roundw
          case rel => exact ⟨0 + 1, by omega, by go_num, HF2, Below.drewN (HBr.out.trans (hb2.mono HBr.out.size)) _⟩
          case measure => simp [intOf]; omega
    · obtain rfl : k = l.length := by omega
      have t1 : decide (l.length < l.length) = false := decide_eq_false (by omega)
      obtain ⟨b, off, hA, hlt, c0, _⟩ := step.out 0 (by omega) wr hBr
      subst hA
      rw [Nat.zero_mul, Nat.add_zero] at c0
      have HRR : Hid (R = decide (l[0].key.size = 0)) := Lib.hid (by rw [← HR.out, Node.right_by false l HF.out, Node.firstOk_at l (by omega)])
      obtain ⟨q, hq⟩ : ∃ q, decide (l[0].key.size = 0) = q := ⟨_, rfl⟩
      obtain ⟨e1, e2, e3, e4⟩ := empty_iff l[0].key q hq
      rw [hq] at HRR
      have i0 : (0 : Int) < (l.length : Int) := by omega
      obtain ⟨key, hkey⟩ : ∃ x, l[0].key = x := ⟨_, rfl⟩
      rw [hkey] at c0 e1 e2 e3 e4
      have HBr := Lib.hid hBr
      clear hBr hkey hq
      go_wp2
      go_ret
      exact ⟨by rw [HRR.out]; rfl, HBr.out⟩
theorem rnright_ok (w : World) (leaf : Bool) (v : Value) (l : List CV) (hc : CellsAt w v l) (hb : Bnd l) : Calls Try.prog 14 #[.bool leaf, v] w fun e w' => e = .returned (.bool (Node.right leaf l)) ∧ Below w.heap.size w w' := by
  obtain ⟨A, cap, rfl, _, _⟩ := hc.form
  cases leaf
  · by_cases hne : l.length = 0
    · have hl : l = [] := List.length_eq_zero_iff.1 hne
      subst hl
      exact rnright_none w A cap
    · exact rnright_false w A cap l hc hb hne
  · exact rnright_true w A cap l hc hb
set_option maxRecDepth 100000 in
set_option maxHeartbeats 1600000 in
theorem rbytes_ok (w : World) (leaf : Bool) (v : Value) (l : List CV) (hc : CellsAt w v l) (hb : Bnd l) : Calls Try.prog 16 #[.bool leaf, v] w fun e w' => e = .returned (.int .i64 (Node.bytesN leaf l)) ∧ Below w.heap.size w w' := by
  have RC := Lib.hid (rnright_ok w leaf v l hc hb)
  have CC := Lib.hid (fun w1 (h : Below w.heap.size w w1) => rcount_ok w1 leaf v l (hc.below h) hb)
  have HR : Hid (Node.bytesN leaf l = if Node.right leaf l then ((Node.countV leaf l : Nat) : Int) else 0) := Lib.hid rfl
  clear hc hb
  cases hr : Node.right leaf l
  · rw [hr] at RC HR
    clear hr
    go_enter Try.func16, Try.ntmps16
    go_wp2_with fail
    refine RC.out.mono ?_
    rintro _ w1 ⟨rfl, hb1⟩
    go_wp2
    go_ret
    exact ⟨by rw [HR.out]; rfl, hb1⟩
  · rw [hr] at RC HR
    clear hr
    go_enter Try.func16, Try.ntmps16
    go_wp2_with fail
    refine RC.out.mono ?_
    rintro _ w1 ⟨rfl, hb1⟩
    go_wp2_with fail
    refine (CC.out _ hb1).mono ?_
    rintro _ w2 ⟨rfl, hb2⟩
    go_wp2
    go_ret
    exact ⟨by rw [HR.out]; rfl, hb1.trans (hb2.mono hb1.size)⟩
end Go.Proofs.Ytegmffeokfahjaa
