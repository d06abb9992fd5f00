/-
  Contracts of the reference (rollbookref08): Encode. Conditions: lists of at most 600.
-/
import Derived.Test.YtjgndgcegenikaaFrRefB
import Derived.Test.YtjgndgcegenikaaFrEnc
import Derived.Test.YtjgndgcegenikaaPageRef
namespace Go.Proofs.Ytjgndgcegenikaa
open Go.RowKit
theorem fr_num (n k : Nat) (K : Int) (hK : K = k) (hn : n < 2 ^ (8 * k)) (hn2 : n < 2 ^ 63) (hk : 1 ≤ k) (hk8 : k ≤ 8) (w : World) : Calls Try.prog 37 #[.int .i64 n, .int .i64 K] w fun e w' => e = .returned (.string (ba (beB n k 0))) ∧ Below w.heap.size w w' := by
  rw [hK]
  exact number_ok n k hn hn2 hk hk8 w
theorem fr_beB_size (n k : Nat) : (ba (beB n k 0)).size = k := by rw [ba_size, beB_length]; omega
namespace Fr
theorem encS_bad {next : Int} {l : List FP} (h : ¬ Piece next l) : encS next l = ⟨#[]⟩ ∧ encE next l = 4 := by
  have : okP next l = false := by rw [← Bool.not_eq_true, okP_iff]; exact h
  unfold encS encE
  rw [this]
  exact ⟨rfl, rfl⟩
theorem encS_good {next : Int} {l : List FP} (h : Piece next l) : encS next l = ba (bytes next l) ∧ encE next l = 0 := by
  have : okP next l = true := (okP_iff next l).2 h
  unfold encS encE
  rw [this]
  exact ⟨rfl, rfl⟩
end Fr
set_option maxRecDepth 100000 in
set_option maxHeartbeats 1600000 in
theorem frenc_bad (w : World) (next : Int) (A : Option Addr) (n cap : Nat) (h : next < 0 ∨ 511 < next ∨ 40 < n) : Calls Try.prog 23 #[.int .i64 next, .slice A n cap] w fun e w' => e = .returned (.tuple #[.string ⟨#[]⟩, .int .i64 4]) ∧ Below w.heap.size w w' := by
  obtain ⟨a, ha⟩ : ∃ a, decide (next < 0) = a := ⟨_, rfl⟩
  obtain ⟨b, hb⟩ : ∃ a, decide ((511 : Int) < next) = a := ⟨_, rfl⟩
  obtain ⟨c, hc⟩ : ∃ a, decide ((40 : Int) < (n : Int)) = a := ⟨_, rfl⟩
  have hh : a = true ∨ b = true ∨ c = true := by
    rw [← ha, ← hb, ← hc]
    rcases h with h | h | h
    · exact .inl (decide_eq_true h)
    · exact .inr (.inl (decide_eq_true h))
    · exact .inr (.inr (decide_eq_true (by omega)))
  clear h
  cases a
  case true =>
    go_enter Try.func23, Try.ntmps23
    go_wp2
    go_ret2
    exact ⟨rfl, Below.refl _ _⟩
  case false =>
    cases b
    case true =>
      go_enter Try.func23, Try.ntmps23
      go_wp2
      go_ret2
      exact ⟨rfl, Below.refl _ _⟩
    case false =>
      have hct : c = true := by
        rcases hh with h | h | h
        · cases h
        · cases h
        · exact h
      subst hct
      clear hh
      go_enter Try.func23, Try.ntmps23
      go_wp2
      go_ret2
      exact ⟨rfl, Below.refl _ _⟩
set_option maxRecDepth 100000 in
set_option maxHeartbeats 12800000 in
theorem frenc_in (w : World) (nx : Nat) (A : Option Addr) (cap : Nat) (l : List FP) (hc : FreesAt w (.slice A l.length cap) l) (hx : nx ≤ 511) (hl : l.length ≤ 40) : Calls Try.prog 23 #[.int .i64 nx, .slice A l.length cap] w fun e w' => e = .returned (.tuple #[.string (Fr.encS nx l), .int .i64 (Fr.encE nx l)]) ∧ Below w.heap.size w w' := by
  have HC := Lib.hid hc
  have a1 : decide ((nx : Int) < 0) = false := decide_eq_false (by omega)
  have a2 : decide ((511 : Int) < (nx : Int)) = false := decide_eq_false (by omega)
  have a3 : decide ((40 : Int) < (l.length : Int)) = false := decide_eq_false (by omega)
  have N4 := fun w => Lib.hid (fr_num nx 4 4 rfl (by omega) (by omega) (by omega) (by omega) w)
  have N2 := fun w => Lib.hid (fr_num l.length 2 2 rfl (by omega) (by omega) (by omega) (by omega) w)
  have z4h := fr_beB_size nx 4
  have z2h := fr_beB_size l.length 2
  obtain ⟨H4, hH4⟩ : ∃ S, ba (beB nx 4 0) = S := ⟨_, rfl⟩
  obtain ⟨H2, hH2⟩ : ∃ S, ba (beB l.length 2 0) = S := ⟨_, rfl⟩
  simp only [hH4] at N4
  simp only [hH2] at N2
  rw [hH4] at z4h
  rw [hH2] at z2h
  have had : H4.size + H2.size ≤ 9223372036854775807 := by omega
  have HHD : Hid (H4 ++ H2 = ba (beB nx 4 0 ++ beB l.length 2 0)) := Lib.hid (by rw [← hH4, ← hH2, ba_append])
  have E30 : ∀ args w, (callFunc 31 args).run Try.prog w = .ok (.enter 31 args) w := fun args w => by kernel_rfl
  have E35 : ∀ args w, (callFunc 37 args).run Try.prog w = .ok (.enter 37 args) w := fun args w => by kernel_rfl
  obtain ⟨ES, hES⟩ : ∃ S, Fr.encS nx l = S := ⟨_, rfl⟩
  obtain ⟨EE, hEE⟩ : ∃ S, Fr.encE nx l = S := ⟨_, rfl⟩
  have BAD : Hid (¬ Fr.Piece nx l → ES = ⟨#[]⟩ ∧ EE = 4) := Lib.hid (fun h => by rw [← hES, ← hEE]; exact Fr.encS_bad h)
  have GOOD : Hid (Fr.Piece nx l → ES = ba (Fr.bytes nx l) ∧ EE = 0) := Lib.hid (fun h => by rw [← hES, ← hEE]; exact Fr.encS_good h)
  rw [hES, hEE]
  have HS0 := Lib.hid (show (H4 ++ H2).size = 6 by rw [ByteArray.size_append]; omega)
  clear hc hH4 hH2 hES hEE
  go_enter Try.func23, Try.ntmps23
  go_wp2_with fail
  refine (N4 _).out.mono ?_
  rintro _ w1 ⟨rfl, hb1⟩
  go_wp2_with fail
  refine (N2 _).out.mono ?_
  rintro _ w2 ⟨rfl, hb2⟩
  have HB2 := Lib.hid (hb1.trans (hb2.mono hb1.size))
  clear hb1 hb2 N4 N2
  go_wp2
  go_loopw [6, 7] (fun ss ii wr => ∃ (k : Nat) (S : ByteArray), k ≤ l.length ∧ ss = .string S ∧ ii = .int .i64 k ∧ Hid (S = ba ((beB nx 4 0 ++ beB l.length 2 0) ++ (l.take k).flatMap Fr.item)) ∧ Hid (∀ a (h : a < l.length), a < k → Fr.right l[a] = true) ∧ Hid (∀ b (h : b < l.length), b < k → ∀ a (hab : a < b), Fr.before (l[a]'(by omega)) l[b] = true) ∧ Below w.heap.size w wr) (fun _ ii _ => l.length - (intOf ii).toNat)
  case atStart => exact ⟨0, H4 ++ H2, by omega, rfl, rfl, Lib.hid (by rw [HHD.out]; simp), Lib.hid (fun a h ha => by omega), Lib.hid (fun b h hb => by omega), HB2.out⟩
  case round =>
    obtain ⟨k, S, hk, rfl, rfl, HS, HRt, HPw, hBr⟩ := hrel
    have hss : S.size = 6 + 12 * k := by
      rw [HS.out, ba_size, List.length_append, List.length_append, beB_length, beB_length, Fr.items_length, List.length_take]
      omega
    by_cases hkl : k < l.length
    · have t1 : decide (k < l.length) = true := decide_eq_true hkl
      obtain ⟨b, off, hA, hbl, c0, c1⟩ := (HC.out.below hBr).get k hkl
      have RC0 := fun w => frright_ok w l[k]
      obtain ⟨r, hr⟩ : ∃ r, Fr.right l[k] = r := ⟨_, rfl⟩
      simp only [hr] at RC0
      have HRK := Lib.hid hr
      have HIT := Lib.hid (Fr.bytes_snoc l k hkl)
      have HBr := Lib.hid hBr
      have i0 : (0 : Int) ≤ (k : Int) := by omega
      have i1 : (k : Int) < (l.length : Int) := by omega
      have HGET : Hid (∀ wx, Below w.heap.size w wx → b < wx.heap.size ∧ ∀ a (ha : a < l.length), wx.cell? ⟨b, off + a * 2, none⟩ = some (.int .i64 l[a].1) ∧ wx.cell? ⟨b, off + a * 2 + 1, none⟩ = some (.int .i64 l[a].2)) := Lib.hid (fun wx hwx => by
        have hg : ∀ a (ha : a < l.length), b < wx.heap.size ∧ wx.cell? ⟨b, off + a * 2, none⟩ = some (.int .i64 l[a].1) ∧ wx.cell? ⟨b, off + a * 2 + 1, none⟩ = some (.int .i64 l[a].2) := fun a ha => by
          obtain ⟨b', off', hA', hl', d0, d1⟩ := (HC.out.below hwx).get a ha
          rw [hA] at hA'
          injection hA' with h
          injection h with h1 h2
          subst h1 h2
          exact ⟨hl', d0, d1⟩
        exact ⟨(hg k hkl).1, fun a ha => (hg a ha).2⟩)
      subst hA
      obtain ⟨⟨tk, pk⟩, hxk⟩ : ∃ x, l[k] = x := ⟨_, rfl⟩
      have HXK := Lib.hid hxk
      rw [hxk] at c0 c1
      simp only [hxk] at RC0
      unfold fv at RC0
      simp only at c0 c1 RC0
      have RC := fun w => Lib.hid (RC0 w)
      clear hr hBr hxk RC0
      cases r
      · have HBD := Lib.hid (BAD.out (fun h => by have := h.right _ (List.getElem_mem hkl); rw [HRK.out] at this; cases this))
        go_wp2_with fail
        refine (RC _).out.mono ?_
        rintro _ w3 ⟨rfl, hb3⟩
        go_wp2
        go_ret2
        obtain ⟨e1, e2⟩ := HBD.out
        rw [e1, e2]
        exact ⟨rfl, HBr.out.trans (hb3.mono HBr.out.size)⟩
      · have hrk := (Fr.right_iff l[k]).1 HRK.out
        rw [HXK.out] at hrk
        simp only at hrk
        obtain ⟨tn, rfl⟩ := Int.eq_ofNat_of_zero_le hrk.1
        obtain ⟨pn, rfl⟩ := Int.eq_ofNat_of_zero_le (show 0 ≤ pk by omega)
        have N8a := fun w => fr_num tn 8 8 rfl (by omega) (by omega) (by omega) (by omega) w
        have N4a := fun w => fr_num pn 4 4 rfl (by omega) (by omega) (by omega) (by omega) w
        have z8 := fr_beB_size tn 8
        have z4 := fr_beB_size pn 4
        obtain ⟨N8, hN8⟩ : ∃ S, ba (beB tn 8 0) = S := ⟨_, rfl⟩
        obtain ⟨N4, hN4⟩ : ∃ S, ba (beB pn 4 0) = S := ⟨_, rfl⟩
        simp only [hN8] at N8a
        simp only [hN4] at N4a
        rw [hN8] at z8
        rw [hN4] at z4
        have N8b := fun w => Lib.hid (N8a w)
        have N4b := fun w => Lib.hid (N4a w)
        have HNX : Hid (S ++ N8 ++ N4 = ba ((beB nx 4 0 ++ beB l.length 2 0) ++ (l.take (k + 1)).flatMap Fr.item)) := Lib.hid (by
          rw [HS.out, HIT.out, HXK.out, ← hN8, ← hN4, ba_append, ba_append]
          unfold Fr.item
          simp only [Int.toNat_natCast, List.append_assoc])
        clear hN8 hN4 N8a N4a hrk
        go_wp2_with fail
        refine (RC _).out.mono ?_
        rintro _ w3 ⟨rfl, hb3⟩
        have HB3 := Lib.hid (HBr.out.trans (hb3.mono HBr.out.size))
        clear hb3 c0 c1
        go_wp2
        go_loopw [8] (fun jj wr2 => ∃ j : Nat, j ≤ k ∧ jj = .int .i64 j ∧ Hid (∀ a (h : a < l.length), a < j → Fr.before l[a] l[k] = true) ∧ Below w.heap.size w wr2) (fun jj _ => k - (intOf jj).toNat)
        case atStart => exact ⟨0, by omega, rfl, Lib.hid (fun a h ha => by omega), HB3.out⟩
        case round =>
          obtain ⟨j, hj, rfl, HBf, hBj⟩ := hrel
          obtain ⟨wo, rfl⟩ : ∃ wo : World, wo = wr := ⟨_, rfl⟩
          obtain ⟨hbo, hcells⟩ := HGET.out wo hBj
          obtain ⟨ck0, ck1⟩ := hcells k hkl
          rw [HXK.out] at ck0 ck1
          simp only at ck0 ck1
          have KI : Hid (∀ wS, Below wo.heap.size wo wS → wS.cell? ⟨b, off + k * 2, none⟩ = some (.int .i64 (tn : Nat)) ∧ wS.cell? ⟨b, off + k * 2 + 1, none⟩ = some (.int .i64 (pn : Nat))) := Lib.hid (fun wS hS => ⟨(hS.cell (p := ⟨b, off + k * 2, none⟩) hbo).trans ck0, (hS.cell (p := ⟨b, off + k * 2 + 1, none⟩) hbo).trans ck1⟩)
          have HBj := Lib.hid hBj
          by_cases hjk : j < k
          · have t2 : decide (j < k) = true := decide_eq_true hjk
            have hjl : j < l.length := by omega
            obtain ⟨cj0, cj1⟩ := hcells j hjl
            have LC0 := fun w => frless_ok w l[j] ((tn : Int), (pn : Int))
            have hbf : Fr.before l[j] l[k] = (Fr.less l[j] ((tn : Int), (pn : Int)) && decide (l[j].2 ≠ ((pn : Nat) : Int))) := by unfold Fr.before; rw [HXK.out]
            obtain ⟨z, hz⟩ : ∃ z, Fr.less l[j] ((tn : Int), (pn : Int)) = z := ⟨_, rfl⟩
            simp only [hz] at LC0
            rw [hz] at hbf
            obtain ⟨⟨tj, pj⟩, hxj⟩ : ∃ x, l[j] = x := ⟨_, rfl⟩
            have hpj : l[j].2 = pj := by rw [hxj]
            rw [hxj] at cj0 cj1
            simp only [hxj] at LC0
            unfold fv at LC0
            simp only at cj0 cj1 LC0
            rw [hpj] at hbf
            have KJ : Hid (∀ wS, Below wo.heap.size wo wS → wS.cell? ⟨b, off + j * 2, none⟩ = some (.int .i64 tj) ∧ wS.cell? ⟨b, off + j * 2 + 1, none⟩ = some (.int .i64 pj)) := Lib.hid (fun wS hS => ⟨(hS.cell (p := ⟨b, off + j * 2, none⟩) hbo).trans cj0, (hS.cell (p := ⟨b, off + j * 2 + 1, none⟩) hbo).trans cj1⟩)
            have LC : Hid (∀ wS, Below wo.heap.size wo wS → Calls Try.prog 31 #[.agg #[.int .i64 tj, .int .i64 pj], .agg #[.int .i64 (tn : Nat), .int .i64 (pn : Nat)]] wS fun e w' => e = .returned (.bool z) ∧ Below wo.heap.size wo w') := Lib.hid (fun wS hS => (LC0 wS).mono fun _ _ ⟨e, hb⟩ => ⟨e, hS.trans (hb.mono hS.size)⟩)
            have j0 : (0 : Int) ≤ (j : Int) := by omega
            have j1 : (j : Int) < (l.length : Int) := by omega
            have HBD : Hid (Fr.before l[j] l[k] = false → ES = ⟨#[]⟩ ∧ EE = 4) := Lib.hid (fun hf => BAD.out (fun h => by
              have := List.pairwise_iff_getElem.1 h.rise j k hjl hkl hjk
              rw [hf] at this
              cases this))
            by_cases hpp : pj = (pn : Int)
            · have d1 : (pj == ((pn : Nat) : Int)) = true := by rw [beq_iff_eq]; exact hpp
              have HB4 := Lib.hid (HBD.out (by rw [hbf, hpp]; simp))
              clear hcells hBj hz hxj hpj hbf LC0 hpp cj0 cj1 ck0 ck1
              go_upto_region 12 with fail
              refine region_qh (C := fun w' => Below wo.heap.size wo w') (by kernel_rfl) (by kernel_rfl) ((Below.refl _ wo).drew) ?_
              refine qh_op (.slice (some ⟨b, off, none⟩) l.length cap) rfl (fun wS hSw => by go_simp; try with_reducible rfl) ?_
              simp only [Act.put, List.setIfInBounds_toArray, List.set_cons_zero, List.set_cons_succ]
              refine qh_op (.int .i64 j) rfl (fun wS hSw => by go_simp; try with_reducible rfl) ?_
              simp only [Act.put, List.setIfInBounds_toArray, List.set_cons_zero, List.set_cons_succ]
              refine qh_op (.pointer (some ⟨b, off + j * 2, none⟩)) rfl (fun wS hSw => by go_simp; try with_reducible rfl) ?_
              simp only [Act.put, List.setIfInBounds_toArray, List.set_cons_zero, List.set_cons_succ]
              refine qh_op (.pointer (some ⟨b, off + j * 2 + 1, none⟩)) rfl (fun wS hSw => by go_simp; try with_reducible rfl) ?_
              simp only [Act.put, List.setIfInBounds_toArray, List.set_cons_zero, List.set_cons_succ]
              refine qh_op (.int .i64 pj) rfl (fun wS hSw => by obtain ⟨kj0, kj1⟩ := KJ.out wS hSw; go_simp; try with_reducible rfl) ?_
              simp only [Act.put, List.setIfInBounds_toArray, List.set_cons_zero, List.set_cons_succ]
              refine qh_op (.slice (some ⟨b, off, none⟩) l.length cap) rfl (fun wS hSw => by go_simp; try with_reducible rfl) ?_
              simp only [Act.put, List.setIfInBounds_toArray, List.set_cons_zero, List.set_cons_succ]
              refine qh_op (.int .i64 k) rfl (fun wS hSw => by go_simp; try with_reducible rfl) ?_
              simp only [Act.put, List.setIfInBounds_toArray, List.set_cons_zero, List.set_cons_succ]
              refine qh_op (.pointer (some ⟨b, off + k * 2, none⟩)) rfl (fun wS hSw => by go_simp; try with_reducible rfl) ?_
              simp only [Act.put, List.setIfInBounds_toArray, List.set_cons_zero, List.set_cons_succ]
              refine qh_op (.pointer (some ⟨b, off + k * 2 + 1, none⟩)) rfl (fun wS hSw => by go_simp; try with_reducible rfl) ?_
              simp only [Act.put, List.setIfInBounds_toArray, List.set_cons_zero, List.set_cons_succ]
              refine qh_op (.int .i64 (pn : Nat)) rfl (fun wS hSw => by obtain ⟨ki0, ki1⟩ := KI.out wS hSw; go_simp; try with_reducible rfl) ?_
              simp only [Act.put, List.setIfInBounds_toArray, List.set_cons_zero, List.set_cons_succ]
              refine qh_op (.bool true) rfl (fun wS hSw => by go_simp; try with_reducible rfl) ?_
              simp only [Act.put, List.setIfInBounds_toArray, List.set_cons_zero, List.set_cons_succ]
              refine qh_op (.bool true) rfl (fun wS hSw => by go_simp; try with_reducible rfl) ?_
              simp only [Act.put, List.setIfInBounds_toArray, List.set_cons_zero, List.set_cons_succ]
              refine qh_skip (by rfl) ?_
              simp only [Act.put, List.setIfInBounds_toArray, List.set_cons_zero, List.set_cons_succ]
              refine qh_skip (by rfl) ?_
              simp only [Act.put, List.setIfInBounds_toArray, List.set_cons_zero, List.set_cons_succ]
              refine qh_skip (by rfl) ?_
              simp only [Act.put, List.setIfInBounds_toArray, List.set_cons_zero, List.set_cons_succ]
              refine qh_skip (by rfl) ?_
              simp only [Act.put, List.setIfInBounds_toArray, List.set_cons_zero, List.set_cons_succ]
              refine qh_skip (by rfl) ?_
              simp only [Act.put, List.setIfInBounds_toArray, List.set_cons_zero, List.set_cons_succ]
              refine qh_skip (by rfl) ?_
              simp only [Act.put, List.setIfInBounds_toArray, List.set_cons_zero, List.set_cons_succ]
              refine qh_skip (by rfl) ?_
              simp only [Act.put, List.setIfInBounds_toArray, List.set_cons_zero, List.set_cons_succ]
              refine qh_skip (by rfl) ?_
              simp only [Act.put, List.setIfInBounds_toArray, List.set_cons_zero, List.set_cons_succ]
              refine qh_skip (by rfl) ?_
              simp only [Act.put, List.setIfInBounds_toArray, List.set_cons_zero, List.set_cons_succ]
              refine qh_skip (by rfl) ?_
              simp only [Act.put, List.setIfInBounds_toArray, List.set_cons_zero, List.set_cons_succ]
              refine qh_op (.bool true) rfl (fun wS hSw => by go_simp; try with_reducible rfl) ?_
              simp only [Act.put, List.setIfInBounds_toArray, List.set_cons_zero, List.set_cons_succ]
              refine qh_nil ⟨?_⟩
              intro wE hE
              go_wp2
              go_ret2
              obtain ⟨e1, e2⟩ := HB4.out
              rw [e1, e2]
              exact ⟨rfl, HBj.out.trans (hE.mono HBj.out.size)⟩
            · have d1 : (pj == ((pn : Nat) : Int)) = false := by rw [beq_eq_false_iff_ne]; exact hpp
              cases z
              · have HB4 := Lib.hid (HBD.out (by rw [hbf]; simp))
                clear hcells hBj hz hxj hpj hbf LC0 hpp cj0 cj1 ck0 ck1
                go_upto_region 12 with fail
                refine region_qh (C := fun w' => Below wo.heap.size wo w') (by kernel_rfl) (by kernel_rfl) ((Below.refl _ wo).drew) ?_
                refine qh_op (.slice (some ⟨b, off, none⟩) l.length cap) rfl (fun wS hSw => by go_simp; try with_reducible rfl) ?_
                simp only [Act.put, List.setIfInBounds_toArray, List.set_cons_zero, List.set_cons_succ]
                refine qh_op (.int .i64 j) rfl (fun wS hSw => by go_simp; try with_reducible rfl) ?_
                simp only [Act.put, List.setIfInBounds_toArray, List.set_cons_zero, List.set_cons_succ]
                refine qh_op (.pointer (some ⟨b, off + j * 2, none⟩)) rfl (fun wS hSw => by go_simp; try with_reducible rfl) ?_
                simp only [Act.put, List.setIfInBounds_toArray, List.set_cons_zero, List.set_cons_succ]
                refine qh_op (.pointer (some ⟨b, off + j * 2 + 1, none⟩)) rfl (fun wS hSw => by go_simp; try with_reducible rfl) ?_
                simp only [Act.put, List.setIfInBounds_toArray, List.set_cons_zero, List.set_cons_succ]
                refine qh_op (.int .i64 pj) rfl (fun wS hSw => by obtain ⟨kj0, kj1⟩ := KJ.out wS hSw; go_simp; try with_reducible rfl) ?_
                simp only [Act.put, List.setIfInBounds_toArray, List.set_cons_zero, List.set_cons_succ]
                refine qh_op (.slice (some ⟨b, off, none⟩) l.length cap) rfl (fun wS hSw => by go_simp; try with_reducible rfl) ?_
                simp only [Act.put, List.setIfInBounds_toArray, List.set_cons_zero, List.set_cons_succ]
                refine qh_op (.int .i64 k) rfl (fun wS hSw => by go_simp; try with_reducible rfl) ?_
                simp only [Act.put, List.setIfInBounds_toArray, List.set_cons_zero, List.set_cons_succ]
                refine qh_op (.pointer (some ⟨b, off + k * 2, none⟩)) rfl (fun wS hSw => by go_simp; try with_reducible rfl) ?_
                simp only [Act.put, List.setIfInBounds_toArray, List.set_cons_zero, List.set_cons_succ]
                refine qh_op (.pointer (some ⟨b, off + k * 2 + 1, none⟩)) rfl (fun wS hSw => by go_simp; try with_reducible rfl) ?_
                simp only [Act.put, List.setIfInBounds_toArray, List.set_cons_zero, List.set_cons_succ]
                refine qh_op (.int .i64 (pn : Nat)) rfl (fun wS hSw => by obtain ⟨ki0, ki1⟩ := KI.out wS hSw; go_simp; try with_reducible rfl) ?_
                simp only [Act.put, List.setIfInBounds_toArray, List.set_cons_zero, List.set_cons_succ]
                refine qh_op (.bool false) rfl (fun wS hSw => by go_simp; try with_reducible rfl) ?_
                simp only [Act.put, List.setIfInBounds_toArray, List.set_cons_zero, List.set_cons_succ]
                refine qh_op (.bool false) rfl (fun wS hSw => by go_simp; try with_reducible rfl) ?_
                simp only [Act.put, List.setIfInBounds_toArray, List.set_cons_zero, List.set_cons_succ]
                refine qh_opw (.slice (some ⟨b, off, none⟩) l.length cap) (by rfl) (fun wS hSw => by go_simp; try with_reducible rfl) ?_
                simp only [Act.put, List.setIfInBounds_toArray, List.set_cons_zero, List.set_cons_succ]
                refine qh_opw (.int .i64 j) (by rfl) (fun wS hSw => by go_simp; try with_reducible rfl) ?_
                simp only [Act.put, List.setIfInBounds_toArray, List.set_cons_zero, List.set_cons_succ]
                refine qh_opw (.pointer (some ⟨b, off + j * 2, none⟩)) (by rfl) (fun wS hSw => by go_simp; try with_reducible rfl) ?_
                simp only [Act.put, List.setIfInBounds_toArray, List.set_cons_zero, List.set_cons_succ]
                refine qh_opw (.agg #[.int .i64 tj, .int .i64 pj]) (by rfl) (fun wS hSw => by obtain ⟨kj0, kj1⟩ := KJ.out wS hSw; go_simp; try with_reducible rfl) ?_
                simp only [Act.put, List.setIfInBounds_toArray, List.set_cons_zero, List.set_cons_succ]
                refine qh_opw (.slice (some ⟨b, off, none⟩) l.length cap) (by rfl) (fun wS hSw => by go_simp; try with_reducible rfl) ?_
                simp only [Act.put, List.setIfInBounds_toArray, List.set_cons_zero, List.set_cons_succ]
                refine qh_opw (.int .i64 k) (by rfl) (fun wS hSw => by go_simp; try with_reducible rfl) ?_
                simp only [Act.put, List.setIfInBounds_toArray, List.set_cons_zero, List.set_cons_succ]
                refine qh_opw (.pointer (some ⟨b, off + k * 2, none⟩)) (by rfl) (fun wS hSw => by go_simp; try with_reducible rfl) ?_
                simp only [Act.put, List.setIfInBounds_toArray, List.set_cons_zero, List.set_cons_succ]
                refine qh_opw (.agg #[.int .i64 (tn : Nat), .int .i64 (pn : Nat)]) (by rfl) (fun wS hSw => by obtain ⟨ki0, ki1⟩ := KI.out wS hSw; go_simp; try with_reducible rfl) ?_
                simp only [Act.put, List.setIfInBounds_toArray, List.set_cons_zero, List.set_cons_succ]
                refine qh_call2w (.bool false) (by rfl) 31 _ _ _ rfl (.agg #[.int .i64 tj, .int .i64 pj]) (.agg #[.int .i64 (tn : Nat), .int .i64 (pn : Nat)]) (by rfl) (by rfl) E30 (fun wS hSw => LC.out wS hSw) ?_
                simp only [Act.put, List.setIfInBounds_toArray, List.set_cons_zero, List.set_cons_succ]
                refine qh_opw (.bool true) (by rfl) (fun wS hSw => by go_simp; try with_reducible rfl) ?_
                simp only [Act.put, List.setIfInBounds_toArray, List.set_cons_zero, List.set_cons_succ]
                refine qh_op (.bool true) rfl (fun wS hSw => by go_simp; try with_reducible rfl) ?_
                simp only [Act.put, List.setIfInBounds_toArray, List.set_cons_zero, List.set_cons_succ]
                refine qh_nil ⟨?_⟩
                intro wE hE
                go_wp2
                go_ret2
                obtain ⟨e1, e2⟩ := HB4.out
                rw [e1, e2]
                exact ⟨rfl, HBj.out.trans (hE.mono HBj.out.size)⟩
              · have HBf2 : Hid (∀ a (h : a < l.length), a < j + 1 → Fr.before l[a] l[k] = true) := Lib.hid (fun a h ha => by
                  by_cases e : a = j
                  · subst e; rw [hbf]; simpa using hpp
                  · exact HBf.out a h (by omega))
                clear hcells hBj hz hxj hpj hbf LC0 hpp cj0 cj1 ck0 ck1
                go_upto_region 12 with fail
                refine region_qh (C := fun w' => Below wo.heap.size wo w') (by kernel_rfl) (by kernel_rfl) ((Below.refl _ wo).drew) ?_
                refine qh_op (.slice (some ⟨b, off, none⟩) l.length cap) rfl (fun wS hSw => by go_simp; try with_reducible rfl) ?_
                simp only [Act.put, List.setIfInBounds_toArray, List.set_cons_zero, List.set_cons_succ]
                refine qh_op (.int .i64 j) rfl (fun wS hSw => by go_simp; try with_reducible rfl) ?_
                simp only [Act.put, List.setIfInBounds_toArray, List.set_cons_zero, List.set_cons_succ]
                refine qh_op (.pointer (some ⟨b, off + j * 2, none⟩)) rfl (fun wS hSw => by go_simp; try with_reducible rfl) ?_
                simp only [Act.put, List.setIfInBounds_toArray, List.set_cons_zero, List.set_cons_succ]
                refine qh_op (.pointer (some ⟨b, off + j * 2 + 1, none⟩)) rfl (fun wS hSw => by go_simp; try with_reducible rfl) ?_
                simp only [Act.put, List.setIfInBounds_toArray, List.set_cons_zero, List.set_cons_succ]
                refine qh_op (.int .i64 pj) rfl (fun wS hSw => by obtain ⟨kj0, kj1⟩ := KJ.out wS hSw; go_simp; try with_reducible rfl) ?_
                simp only [Act.put, List.setIfInBounds_toArray, List.set_cons_zero, List.set_cons_succ]
                refine qh_op (.slice (some ⟨b, off, none⟩) l.length cap) rfl (fun wS hSw => by go_simp; try with_reducible rfl) ?_
                simp only [Act.put, List.setIfInBounds_toArray, List.set_cons_zero, List.set_cons_succ]
                refine qh_op (.int .i64 k) rfl (fun wS hSw => by go_simp; try with_reducible rfl) ?_
                simp only [Act.put, List.setIfInBounds_toArray, List.set_cons_zero, List.set_cons_succ]
                refine qh_op (.pointer (some ⟨b, off + k * 2, none⟩)) rfl (fun wS hSw => by go_simp; try with_reducible rfl) ?_
                simp only [Act.put, List.setIfInBounds_toArray, List.set_cons_zero, List.set_cons_succ]
                refine qh_op (.pointer (some ⟨b, off + k * 2 + 1, none⟩)) rfl (fun wS hSw => by go_simp; try with_reducible rfl) ?_
                simp only [Act.put, List.setIfInBounds_toArray, List.set_cons_zero, List.set_cons_succ]
                refine qh_op (.int .i64 (pn : Nat)) rfl (fun wS hSw => by obtain ⟨ki0, ki1⟩ := KI.out wS hSw; go_simp; try with_reducible rfl) ?_
                simp only [Act.put, List.setIfInBounds_toArray, List.set_cons_zero, List.set_cons_succ]
                refine qh_op (.bool false) rfl (fun wS hSw => by go_simp; try with_reducible rfl) ?_
                simp only [Act.put, List.setIfInBounds_toArray, List.set_cons_zero, List.set_cons_succ]
                refine qh_op (.bool false) rfl (fun wS hSw => by go_simp; try with_reducible rfl) ?_
                simp only [Act.put, List.setIfInBounds_toArray, List.set_cons_zero, List.set_cons_succ]
                refine qh_opw (.slice (some ⟨b, off, none⟩) l.length cap) (by rfl) (fun wS hSw => by go_simp; try with_reducible rfl) ?_
                simp only [Act.put, List.setIfInBounds_toArray, List.set_cons_zero, List.set_cons_succ]
                refine qh_opw (.int .i64 j) (by rfl) (fun wS hSw => by go_simp; try with_reducible rfl) ?_
                simp only [Act.put, List.setIfInBounds_toArray, List.set_cons_zero, List.set_cons_succ]
                refine qh_opw (.pointer (some ⟨b, off + j * 2, none⟩)) (by rfl) (fun wS hSw => by go_simp; try with_reducible rfl) ?_
                simp only [Act.put, List.setIfInBounds_toArray, List.set_cons_zero, List.set_cons_succ]
                refine qh_opw (.agg #[.int .i64 tj, .int .i64 pj]) (by rfl) (fun wS hSw => by obtain ⟨kj0, kj1⟩ := KJ.out wS hSw; go_simp; try with_reducible rfl) ?_
                simp only [Act.put, List.setIfInBounds_toArray, List.set_cons_zero, List.set_cons_succ]
                refine qh_opw (.slice (some ⟨b, off, none⟩) l.length cap) (by rfl) (fun wS hSw => by go_simp; try with_reducible rfl) ?_
                simp only [Act.put, List.setIfInBounds_toArray, List.set_cons_zero, List.set_cons_succ]
                refine qh_opw (.int .i64 k) (by rfl) (fun wS hSw => by go_simp; try with_reducible rfl) ?_
                simp only [Act.put, List.setIfInBounds_toArray, List.set_cons_zero, List.set_cons_succ]
                refine qh_opw (.pointer (some ⟨b, off + k * 2, none⟩)) (by rfl) (fun wS hSw => by go_simp; try with_reducible rfl) ?_
                simp only [Act.put, List.setIfInBounds_toArray, List.set_cons_zero, List.set_cons_succ]
                refine qh_opw (.agg #[.int .i64 (tn : Nat), .int .i64 (pn : Nat)]) (by rfl) (fun wS hSw => by obtain ⟨ki0, ki1⟩ := KI.out wS hSw; go_simp; try with_reducible rfl) ?_
                simp only [Act.put, List.setIfInBounds_toArray, List.set_cons_zero, List.set_cons_succ]
                refine qh_call2w (.bool true) (by rfl) 31 _ _ _ rfl (.agg #[.int .i64 tj, .int .i64 pj]) (.agg #[.int .i64 (tn : Nat), .int .i64 (pn : Nat)]) (by rfl) (by rfl) E30 (fun wS hSw => LC.out wS hSw) ?_
                simp only [Act.put, List.setIfInBounds_toArray, List.set_cons_zero, List.set_cons_succ]
                refine qh_opw (.bool false) (by rfl) (fun wS hSw => by go_simp; try with_reducible rfl) ?_
                simp only [Act.put, List.setIfInBounds_toArray, List.set_cons_zero, List.set_cons_succ]
                refine qh_op (.bool false) rfl (fun wS hSw => by go_simp; try with_reducible rfl) ?_
                simp only [Act.put, List.setIfInBounds_toArray, List.set_cons_zero, List.set_cons_succ]
                refine qh_nil ⟨?_⟩
                intro wE hE
                go_wp2
                go_roundw
                case rel => exact ⟨j + 1, by omega, by go_num, HBf2, HBj.out.trans (hE.mono HBj.out.size)⟩
                case measure => simp [intOf]; omega
          · obtain rfl : j = k := by omega
            have t2 : decide (j < j) = false := decide_eq_false (by omega)
            have N8C : Hid (∀ wS, Below wo.heap.size wo wS → Calls Try.prog 37 #[.int .i64 (tn : Nat), .int .i64 8] wS fun e w' => e = .returned (.string N8) ∧ Below wo.heap.size wo w') := Lib.hid (fun wS hS => (N8b wS).out.mono fun _ _ ⟨e, hb⟩ => ⟨e, hS.trans (hb.mono hS.size)⟩)
            have N4C : Hid (∀ wS, Below wo.heap.size wo wS → Calls Try.prog 37 #[.int .i64 (pn : Nat), .int .i64 4] wS fun e w' => e = .returned (.string N4) ∧ Below wo.heap.size wo w') := Lib.hid (fun wS hS => (N4b wS).out.mono fun _ _ ⟨e, hb⟩ => ⟨e, hS.trans (hb.mono hS.size)⟩)
            have HRt2 : Hid (∀ a (h : a < l.length), a < j + 1 → Fr.right l[a] = true) := Lib.hid (fun a h ha => by
              by_cases e : a = j
              · subst e; exact HRK.out
              · exact HRt.out a h (by omega))
            have HPw2 : Hid (∀ b (h : b < l.length), b < j + 1 → ∀ a (hab : a < b), Fr.before (l[a]'(by omega)) l[b] = true) := Lib.hid (fun b h hb a hab => by
              by_cases e : b = j
              · subst e; exact HBf.out a (by omega) hab
              · exact HPw.out b h (by omega) a hab)
            clear hcells hBj ck0 ck1
            go_upto_region 14 with fail
            refine region_qh (C := fun w' => Below wo.heap.size wo w') (by kernel_rfl) (by kernel_rfl) ((Below.refl _ wo).drew) ?_
            refine qh_op (.string S) rfl (fun wS hSw => by go_simp; try with_reducible rfl) ?_
            simp only [Act.put, List.setIfInBounds_toArray, List.set_cons_zero, List.set_cons_succ]
            refine qh_op (.slice (some ⟨b, off, none⟩) l.length cap) rfl (fun wS hSw => by go_simp; try with_reducible rfl) ?_
            simp only [Act.put, List.setIfInBounds_toArray, List.set_cons_zero, List.set_cons_succ]
            refine qh_op (.int .i64 j) rfl (fun wS hSw => by go_simp; try with_reducible rfl) ?_
            simp only [Act.put, List.setIfInBounds_toArray, List.set_cons_zero, List.set_cons_succ]
            refine qh_op (.pointer (some ⟨b, off + j * 2, none⟩)) rfl (fun wS hSw => by go_simp; try with_reducible rfl) ?_
            simp only [Act.put, List.setIfInBounds_toArray, List.set_cons_zero, List.set_cons_succ]
            refine qh_op (.pointer (some ⟨b, off + j * 2, none⟩)) rfl (fun wS hSw => by go_simp; try with_reducible rfl) ?_
            simp only [Act.put, List.setIfInBounds_toArray, List.set_cons_zero, List.set_cons_succ]
            refine qh_op (.int .i64 (tn : Nat)) rfl (fun wS hSw => by obtain ⟨ki0, ki1⟩ := KI.out wS hSw; go_simp; try with_reducible rfl) ?_
            simp only [Act.put, List.setIfInBounds_toArray, List.set_cons_zero, List.set_cons_succ]
            refine qh_call2 (.string N8) rfl 37 _ _ _ rfl (.int .i64 (tn : Nat)) (.int .i64 8) (by rfl) (by rfl) E35 (fun wS hSw => N8C.out wS hSw) ?_
            simp only [Act.put, List.setIfInBounds_toArray, List.set_cons_zero, List.set_cons_succ]
            refine qh_add rfl 9 _ _ rfl (S) (N8) (by rfl) (by rfl) (by rw [z8]; omega) ?_
            simp only [Act.put, List.setIfInBounds_toArray, List.set_cons_zero, List.set_cons_succ]
            refine qh_op (.slice (some ⟨b, off, none⟩) l.length cap) rfl (fun wS hSw => by go_simp; try with_reducible rfl) ?_
            simp only [Act.put, List.setIfInBounds_toArray, List.set_cons_zero, List.set_cons_succ]
            refine qh_op (.int .i64 j) rfl (fun wS hSw => by go_simp; try with_reducible rfl) ?_
            simp only [Act.put, List.setIfInBounds_toArray, List.set_cons_zero, List.set_cons_succ]
            refine qh_op (.pointer (some ⟨b, off + j * 2, none⟩)) rfl (fun wS hSw => by go_simp; try with_reducible rfl) ?_
            simp only [Act.put, List.setIfInBounds_toArray, List.set_cons_zero, List.set_cons_succ]
            refine qh_op (.pointer (some ⟨b, off + j * 2 + 1, none⟩)) rfl (fun wS hSw => by go_simp; try with_reducible rfl) ?_
            simp only [Act.put, List.setIfInBounds_toArray, List.set_cons_zero, List.set_cons_succ]
            refine qh_op (.int .i64 (pn : Nat)) rfl (fun wS hSw => by obtain ⟨ki0, ki1⟩ := KI.out wS hSw; go_simp; try with_reducible rfl) ?_
            simp only [Act.put, List.setIfInBounds_toArray, List.set_cons_zero, List.set_cons_succ]
            refine qh_call2 (.string N4) rfl 37 _ _ _ rfl (.int .i64 (pn : Nat)) (.int .i64 4) (by rfl) (by rfl) E35 (fun wS hSw => N4C.out wS hSw) ?_
            simp only [Act.put, List.setIfInBounds_toArray, List.set_cons_zero, List.set_cons_succ]
            refine qh_add rfl 9 _ _ rfl (S ++ N8) (N4) (by rfl) (by rfl) (by rw [ByteArray.size_append, z8, z4]; omega) ?_
            simp only [Act.put, List.setIfInBounds_toArray, List.set_cons_zero, List.set_cons_succ]
            refine qh_op (.string (S ++ N8 ++ N4)) rfl (fun wS hSw => by go_simp; try with_reducible rfl) ?_
            simp only [Act.put, List.setIfInBounds_toArray, List.set_cons_zero, List.set_cons_succ]
            refine qh_nil ⟨?_⟩
            intro wE hE
            go_wp2
            go_roundw
            case rel => exact ⟨j + 1, S ++ N8 ++ N4, by omega, rfl, by go_num, HNX, HRt2, HPw2, HBj.out.trans (hE.mono HBj.out.size)⟩
            case measure => simp [intOf]; omega
    · obtain rfl : k = l.length := by omega
      have t1 : decide (l.length < l.length) = false := decide_eq_false (by omega)
      have HG := Lib.hid (GOOD.out ⟨by omega, by omega, hl, fun f hf => by
        obtain ⟨a, ha, rfl⟩ := List.getElem_of_mem hf
        exact HRt.out a ha ha, List.pairwise_iff_getElem.2 (fun a b ha hb hab => HPw.out b hb hb a hab)⟩)
      have HSE : Hid (S = ba (Fr.bytes nx l)) := Lib.hid (by
        rw [HS.out, List.take_length]
        unfold Fr.bytes
        rw [Int.toNat_natCast, List.append_assoc])
      have HBr := Lib.hid hBr
      clear hBr
      go_wp2
      go_ret2
      obtain ⟨e1, e2⟩ := HG.out
      rw [e1, e2, ← HSE.out]
      exact ⟨rfl, HBr.out⟩
theorem frenc_ok (w : World) (next : Int) (v : Value) (l : List FP) (hc : FreesAt w v l) : Calls Try.prog 23 #[.int .i64 next, v] w fun e w' => e = .returned (.tuple #[.string (Fr.encS next l), .int .i64 (Fr.encE next l)]) ∧ Below w.heap.size w w' := by
  obtain ⟨A, cap, rfl, _, _⟩ := hc.form
  by_cases h : next < 0 ∨ 511 < next ∨ 40 < l.length
  · obtain ⟨e1, e2⟩ := Fr.encS_bad (next := next) (l := l) (fun hp => by
      have := hp.lo
      have := hp.hi
      have := hp.few
      omega)
    rw [e1, e2]
    exact frenc_bad w next A l.length cap h
  · obtain ⟨nx, rfl⟩ := Int.eq_ofNat_of_zero_le (show 0 ≤ next by omega)
    exact frenc_in w nx A cap l hc (by omega) (by omega)
end Go.Proofs.Ytjgndgcegenikaa
