/-
  Contracts of field.Compare (over the library's Compare of slices and of texts) and of the reference's Compare: what each call answers, and that nothing that was in memory before has changed. Conditions: texts of at most 9000 bytes.
-/
import Derived.Test.YtkbhjpgadhbakaaLess
import Derived.Test.YtkbhjpgadhbakaaParts1
import Derived.WalkLawsBesides
namespace Go.Proofs.Ytkbhjpgadhbakaa
open Go.RowKit

theorem cmpL_facts (a b : List UInt8) : (cmpL a b = -1 ∧ Op.bytesLess a b = true ∧ a ≠ b) ∨ (cmpL a b = 0 ∧ Op.bytesLess a b = false ∧ a = b) ∨ (cmpL a b = 1 ∧ Op.bytesLess a b = false ∧ a ≠ b) := by
  induction a generalizing b with
  | nil =>
    cases b with
    | nil => right; left; exact ⟨rfl, rfl, rfl⟩
    | cons y b => left; exact ⟨rfl, rfl, by simp⟩
  | cons x a ih =>
    cases b with
    | nil => right; right; exact ⟨rfl, rfl, by simp⟩
    | cons y b =>
      by_cases h1 : x < y
      · left
        refine ⟨by simp only [cmpL, if_pos h1], by simp [Op.bytesLess, h1], ?_⟩
        rintro e
        injection e with e _
        subst e
        rw [UInt8.lt_iff_toNat_lt] at h1
        omega
      · by_cases h2 : y < x
        · right; right
          have hne : ¬ x = y := by
            rintro rfl
            rw [UInt8.lt_iff_toNat_lt] at h2
            omega
          refine ⟨by simp only [cmpL, if_neg h1, if_pos h2], by simp [Op.bytesLess, h1, hne], ?_⟩
          rintro e
          injection e with e _
          exact hne e
        · have e : x = y := by
            rw [UInt8.lt_iff_toNat_lt] at h1 h2
            apply UInt8.toNat_inj.1
            omega
          subst e
          have hc : cmpL (x :: a) (x :: b) = cmpL a b := by simp only [cmpL, if_neg h1]
          have hb : Op.bytesLess (x :: a) (x :: b) = Op.bytesLess a b := by simp [Op.bytesLess, h1]
          rw [hc, hb]
          rcases ih b with ⟨i1, i2, i3⟩ | ⟨i1, i2, i3⟩ | ⟨i1, i2, i3⟩
          · exact .inl ⟨i1, i2, by simpa using i3⟩
          · exact .inr (.inl ⟨i1, i2, by rw [i3]⟩)
          · exact .inr (.inr ⟨i1, i2, by simpa using i3⟩)

theorem isNaN_any (a : ByteArray) (w : World) : Calls Try.prog 35 #[.string a] w fun e w' => e = .returned (.bool false) ∧ w = w' := by
  go_enter Try.func35, Try.ntmps35
  go_wp2
  go_ret
  exact ⟨by simp, rfl⟩
theorem comp_any (a b : ByteArray) (w : World) : Calls Try.prog 34 #[.string a, .string b] w fun e w' => e = .returned (.int .i64 (cmpL a.data.toList b.data.toList)) ∧ w = w' := by
  have ea : a.toList = a.data.toList := ByteArray.toList_eq a
  have eb : b.toList = b.data.toList := ByteArray.toList_eq b
  rcases cmpL_facts a.data.toList b.data.toList with ⟨h1, h2, h3⟩ | ⟨h1, h2, h3⟩ | ⟨h1, h2, h3⟩
  · have d1 : Op.bytesLess a.toList b.toList = true := by rw [ea, eb]; exact h2
    have H1 := Lib.hid h1
    clear ea eb h1 h2 h3
    go_enter Try.func34, Try.ntmps34
    go_wp2_with fail
    refine (isNaN_any a _).mono ?_
    rintro _ _ ⟨rfl, rfl⟩
    go_wp2_with fail
    refine (isNaN_any b _).mono ?_
    rintro _ _ ⟨rfl, rfl⟩
    go_wp2
    go_ret
    exact ⟨ret_int H1.out.symm, rfl⟩
  · have d1 : Op.bytesLess a.toList b.toList = false := by rw [ea, eb]; exact h2
    have d2 : (a.toList == b.toList) = true := by rw [ea, eb, h3]; simp
    have H1 := Lib.hid h1
    clear ea eb h1 h2 h3
    go_enter Try.func34, Try.ntmps34
    go_wp2_with fail
    refine (isNaN_any a _).mono ?_
    rintro _ _ ⟨rfl, rfl⟩
    go_wp2_with fail
    refine (isNaN_any b _).mono ?_
    rintro _ _ ⟨rfl, rfl⟩
    go_wp2
    go_ret
    exact ⟨ret_int H1.out.symm, rfl⟩
  · have d1 : Op.bytesLess a.toList b.toList = false := by rw [ea, eb]; exact h2
    have d2 : (a.toList == b.toList) = false := by rw [ea, eb]; simpa using h3
    have H1 := Lib.hid h1
    clear ea eb h1 h2 h3
    go_enter Try.func34, Try.ntmps34
    go_wp2_with fail
    refine (isNaN_any a _).mono ?_
    rintro _ _ ⟨rfl, rfl⟩
    go_wp2_with fail
    refine (isNaN_any b _).mono ?_
    rintro _ _ ⟨rfl, rfl⟩
    go_wp2
    go_ret
    exact ⟨ret_int H1.out.symm, rfl⟩

/-- two lists of texts, part by part -/
def cmpS : List ByteArray → List ByteArray → Int
  | [], [] => 0
  | [], _ :: _ => -1
  | _ :: _, [] => 1
  | x :: a, y :: b => if cmpL x.data.toList y.data.toList = 0 then cmpS a b else cmpL x.data.toList y.data.toList
theorem cmpS_at (L M : List ByteArray) (k : Nat) (hL : k < L.length) (hM : k < M.length) : cmpS (L.drop k) (M.drop k) =
    if cmpL L[k].data.toList M[k].data.toList = 0 then cmpS (L.drop (k + 1)) (M.drop (k + 1)) else cmpL L[k].data.toList M[k].data.toList := by
  rw [List.drop_eq_getElem_cons hL, List.drop_eq_getElem_cons hM]
  rfl
theorem cmpS_end1 (L M : List ByteArray) (k : Nat) (hL : k < L.length) (hM : M.length ≤ k) : cmpS (L.drop k) (M.drop k) = 1 := by
  rw [List.drop_eq_getElem_cons hL, List.drop_of_length_le hM]
  rfl
theorem cmpS_end2 (L M : List ByteArray) (k : Nat) (hL : L.length ≤ k) (hM : k < M.length) : cmpS (L.drop k) (M.drop k) = -1 := by
  rw [List.drop_eq_getElem_cons hM, List.drop_of_length_le hL]
  rfl
theorem cmpS_end3 (L M : List ByteArray) (k : Nat) (hL : L.length ≤ k) (hM : M.length ≤ k) : cmpS (L.drop k) (M.drop k) = 0 := by
  rw [List.drop_of_length_le hM, List.drop_of_length_le hL]
  rfl

/-- a list's text can be read at a place of it: what a loop over it asks -/
theorem Reads.at_ {w : World} {A : Option Addr} {L : List ByteArray} (h : Reads w A L) {k : Nat} (hk : k < L.length) : ∃ b off, A = some ⟨b, off, none⟩ ∧ b < w.heap.size ∧ StrsAt w b off L := by
  rcases h with rfl | h
  · simp at hk
  · exact h

set_option maxHeartbeats 1600000 in
theorem compare33 (A B : Option Addr) (c d : Nat) (L M : List ByteArray) (hL : L.length ≤ 40) (hM : M.length ≤ 40) (w : World) (hA : Reads w A L) (hB : Reads w B M) :
    Calls Try.prog 33 #[.slice A L.length c, .slice B M.length d] w fun e w' => e = .returned (.int .i64 (cmpS L M)) ∧ w = w' := by
  have HA := Lib.hid hA
  have HB := Lib.hid hB
  clear hA hB
  go_enter Try.func33, Try.ntmps33
  go_wp2
  go_loop [11] (fun i => ∃ k : Nat, k ≤ L.length ∧ k ≤ M.length ∧ i = .int .i64 k ∧ Hid (cmpS (L.drop k) (M.drop k) = cmpS L M)) (fun i => L.length - (intOf i).toNat)
  case atStart => exact ⟨0, by omega, by omega, rfl, Lib.hid rfl⟩
  case round =>
    obtain ⟨k, hkL, hkM, rfl, hcm⟩ := hrel
    by_cases h : k < L.length
    · obtain ⟨b, off, rfl, hb, hA⟩ := HA.out.at_ h
      have c1 := hA k h
      clear hA HA
      have d1 : decide ((k : Int) < L.length) = true := by simp; omega
      by_cases h2 : k < M.length
      · obtain ⟨b', off', rfl, hb', hB⟩ := HB.out.at_ h2
        have c2 := hB k h2
        clear hB
        have d2 : decide ((M.length : Int) ≤ k) = false := by simp; omega
        have hat := cmpS_at L M k h h2
        have C := fun w => Lib.hid (comp_any L[k] M[k] w)
        by_cases h0 : cmpL L[k].data.toList M[k].data.toList = 0
        · rw [if_pos h0] at hat
          have HR := Lib.hid (hat.symm.trans hcm.out)
          rw [h0] at C
          clear hat h0
          go_wp2_with fail
          refine (C _).out.mono ?_
          rintro _ _ ⟨rfl, rfl⟩
          go_wp2
          go_round
          case rel => exact ⟨k + 1, by omega, by omega, by go_num, HR⟩
          case measure => simp [intOf]; omega
        · rw [if_neg h0] at hat
          have HR := Lib.hid (hat.symm.trans hcm.out)
          have d3 : (cmpL L[k].data.toList M[k].data.toList != 0) = true := by rw [bne_iff_ne]; exact h0
          clear hat h0
          generalize cmpL L[k].data.toList M[k].data.toList = r at *
          go_wp2_with fail
          refine (C _).out.mono ?_
          rintro _ _ ⟨rfl, rfl⟩
          go_wp2
          go_ret
          exact ⟨ret_int HR.out, rfl⟩
      · have d2 : decide ((M.length : Int) ≤ k) = true := by simp; omega
        have HR := Lib.hid ((cmpS_end1 L M k h (by omega)).symm.trans hcm.out)
        go_wp2
        go_ret
        exact ⟨ret_int HR.out, rfl⟩
    · have d1 : decide ((k : Int) < L.length) = false := by simp; omega
      by_cases h2 : k < M.length
      · have HR := Lib.hid ((cmpS_end2 L M k (by omega) h2).symm.trans hcm.out)
        have d2 : decide ((L.length : Int) < M.length) = true := by simp; omega
        go_wp2
        go_ret
        exact ⟨ret_int HR.out, rfl⟩
      · have HR := Lib.hid ((cmpS_end3 L M k (by omega) (by omega)).symm.trans hcm.out)
        have d2 : decide ((L.length : Int) < M.length) = false := by simp; omega
        go_wp2
        go_ret
        exact ⟨ret_int HR.out, rfl⟩
theorem compare_any (A B : Option Addr) (c d : Nat) (L M : List ByteArray) (hL : L.length ≤ 40) (hM : M.length ≤ 40) (w : World) (hA : Reads w A L) (hB : Reads w B M) :
    Calls Try.prog 24 #[.slice A L.length c, .slice B M.length d] w fun e w' => e = .returned (.int .i64 (cmpS L M)) ∧ w = w' := by
  have C := Lib.hid (compare33 A B c d L M hL hM w hA hB)
  clear hA hB
  go_enter Try.func24, Try.ntmps24
  go_wp2_with fail
  refine C.out.mono ?_
  rintro _ _ ⟨rfl, rfl⟩
  go_wp2
  go_ret
  exact ⟨rfl, rfl⟩
set_option maxHeartbeats 1600000 in
theorem rcompare_any (A B : Option Addr) (c d : Nat) (L M : List ByteArray) (hL : L.length ≤ 40) (hM : M.length ≤ 40) (hsz : ∀ j (h : j < L.length), L[j].size ≤ 9000) (w : World) (hA : Reads w A L) (hB : Reads w B M) :
    Calls Try.prog 25 #[.slice A L.length c, .slice B M.length d] w fun e w' => e = .returned (.int .i64 (cmpS L M)) ∧ Below w.heap.size w w' := by
  have HA := Lib.hid hA
  have HB := Lib.hid hB
  have HSZ := Lib.hid hsz
  clear hA hB hsz
  go_enter Try.func25, Try.ntmps25
  go_wp2
  go_loopw [5] (fun i wr => ∃ k : Nat, k ≤ L.length ∧ k ≤ M.length ∧ i = .int .i64 k ∧ Hid (cmpS (L.drop k) (M.drop k) = cmpS L M) ∧ Below w.heap.size w wr) (fun i _ => L.length - (intOf i).toNat)
  case atStart => exact ⟨0, by omega, by omega, rfl, Lib.hid rfl, Below.refl _ _⟩
  case round =>
    obtain ⟨k, hkL, hkM, rfl, hcm, hbel⟩ := hrel
    by_cases h : k < L.length
    · obtain ⟨b, off, rfl, hb, hA⟩ := HA.out.at_ h
      have c1 := (hbel.cell (p := ⟨b, off + k, none⟩) hb).trans (hA k h)
      clear hA HA
      have hs := HSZ.out k h
      have d1 : decide ((k : Int) < L.length) = true := by simp; omega
      by_cases h2 : k < M.length
      · obtain ⟨b', off', rfl, hb', hB⟩ := HB.out.at_ h2
        have c2 := (hbel.cell (p := ⟨b', off' + k, none⟩) hb').trans (hB k h2)
        clear hB
        have d2 : decide ((M.length : Int) ≤ k) = false := by simp; omega
        have hat := cmpS_at L M k h h2
        have C := fun w => Lib.hid (less_quiet L[k] M[k] (by omega) w)
        by_cases h0 : cmpL L[k].data.toList M[k].data.toList = 0
        · rw [if_pos h0] at hat
          have HR := Lib.hid (hat.symm.trans hcm.out)
          rw [h0] at C
          clear hat h0
          go_wp2
          go_quiet ((go_at_call 26; exact Calls.quiet_of (C _).out))
          go_wp2
          go_roundw
          case rel => exact ⟨k + 1, by omega, by omega, by go_num, HR, hbel.drewN _⟩
          case measure => simp [intOf]; omega
        · rw [if_neg h0] at hat
          have HR := Lib.hid (hat.symm.trans hcm.out)
          have d3 : (cmpL L[k].data.toList M[k].data.toList != 0) = true := by rw [bne_iff_ne]; exact h0
          clear hat h0
          generalize cmpL L[k].data.toList M[k].data.toList = r at *
          go_wp2
          go_quiet ((go_at_call 26; exact Calls.quiet_of (C _).out))
          go_wp2
          go_ret
          exact ⟨ret_int HR.out, hbel.drewN _⟩
      · have d2 : decide ((M.length : Int) ≤ k) = true := by simp; omega
        have HR := Lib.hid ((cmpS_end1 L M k h (by omega)).symm.trans hcm.out)
        go_wp2
        go_ret
        exact ⟨ret_int HR.out, hbel⟩
    · have d1 : decide ((k : Int) < L.length) = false := by simp; omega
      by_cases h2 : k < M.length
      · have HR := Lib.hid ((cmpS_end2 L M k (by omega) h2).symm.trans hcm.out)
        have d2 : decide ((L.length : Int) < M.length) = true := by simp; omega
        go_wp2
        go_ret
        exact ⟨ret_int HR.out, hbel⟩
      · have HR := Lib.hid ((cmpS_end3 L M k (by omega) (by omega)).symm.trans hcm.out)
        have d2 : decide ((L.length : Int) < M.length) = false := by simp; omega
        go_wp2
        go_ret
        exact ⟨ret_int HR.out, hbel⟩
end Go.Proofs.Ytkbhjpgadhbakaa
