/-
  The landed pieces of free pages: Decode; the bytes' contracts. Conditions: those typed.
-/
import Derived.Test.YtjgndgcegenikaaFlN
import Derived.Test.YtjgndgcegenikaaFrKit
namespace Go.Proofs.Ytjgndgcegenikaa
open Go.RowKit
theorem num_bounds (s : ByteArray) : 0 ≤ Fr.numAt s 4 2 ∧ Fr.numAt s 4 2 ≤ 65535 := by
  unfold Fr.numAt
  split
  · have hlt := beN_lt ((s.data.toList.drop 4).take 2)
    have hl : ((s.data.toList.drop 4).take 2).length ≤ 2 := by rw [List.length_take]; omega
    have h16 : beN ((s.data.toList.drop 4).take 2) < 2 ^ 16 := Nat.lt_of_lt_of_le hlt (Nat.pow_le_pow_right (by omega) (by omega))
    rw [Fr.w64 _ (by omega)]
    omega
  · omega
theorem frdecoded_no {w w' : World} {s : ByteArray} (h : Fr.dec s = none) (hb : Below w.heap.size w w') : FrDecoded w s (.returned (.tuple #[.int .i64 0, .slice none 0 0, .int .i64 4])) w' := by
  obtain ⟨h1, h2, h3⟩ := fr_decoded_none h
  refine ⟨.slice none 0 0, by rw [h1, h2], ?_, hb⟩
  rw [h3]
  exact fr_nil _
theorem frdecoded_yes {w w' : World} {s : ByteArray} {N : Int} {L : List FP} {V : Value} (h : Fr.dec s = some (N, L)) (hV : FreesAt w' V L) (hb : Below w.heap.size w w') : FrDecoded w s (.returned (.tuple #[.int .i64 N, V, .int .i64 0])) w' := by
  refine ⟨V, ?_, ?_, hb⟩
  · unfold Fr.decN Fr.decE; rw [h]; rfl
  · unfold Fr.decL; rw [h]; exact hV
set_option maxRecDepth 100000 in
set_option maxHeartbeats 3200000 in
theorem fldec_ok (w : World) (s : ByteArray) (hs : s.size ≤ 2000) : Calls Try.prog 24 #[.string s] w (FrDecoded w s) := by
  have hb := num_bounds s
  have C1 := fun w => Lib.hid (fltakeN_ok w s 0 4 (by omega) (by omega) (by omega) (by omega))
  have C2 := fun w => Lib.hid (fltakeN_ok w s 4 2 (by omega) (by omega) (by omega) (by omega))
  have HFAR := Lib.hid (Fr.dec_far s)
  have HB : Hid (∀ c, s.size = 6 + 12 * c → Fr.okP (Fr.numAt s 0 4) (Fr.rdL s c) = false → Fr.dec s = none) := Lib.hid (Fr.dec_bad s)
  have HG : Hid (∀ c : Nat, s.size = 6 + 12 * c → Fr.numAt s 4 2 = c → Fr.okP (Fr.numAt s 0 4) (Fr.rdL s c) = true → Fr.dec s = some (Fr.numAt s 0 4, Fr.rdL s c)) := Lib.hid (Fr.dec_good s)
  obtain ⟨N, hN⟩ : ∃ N, Fr.numAt s 0 4 = N := ⟨_, rfl⟩
  obtain ⟨M, hM⟩ : ∃ M, Fr.numAt s 4 2 = M := ⟨_, rfl⟩
  rw [hN] at HB HG
  rw [hM] at HFAR HG hb
  simp only [hN] at C1
  simp only [hM] at C2
  clear hN hM
  by_cases hlen : (s.size : Int) = 6 + M * 12
  · have t1 : ((s.size : Int) != 6 + M * 12) = false := by simp [hlen]
    obtain ⟨c, rfl⟩ := Int.eq_ofNat_of_zero_le hb.1
    have hsc : s.size = 6 + 12 * c := by omega
    have HSC := Lib.hid hsc
    have hc : c ≤ 170 := by omega
    have CT : Hid (∀ (a : Nat) w, a ≤ 3000 → Calls Try.prog 38 #[.string s, .int .i64 a, .int .i64 8] w fun e w' => e = .returned (.int .i64 (Fr.numAt s a 8)) ∧ w = w') := Lib.hid (fun a w ha => fltakeN_ok w s a 8 (by omega) (by omega) (by omega) (by omega))
    have CP : Hid (∀ (a : Nat) w, a ≤ 3000 → Calls Try.prog 38 #[.string s, .int .i64 ((a : Int) + 8), .int .i64 4] w fun e w' => e = .returned (.int .i64 (Fr.numAt s (a + 8) 4)) ∧ w = w') := Lib.hid (fun a w ha => fltakeN_ok w s (a + 8) 4 (by omega) (by omega) (by omega) (by omega))
    have CR : Hid (∀ w v (_ : OwnF w (0 : Nat) v (Fr.rdL s c)), ∀ A n cap, v = .slice A n cap → Calls Try.prog 35 #[.int .i64 N, v] w fun e w' => e = .returned (.bool (Fr.okP N (Fr.rdL s c))) ∧ Below w.heap.size w w') := Lib.hid (fun w v hv A n cap hvs => by
      have hf := hv.cells (by rw [Fr.rdL_length]; omega)
      obtain ⟨A', cap', rfl, _, _⟩ := hf.form
      exact flright2_ok w N A' cap' _ hf (by rw [Fr.rdL_length]; omega))
    clear hlen hb HFAR hsc hs
    go_enter Try.func24, Try.ntmps24
    go_wp2_with fail
    refine (C1 _).out.mono ?_
    rintro _ _ ⟨rfl, rfl⟩
    go_wp2_with fail
    refine (C2 _).out.mono ?_
    rintro _ _ ⟨rfl, rfl⟩
    go_wp2
    go_loopw [7, 8] (fun v ii wr => ∃ k : Nat, k ≤ c ∧ ii = .int .i64 (6 + 12 * k : Nat) ∧ OwnF wr w.heap.size v (Fr.rdL s k) ∧ Below w.heap.size w wr) (fun _ ii _ => 6 + 12 * c - (intOf ii).toNat)
    case atStart => exact ⟨0, by omega, rfl, ⟨rfl, .inl ⟨rfl, rfl⟩⟩, Below.refl _ _⟩
    case round =>
      obtain ⟨k, hk, rfl, hown, hbw⟩ := hrel
      obtain ⟨a, ha⟩ : ∃ a, 6 + 12 * k = a := ⟨_, rfl⟩
      rw [ha]
      by_cases hkc : k < c
      · have t2 : decide (a < s.size) = true := decide_eq_true (by have := HSC.out; omega)
        have D1 := fun w => Lib.hid (CT.out a w (by omega))
        have D2 := fun w => Lib.hid (CP.out a w (by omega))
        have HIT : Hid (Fr.rdL s (k + 1) = Fr.rdL s k ++ [(Fr.numAt s a 8, Fr.numAt s (a + 8) 4)]) := Lib.hid (by rw [Fr.rdL_snoc]; unfold Fr.it; rw [ha])
        have HAA := Lib.hid ha
        have ha3 : a ≤ 3000 := by omega
        have hlenb : (Fr.rdL s k).length + 1 ≤ 4294967296 := by rw [Fr.rdL_length]; omega
        have hbase := hbw.size
        obtain ⟨x, hx⟩ : ∃ x, Fr.numAt s a 8 = x := ⟨_, rfl⟩
        obtain ⟨y, hy⟩ : ∃ y, Fr.numAt s (a + 8) 4 = y := ⟨_, rfl⟩
        simp only [hx] at D1
        simp only [hy] at D2
        rw [hx, hy] at HIT
        clear hx hy ha CT CP CR C1 C2
        go_wp2_with fail
        refine (D1 _).out.mono ?_
        rintro _ _ ⟨rfl, rfl⟩
        go_wp2_with fail
        refine (D2 _).out.mono ?_
        rintro _ _ ⟨rfl, rfl⟩
        go_wp2_with (at_builtin; refine wpList_append_free _ rfl (.tmp 25) (.tmp 34) 27 rfl _ undF freeInfo _ _ rfl hown (x, y) rfl hlenb hbase ?_; intro V4 w4 hown4 hbel4)
        go_roundw
        case rel => exact ⟨k + 1, by omega, by have := HAA.out; rw [← this]; go_num, by rw [HIT.out]; exact hown4, hbw.trans hbel4⟩
        case measure => have := HAA.out; simp [intOf]; omega
      · have t2 : decide (a < s.size) = false := decide_eq_false (by have := HSC.out; omega)
        obtain rfl : k = c := by omega
        have hown0 : OwnF wr 0 _ (Fr.rdL s k) := ⟨hown.1, hown.2.imp (fun h => h) (fun ⟨g, cap, cur, h1, h2, h3⟩ => ⟨g, cap, cur, h1, Nat.zero_le _, h3⟩)⟩
        have HF := Lib.hid (hown.cells (by rw [Fr.rdL_length]; omega))
        obtain ⟨A, cap, rfl, _, _⟩ := HF.out.form
        have D := Lib.hid (CR.out wr _ hown0 _ _ _ rfl)
        cases hok : Fr.okP N (Fr.rdL s k) with
        | false =>
          have HE := Lib.hid (HB.out k HSC.out hok)
          rw [hok] at D
          clear CT CP CR C1 C2 HB HG hok hown hown0 ha
          go_wp2_with fail
          refine D.out.mono ?_
          rintro _ w5 ⟨rfl, hb5⟩
          go_wp2
          go_ret3
          exact frdecoded_no HE.out (hbw.trans (hb5.mono hbw.size))
        | true =>
          have HE := Lib.hid (HG.out k HSC.out rfl hok)
          rw [hok] at D
          clear CT CP CR C1 C2 HB HG hok hown hown0 ha
          go_wp2_with fail
          refine D.out.mono ?_
          rintro _ w5 ⟨rfl, hb5⟩
          go_wp2
          go_ret3
          exact frdecoded_yes HE.out (HF.out.below hb5) (hbw.trans (hb5.mono hbw.size))
  · have t1 : ((s.size : Int) != 6 + M * 12) = true := by simp [hlen]
    have HE := Lib.hid (HFAR.out hlen)
    clear hlen HFAR HB HG
    go_enter Try.func24, Try.ntmps24
    go_wp2_with fail
    refine (C1 _).out.mono ?_
    rintro _ _ ⟨rfl, rfl⟩
    go_wp2_with fail
    refine (C2 _).out.mono ?_
    rintro _ _ ⟨rfl, rfl⟩
    go_wp2
    go_ret3
    exact frdecoded_no HE.out (Below.refl _ _)
theorem theFrBytes : FrBytes where
  enc w next v l hv hl := flenc_ok w next v l hv hl
  dec w s hs := fldec_ok w s hs
  pieces w n hn := flpieces_ok w n hn
end Go.Proofs.Ytjgndgcegenikaa
