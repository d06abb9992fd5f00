/-
  Contracts of the reference (rollbookref08): Decode, Same (of lists that are the same), Pieces. Conditions: texts of at most 2000 bytes; at most 1000000 pages.
-/
import Derived.Test.YtjgndgcegenikaaFrRefC
import Derived.Test.YtjgndgcegenikaaLess
namespace Go.Proofs.Ytjgndgcegenikaa
open Go.RowKit
theorem fr_beN32 (l : List UInt8) : beN (l.take 4) < 4294967296 := by
  have h := beN_lt (l.take 4)
  have hl := List.length_take_le 4 l
  exact Nat.lt_of_lt_of_le h (Nat.le_trans (Nat.pow_le_pow_right (by omega) (show 8 * (l.take 4).length ≤ 32 by omega)) (by decide))
namespace Fr
theorem readAll_short (n : Nat) (s : List UInt8) (h : s.length < 12) : readAll n s = [] := by
  cases n with
  | zero => rfl
  | succ n => rw [readAll, if_neg (by omega)]
theorem readAll_step (n : Nat) (s : List UInt8) (h : 12 ≤ s.length) : readAll (n + 1) s = (((beN (s.take 8) : Nat) : Int), ((beN ((s.drop 8).take 4) : Nat) : Int)) :: readAll n (s.drop 12) := by
  rw [readAll, if_pos h]
def decN (s : ByteArray) : Int := match dec s with
  | none => 0
  | some q => q.1
def decL (s : ByteArray) : List FP := match dec s with
  | none => []
  | some q => q.2
def decE (s : ByteArray) : Int := if (dec s).isSome then 0 else 4
end Fr
theorem fr_nil (w : World) : FreesAt w (.slice none 0 0) [] := ⟨none, 0, rfl, by simp, by omega, fun k hk => by simp at hk⟩
/-- what Decode leaves -/
def FrDecoded (w : World) (s : ByteArray) (e : Ending) (w' : World) : Prop :=
  ∃ V, e = .returned (.tuple #[.int .i64 (Fr.decN s), V, .int .i64 (Fr.decE s)]) ∧ FreesAt w' V (Fr.decL s) ∧ Below w.heap.size w w'
theorem fr_decoded_none {s : ByteArray} (h : Fr.dec s = none) : Fr.decN s = 0 ∧ Fr.decE s = 4 ∧ Fr.decL s = [] := by
  unfold Fr.decN Fr.decE Fr.decL
  rw [h]
  exact ⟨rfl, rfl, rfl⟩
set_option maxRecDepth 100000 in
set_option maxHeartbeats 1600000 in
theorem frdec_long (w : World) (s : ByteArray) (hs : s.size ≤ 1048576) (h : s.size < 4 ∨ 486 < s.size) : Calls Try.prog 25 #[.string s] w (FrDecoded w s) := by
  have hn : Fr.dec s = none := by unfold Fr.dec; rw [if_neg (by omega)]
  obtain ⟨e1, e2, e3⟩ := fr_decoded_none hn
  unfold FrDecoded
  rw [e1, e2, e3]
  rcases h with h | h
  · have T := fun w => Lib.hid (rtake_short s hs 0 4 (by omega) (by omega) (by omega) (by omega) w)
    clear hn e1 e2 e3
    go_enter Try.func25, Try.ntmps25
    go_wp2_with fail
    refine (T _).out.mono ?_
    rintro _ _ ⟨rfl, rfl⟩
    go_wp2
    go_ret3
    exact ⟨_, rfl, fr_nil _, Below.refl _ _⟩
  · have T0 := fun w => rtake_ok s hs 0 4 (by omega) (by omega) (by omega) w
    obtain ⟨x, hx⟩ : ∃ x, beN ((s.data.toList.drop 0).take 4) = x := ⟨_, rfl⟩
    simp only [hx] at T0
    have T := fun w => Lib.hid (T0 w)
    have d1 : decide ((486 : Int) < (s.size : Int)) = true := decide_eq_true (by omega)
    clear hn e1 e2 e3 T0 hx
    go_enter Try.func25, Try.ntmps25
    go_wp2_with fail
    refine (T _).out.mono ?_
    rintro _ _ ⟨rfl, rfl⟩
    go_wp2
    go_ret3
    exact ⟨_, rfl, fr_nil _, Below.refl _ _⟩
set_option maxRecDepth 100000 in
set_option maxHeartbeats 6400000 in
theorem frdec_in (w : World) (s : ByteArray) (h4 : 4 ≤ s.size) (h486 : s.size ≤ 486) : Calls Try.prog 25 #[.string s] w (FrDecoded w s) := by
  have hl : s.data.toList.length = s.size := by rw [Array.length_toList]; rfl
  have T0 := fun w => rtake_ok s (by omega) 0 4 (by omega) (by omega) (by omega) w
  obtain ⟨nx, hnx⟩ : ∃ x, beN ((s.data.toList.drop 0).take 4) = x := ⟨_, rfl⟩
  have hnx32 : nx < 4294967296 := hnx ▸ fr_beN32 _
  simp only [hnx] at T0
  have T := fun w => Lib.hid (T0 w)
  have d1 : decide ((486 : Int) < (s.size : Int)) = false := decide_eq_false (by omega)
  have hhead : Fr.head s.data.toList = (nx : Nat) := by unfold Fr.head; rw [← hnx, List.drop_zero]
  have hdec : Fr.dec s = if Fr.okP nx (Fr.readAll 40 (s.data.toList.drop 6)) = true ∧ Fr.encS nx (Fr.readAll 40 (s.data.toList.drop 6)) = s then some ((nx : Int), Fr.readAll 40 (s.data.toList.drop 6)) else none := by
    unfold Fr.dec
    rw [if_pos ⟨h4, h486⟩, hhead]
  have HD := Lib.hid hdec
  have HL := Lib.hid hl
  have mnx : IntKind.i64.wrap (nx : Int) = nx := IntWalk.i64_in _ (by omega)
  have HOWN : Hid (OwnF (w.alloc (.cells #[] 31)) w.heap.size (.slice (some ⟨w.heap.size, 0, none⟩) 0 0) []) := Lib.hid (World.ownsRow_made (size := 2) w #[] 0 (Nat.le_refl _) (by simp [maxLen]) rfl)
  have HBA := Lib.hid ((Below.refl _ w).alloc (Nat.le_refl _) (.cells #[] 31))
  clear hdec hhead hnx T0 hl
  go_enter Try.func25, Try.ntmps25
  go_wp2_with fail
  refine (T _).out.mono ?_
  rintro _ _ ⟨rfl, rfl⟩
  go_wp2
  go_loopw [7, 8] (fun V aa wr => ∃ (k at_ : Nat) (acc : List FP), Hid (at_ = 6 + 12 * k) ∧ k ≤ 40 ∧ at_ ≤ 486 ∧ aa = .int .i64 at_ ∧ Hid (acc.length = k) ∧ OwnF wr w.heap.size V acc ∧ Hid (Fr.readAll 40 (s.data.toList.drop 6) = acc ++ Fr.readAll (40 - k) (s.data.toList.drop at_)) ∧ Below w.heap.size w wr) (fun _ aa _ => 600 - (intOf aa).toNat)
  case atStart => exact ⟨0, 6, [], Lib.hid rfl, by omega, by omega, rfl, Lib.hid rfl, HOWN.out, Lib.hid rfl, HBA.out⟩
  case round =>
    obtain ⟨k, at_, acc, HAt, hk, ha, rfl, HLen, hown, HR, hBr⟩ := hrel
    have hlk : acc.length ≤ 40 := by rw [HLen.out]; exact hk
    have HBr := Lib.hid hBr
    have m0 : IntKind.i64.wrap ((at_ : Int) + 12) = ((at_ + 12 : Nat) : Int) := by rw [IntWalk.i64_in _ (by omega)]; omega
    by_cases hin : at_ + 12 ≤ s.size
    · have t1 : decide (at_ + 12 ≤ s.size) = true := decide_eq_true hin
      have t1b : decide (((at_ + 12 : Nat) : Int) ≤ (s.size : Int)) = true := decide_eq_true (by omega)
      have t1c : decide ((at_ : Int) + 12 ≤ (s.size : Int)) = true := decide_eq_true (by omega)
      have hk40 : k < 40 := by have := HAt.out; omega
      have P0 := fun w => rtake_ok s (by omega) at_ 8 (by omega) (by omega) (by omega) w
      have Q0 := fun w => rtake_ok s (by omega) (at_ + 8) 4 (by omega) (by omega) (by omega) w
      have hrd := Fr.readAll_step (40 - k - 1) (s.data.toList.drop at_) (by rw [List.length_drop, HL.out]; omega)
      rw [show 40 - k - 1 + 1 = 40 - k by omega, List.drop_drop, List.drop_drop] at hrd
      obtain ⟨x, hx⟩ : ∃ x, beN ((s.data.toList.drop at_).take 8) = x := ⟨_, rfl⟩
      obtain ⟨y, hy⟩ : ∃ x, beN ((s.data.toList.drop (at_ + 8)).take 4) = x := ⟨_, rfl⟩
      have hy32 : y < 4294967296 := hy ▸ fr_beN32 _
      simp only [hx] at P0
      simp only [hy] at Q0
      rw [hx, hy] at hrd
      have P1 := fun w => Lib.hid (P0 w)
      have Q1 : Hid (∀ w, Calls Try.prog 39 #[.string s, .int .i64 ((at_ : Int) + 8), .int .i64 4] w fun e w' => e = .returned (.tuple #[.int .u64 (y : Nat), .int .i64 0]) ∧ w = w') := Lib.hid Q0
      have m8 : IntKind.i64.wrap ((at_ : Int) + 8) = (at_ : Int) + 8 := IntWalk.i64_in _ (by omega)
      have HRD := Lib.hid hrd
      clear hrd hx hy P0 Q0 hBr
      by_cases hx40 : x ≤ 1099511627776
      · have d2 : decide ((1099511627776 : Int) < (x : Int)) = false := decide_eq_false (by omega)
        have d3 : decide (1099511627776 < x) = false := decide_eq_false (by omega)
        have mx : IntKind.i64.wrap (x : Int) = x := IntWalk.i64_in _ (by omega)
        have my : IntKind.i64.wrap (y : Int) = y := IntWalk.i64_in _ (by omega)
        have HR2 : Hid (Fr.readAll 40 (s.data.toList.drop 6) = (acc ++ [((x : Int), (y : Int))]) ++ Fr.readAll (40 - (k + 1)) (s.data.toList.drop (at_ + 12))) := Lib.hid (by
          rw [HR.out, HRD.out, List.append_assoc]
          rfl)
        have hlenb : acc.length + 1 ≤ 4294967296 := by omega
        have hbase := HBr.out.size
        clear hx40
        go_wp2_with fail
        refine (P1 _).out.mono ?_
        rintro _ _ ⟨rfl, rfl⟩
        go_wp2_with fail
        refine (Q1.out _).mono ?_
        rintro _ _ ⟨rfl, rfl⟩
        go_wp2_with (at_builtin; refine wpList_append_free _ rfl (.tmp 50) (.tmp 56) 27 rfl _ undF freeInfo _ _ rfl hown ((x : Int), (y : Int)) rfl hlenb hbase ?_; intro V4 w4 hown4 hbel4)
        go_roundw
        case rel => exact ⟨k + 1, at_ + 12, acc ++ [((x : Int), (y : Int))], Lib.hid (by rw [HAt.out]; omega), by omega, by omega, by rfl, Lib.hid (by rw [List.length_append, HLen.out]; rfl), hown4, HR2, HBr.out.trans hbel4⟩
        case measure => simp [intOf]; omega
      · have d2 : decide ((1099511627776 : Int) < (x : Int)) = true := decide_eq_true (by omega)
        have d3 : decide (1099511627776 < x) = true := decide_eq_true (by omega)
        have HN : Hid (Fr.decN s = 0 ∧ Fr.decE s = 4 ∧ Fr.decL s = []) := Lib.hid (fr_decoded_none (by
          rw [HD.out, if_neg]
          rintro ⟨h1, _⟩
          have hp := ((Fr.okP_iff _ _).1 h1).right ((x : Int), (y : Int)) (by rw [HR.out, HRD.out]; simp)
          rw [Fr.right_iff] at hp
          simp only at hp
          omega))
        clear hx40 hown
        go_wp2_with fail
        refine (P1 _).out.mono ?_
        rintro _ _ ⟨rfl, rfl⟩
        go_wp2_with fail
        refine (Q1.out _).mono ?_
        rintro _ _ ⟨rfl, rfl⟩
        go_wp2
        go_ret3
        obtain ⟨e1, e2, e3⟩ := HN.out
        unfold FrDecoded
        rw [e1, e2, e3]
        exact ⟨_, rfl, fr_nil _, HBr.out⟩
    · have t1 : decide (at_ + 12 ≤ s.size) = false := decide_eq_false hin
      have t1b : decide (((at_ + 12 : Nat) : Int) ≤ (s.size : Int)) = false := decide_eq_false (by omega)
      have t1c : decide ((at_ : Int) + 12 ≤ (s.size : Int)) = false := decide_eq_false (by omega)
      have hall : Fr.readAll 40 (s.data.toList.drop 6) = acc := by
        rw [HR.out, Fr.readAll_short _ _ (by rw [List.length_drop, HL.out]; omega), List.append_nil]
      have HAL := Lib.hid hall
      have hfr := OwnF.cells hown (by omega)
      have HFR := Lib.hid hfr
      have EC0 := fun w1 (h : Below wr.heap.size wr w1) => frenc_ok w1 (nx : Nat) _ acc (hfr.below h)
      obtain ⟨ES, hES⟩ : ∃ S, Fr.encS (nx : Nat) acc = S := ⟨_, rfl⟩
      obtain ⟨EE, hEE⟩ : ∃ S, Fr.encE (nx : Nat) acc = S := ⟨_, rfl⟩
      simp only [hES, hEE] at EC0
      have EC := Lib.hid EC0
      obtain ⟨A7, cap7, hv7, _, _⟩ := hfr.form
      subst hv7
      have HDD : Hid (Fr.dec s = if Fr.okP nx acc = true ∧ ES = s then some ((nx : Int), acc) else none) := Lib.hid (by rw [HD.out, HAL.out, hES])
      have HEO : Hid (EE = if Fr.okP (nx : Nat) acc = true then 0 else 4) := Lib.hid (by rw [← hEE]; rfl)
      clear hall hfr hES hEE EC0 hown hBr
      by_cases hok : Fr.okP (nx : Nat) acc = true
      · have hEE0 : EE = 0 := by rw [HEO.out, if_pos hok]
        subst hEE0
        by_cases hss : ES = s
        · have e1 : (!(ES.toList == s.toList)) = false := by rw [beq_str_true hss]; rfl
          have e2 : (ES.toList == s.toList) = true := beq_str_true hss
          have HN : Hid (Fr.decN s = (nx : Nat) ∧ Fr.decE s = 0 ∧ Fr.decL s = acc) := Lib.hid (by
            have := HDD.out
            rw [if_pos ⟨hok, hss⟩] at this
            unfold Fr.decN Fr.decE Fr.decL
            rw [this]
            exact ⟨rfl, rfl, rfl⟩)
          clear hok hss
          go_wp2_with fail
          refine (EC.out _ (Below.refl _ _)).mono ?_
          rintro _ w3 ⟨rfl, hb3⟩
          go_wp2
          go_ret3
          obtain ⟨q1, q2, q3⟩ := HN.out
          unfold FrDecoded
          rw [q1, q2, q3]
          exact ⟨_, rfl, HFR.out.below hb3, HBr.out.trans (hb3.mono HBr.out.size)⟩
        · have e1 : (!(ES.toList == s.toList)) = true := by rw [beq_str_false hss]; rfl
          have e2 : (ES.toList == s.toList) = false := beq_str_false hss
          have HN : Hid (Fr.decN s = 0 ∧ Fr.decE s = 4 ∧ Fr.decL s = []) := Lib.hid (fr_decoded_none (by rw [HDD.out, if_neg (fun h => hss h.2)]))
          clear hok hss
          go_wp2_with fail
          refine (EC.out _ (Below.refl _ _)).mono ?_
          rintro _ w3 ⟨rfl, hb3⟩
          go_wp2
          go_ret3
          obtain ⟨q1, q2, q3⟩ := HN.out
          unfold FrDecoded
          rw [q1, q2, q3]
          exact ⟨_, rfl, fr_nil _, HBr.out.trans (hb3.mono HBr.out.size)⟩
      · have hEE4 : EE = 4 := by rw [HEO.out, if_neg hok]
        subst hEE4
        have HN : Hid (Fr.decN s = 0 ∧ Fr.decE s = 4 ∧ Fr.decL s = []) := Lib.hid (fr_decoded_none (by rw [HDD.out, if_neg (fun h => hok h.1)]))
        clear hok
        go_wp2_with fail
        refine (EC.out _ (Below.refl _ _)).mono ?_
        rintro _ w3 ⟨rfl, hb3⟩
        go_wp2
        go_ret3
        obtain ⟨q1, q2, q3⟩ := HN.out
        unfold FrDecoded
        rw [q1, q2, q3]
        exact ⟨_, rfl, fr_nil _, HBr.out.trans (hb3.mono HBr.out.size)⟩
theorem frdec_ok (w : World) (s : ByteArray) (hs : s.size ≤ 1048576) : Calls Try.prog 25 #[.string s] w (FrDecoded w s) := by
  by_cases h : s.size < 4 ∨ 486 < s.size
  · exact frdec_long w s hs h
  · exact frdec_in w s (by omega) (by omega)
set_option maxRecDepth 100000 in
set_option maxHeartbeats 1600000 in
theorem frsame_yes (w : World) (v1 v2 : Value) (l : List FP) (h1 : FreesAt w v1 l) (h2 : FreesAt w v2 l) : Calls Try.prog 19 #[v1, v2] w fun e w' => e = .returned (.bool true) ∧ Below w.heap.size w w' := by
  have H1 := Lib.hid h1
  have H2 := Lib.hid h2
  obtain ⟨A, cap, rfl, hlc, hcm⟩ := h1.form
  obtain ⟨B, cap2, rfl, _, _⟩ := h2.form
  have hlm : l.length ≤ 9223372036854775807 := by omega
  have d0 : ((l.length : Int) != (l.length : Int)) = false := by simp
  clear h1 h2
  go_enter Try.func19, Try.ntmps19
  go_wp2
  go_loopw [5] (fun ii wr => ∃ k : Nat, k ≤ l.length ∧ ii = .int .i64 k ∧ Below w.heap.size w wr) (fun ii _ => l.length - (intOf ii).toNat)
  case atStart => exact ⟨0, by omega, rfl, Below.refl _ _⟩
  case round =>
    obtain ⟨k, hk, rfl, hBr⟩ := hrel
    by_cases hkl : k < l.length
    · have t1 : decide (k < l.length) = true := decide_eq_true hkl
      obtain ⟨b, off, hA, hlt, c0, c1⟩ := (H1.out.below hBr).get k hkl
      obtain ⟨b', off', hB, hlt', p0, p1⟩ := (H2.out.below hBr).get k hkl
      obtain ⟨⟨t, p⟩, hx⟩ : ∃ x, l[k] = x := ⟨_, rfl⟩
      rw [hx] at c0 c1 p0 p1
      simp only at c0 c1 p0 p1
      have i0 : (0 : Int) ≤ (k : Int) := by omega
      have i1 : (k : Int) < (l.length : Int) := by omega
      have m1 : IntKind.i64.wrap ((k : Int) + 1) = ((k + 1 : Nat) : Int) := by rw [IntWalk.i64_in _ (by omega)]; omega
      have HBr := Lib.hid hBr
      subst hA hB
      clear hx hBr
      go_wp2
      go_quiet (fail)
      go_wp2
      go_roundw
      case rel => exact ⟨k + 1, by omega, by go_num, fr_drewN HBr.out _⟩
      case measure => simp [intOf]; omega
    · obtain rfl : k = l.length := by omega
      have t1 : decide (l.length < l.length) = false := decide_eq_false (by omega)
      have HBr := Lib.hid hBr
      clear hBr
      go_wp2
      go_ret
      exact ⟨rfl, HBr.out⟩
set_option maxRecDepth 100000 in
set_option maxHeartbeats 1600000 in
theorem frpieces_ok (w : World) (n : Int) (hn : n ≤ 1000000) : Calls Try.prog 27 #[.int .i64 n] w fun e w' => e = .returned (.int .i64 (Fr.pieces n : Nat)) ∧ w = w' := by
  have d9 : decide (n ≤ (40000000 : Int)) = true := decide_eq_true (by omega)
  obtain ⟨R, hR⟩ : ∃ R, Fr.pieces n = R := ⟨_, rfl⟩
  have HR := Lib.hid hR
  rw [hR]
  clear hR
  go_enter Try.func27, Try.ntmps27
  go_wp2
  go_loop [3] (fun kk => ∃ k : Nat, k ≤ 25000 ∧ kk = .int .i64 k ∧ Hid (k = 0 ∨ 40 * ((k : Int) - 1) < n)) (fun kk => 25001 - (intOf kk).toNat)
  case atStart => exact ⟨0, by omega, rfl, Lib.hid (.inl rfl)⟩
  case round =>
    obtain ⟨k, hk, rfl, HK⟩ := hrel
    have t1 : decide ((k : Int) < 1000000) = true := decide_eq_true (by omega)
    have m1 : IntKind.i64.wrap (40 * (k : Int)) = 40 * k := IntWalk.i64_in _ (by omega)
    by_cases hkn : 40 * (k : Int) < n
    · have t2 : decide (40 * (k : Int) < n) = true := decide_eq_true hkn
      have HK2 : Hid ((k + 1 : Nat) = 0 ∨ 40 * (((k + 1 : Nat) : Int) - 1) < n) := Lib.hid (.inr (by omega))
      have hk2 : k + 1 ≤ 25000 := by omega
      clear hkn
      go_wp2
      go_round
      case rel => exact ⟨k + 1, hk2, by go_num, HK2⟩
      case measure => simp [intOf]; omega
    · have t2 : decide (40 * (k : Int) < n) = false := decide_eq_false hkn
      have HE : Hid (k = R) := Lib.hid (by rw [← HR.out]; exact (Fr.pieces_is n k (by omega) HK.out).symm)
      clear hkn
      go_wp2
      go_ret
      exact ⟨by rw [← HE.out]; rfl, rfl⟩
end Go.Proofs.Ytjgndgcegenikaa
