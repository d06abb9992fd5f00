/-
  Contracts of the reference (rollbookref06): Encode. Conditions: lists and texts of at most 600.
-/
import Derived.Test.YtegmffeokfahjaaRNodeD
namespace Go.Proofs.Ytegmffeokfahjaa
open Go.RowKit
namespace Node
theorem slots_snoc (leaf : Bool) (l : List CL) (c : CL) : ∀ a, slots leaf a (l ++ [c]) = slots leaf a l ++ beB (a + (l.map (long leaf)).sum) 2 0 := by
  induction l with
  | nil => intro a; simp [slots]
  | cons d l ih =>
    intro a
    rw [List.cons_append, slots, ih, slots, List.append_assoc, one_length]
    congr 3
    simp only [List.map_cons, List.sum_cons]
    omega
theorem slots_take (leaf : Bool) (l : List CL) (a k : Nat) (h : k < l.length) : slots leaf a (l.take (k + 1)) = slots leaf a (l.take k) ++ beB (a + ((l.take k).map (long leaf)).sum) 2 0 := by
  rw [List.take_succ_eq_append_getElem h, slots_snoc]
theorem flat_take (leaf : Bool) (l : List CL) (k : Nat) (h : k < l.length) : (l.take (k + 1)).flatMap (one leaf) = (l.take k).flatMap (one leaf) ++ one leaf l[k] := by
  rw [List.take_succ_eq_append_getElem h, List.flatMap_append]
  simp
theorem long_take (leaf : Bool) (l : List CL) (k : Nat) (h : k < l.length) : ((l.take (k + 1)).map (long leaf)).sum = ((l.take k).map (long leaf)).sum + long leaf l[k] := by
  rw [List.take_succ_eq_append_getElem h, List.map_append, List.sum_append]
  simp
theorem long_sum_le (leaf : Bool) (l : List CL) (k : Nat) : ((l.take k).map (long leaf)).sum ≤ (l.map (long leaf)).sum := by
  conv => rhs; rw [← List.take_append_drop k l, List.map_append, List.sum_append]
  omega
end Node
set_option maxRecDepth 100000 in
set_option maxHeartbeats 1600000 in
theorem renc_bad (w : World) (leaf : Bool) (v : Value) (RC : Hid (Calls Try.prog 14 #[.bool leaf, v] w fun e w' => e = .returned (.bool false) ∧ Below w.heap.size w w')) : Calls Try.prog 12 #[.bool leaf, v] w fun e w' => e = .returned (.tuple #[.string ⟨#[]⟩, .int .i64 4]) ∧ Below w.heap.size w w' := by
  go_enter Try.func12, Try.ntmps12
  go_wp2_with fail
  refine RC.out.mono ?_
  rintro _ w1 ⟨rfl, hb1⟩
  go_wp2
  go_ret2
  exact ⟨rfl, hb1⟩
set_option maxRecDepth 100000 in
set_option maxHeartbeats 1600000 in
theorem renc_long (w : World) (leaf : Bool) (v : Value) (n : Nat) (hn : 488 < n) (RC : Hid (Calls Try.prog 14 #[.bool leaf, v] w fun e w' => e = .returned (.bool true) ∧ Below w.heap.size w w')) (CC : Hid (∀ w1, Below w.heap.size w w1 → Calls Try.prog 26 #[.bool leaf, v] w1 fun e w' => e = .returned (.int .i64 n) ∧ Below w1.heap.size w1 w')) :
    Calls Try.prog 12 #[.bool leaf, v] w fun e w' => e = .returned (.tuple #[.string ⟨#[]⟩, .int .i64 5]) ∧ Below w.heap.size w w' := by
  have d1 : decide ((488 : Int) < (n : Int)) = true := decide_eq_true (by omega)
  go_enter Try.func12, Try.ntmps12
  go_wp2_with fail
  refine RC.out.mono ?_
  rintro _ w1 ⟨rfl, hb1⟩
  go_wp2_with fail
  refine (CC.out _ hb1).mono ?_
  rintro _ w2 ⟨rfl, hb2⟩
  go_wp2
  go_ret2
  exact ⟨rfl, hb1.trans (hb2.mono hb1.size)⟩
set_option maxRecDepth 100000 in
set_option maxHeartbeats 3200000 in
theorem renc_in (w : World) (leaf : Bool) (A : Option Addr) (cap : Nat) (l : List CV) (hc : CellsAt w (.slice A l.length cap) l) (hok : ∀ c ∈ l, c.ok leaf = true) (n : Nat) (hn : n ≤ 488) (hcn : Node.countV leaf l = n)
    (RC : Hid (Calls Try.prog 14 #[.bool leaf, .slice A l.length cap] w fun e w' => e = .returned (.bool true) ∧ Below w.heap.size w w')) (CC : Hid (∀ w1, Below w.heap.size w w1 → Calls Try.prog 26 #[.bool leaf, .slice A l.length cap] w1 fun e w' => e = .returned (.int .i64 n) ∧ Below w1.heap.size w1 w')) :
    Calls Try.prog 12 #[.bool leaf, .slice A l.length cap] w fun e w' => e = .returned (.tuple #[.string (ba (Node.bytes leaf (l.map CV.cl))), .int .i64 0]) ∧ Below w.heap.size w w' := by
  have d1 : decide ((488 : Int) < (n : Int)) = false := decide_eq_false (by omega)
  obtain ⟨L, hL⟩ : ∃ L, l.map CV.cl = L := ⟨_, rfl⟩
  have hLl : L.length = l.length := by rw [← hL, List.length_map]
  have hLg : ∀ k (h : k < l.length) (h2 : k < L.length), L[k] = l[k].cl := fun k h h2 => by subst hL; exact List.getElem_map ..
  have hsum : 2 + 2 * l.length + (L.map (Node.long leaf)).sum = n := by
    rw [← hcn]
    unfold Node.countV Node.count
    rw [hL, Node.sum_two, hLl]
    omega
  rw [hL]
  obtain ⟨R, hR⟩ : ∃ R, ba (Node.bytes leaf L) = R := ⟨_, rfl⟩
  have HR : Hid (ba (beB l.length 2 0 ++ (Node.slots leaf (2 + 2 * l.length) L ++ L.flatMap (Node.one leaf))) = R) := Lib.hid (by rw [← hR]; unfold Node.bytes; rw [hLl])
  rw [hR]
  clear hR
  have step : Hid (∀ k (hk : k < l.length) wr, Below w.heap.size w wr → ∃ b off, A = some ⟨b, off, none⟩ ∧ b < wr.heap.size ∧ wr.cell? ⟨b, off + k * 5, none⟩ = some (.string l[k].key) ∧ wr.cell? ⟨b, off + k * 5 + 1, none⟩ = some (.string l[k].val) ∧ wr.cell? ⟨b, off + k * 5 + 2, none⟩ = some (.int .i64 l[k].over) ∧ wr.cell? ⟨b, off + k * 5 + 3, none⟩ = some (.int .i64 l[k].size) ∧ wr.cell? ⟨b, off + k * 5 + 4, none⟩ = some (.int .i64 l[k].child)) :=
    Lib.hid (fun k hk wr hbr => (hc.below hbr).get k hk)
  have hl2 : l.length ≤ 244 := by omega
  have N0 := fun w => Lib.hid (num_c l.length 2 2 rfl (by omega) (by omega) (by omega) (by omega) w)
  have HOK := Lib.hid hok
  have HLG := Lib.hid hLg
  have HLL := Lib.hid hLl
  have HSM := Lib.hid hsum
  have HTL : Hid (∀ k, ((L.take k).map (Node.long leaf)).sum ≤ 488) := Lib.hid (fun k => by have := Node.long_sum_le leaf L k; omega)
  have m1 : IntKind.i64.wrap (2 * (l.length : Int)) = 2 * l.length := IntWalk.i64_in _ (by omega)
  have m2 : IntKind.i64.wrap (2 + 2 * (l.length : Int)) = 2 + 2 * l.length := IntWalk.i64_in _ (by omega)
  have hsl : ∀ k, (ba (beB l.length 2 0 ++ Node.slots leaf (2 + 2 * l.length) (L.take k))).size ≤ 2 + 2 * l.length := fun k => by
    rw [ba_size, List.length_append, beB_length, Node.slots_length, List.length_take]
    omega
  have HSL := Lib.hid hsl
  clear hc hok hcn hLg hLl hsum hL hsl
  go_enter Try.func12, Try.ntmps12
  go_wp2_with fail
  refine RC.out.mono ?_
  rintro _ w1 ⟨rfl, hb1⟩
  go_wp2_with fail
  refine (CC.out _ hb1).mono ?_
  rintro _ w2 ⟨rfl, hb2⟩
  have hB2 := hb1.trans (hb2.mono hb1.size)
  go_wp2_with fail
  refine (N0 _).out.mono ?_
  rintro _ w3 ⟨rfl, hb3⟩
  have HB3 : Hid (Below w.heap.size w w3) := Lib.hid (hB2.trans (hb3.mono hB2.size))
  clear hb1 hb2 hb3 hB2
  go_wp2
  go_loopw [6, 7, 8] (fun ss aa ii wr => ∃ (k a : Nat) (S : ByteArray), k ≤ l.length ∧ ss = .string S ∧ aa = .int .i64 a ∧ ii = .int .i64 k ∧ Hid (S = ba (beB l.length 2 0 ++ Node.slots leaf (2 + 2 * l.length) (L.take k))) ∧ Hid (a = 2 + 2 * l.length + ((L.take k).map (Node.long leaf)).sum) ∧ Below w.heap.size w wr) (fun _ _ ii _ => l.length - (intOf ii).toNat)
  case atStart => exact ⟨0, 2 + 2 * l.length, ba (beB l.length 2 0), by omega, rfl, by simp, rfl, Lib.hid (by simp [Node.slots]), Lib.hid (by simp), HB3.out⟩
  case round =>
    obtain ⟨k, a, S, hk, rfl, rfl, rfl, HS, HA, hBr⟩ := hrel
    have hss : S.size ≤ 2 + 2 * l.length := by rw [HS.out]; exact HSL.out k
    by_cases hkl : k < l.length
    · have t1 : decide (k < l.length) = true := decide_eq_true hkl
      have ha : a ≤ 1000 := by rw [HA.out]; have := HTL.out k; omega
      have NA := fun w => Lib.hid (num_c a 2 2 rfl (by omega) (by omega) (by omega) (by omega) w)
      have zA := ba_beB_size a 2
      obtain ⟨T, hT⟩ : ∃ T, ba (beB a 2 0) = T := ⟨_, rfl⟩
      simp only [hT] at NA
      rw [hT] at zA
      have OC := fun w => rone_ok w leaf l[k] (HOK.out _ (List.getElem_mem hkl))
      have zO : (ba (Node.one leaf l[k].cl)).size = Node.long leaf l[k].cl := by rw [ba_size, Node.one_length]
      have hz : ((L.take (k + 1)).map (Node.long leaf)).sum = ((L.take k).map (Node.long leaf)).sum + Node.long leaf l[k].cl := by
        rw [Node.long_take leaf L k (by rw [HLL.out]; exact hkl), HLG.out k hkl _]
      have htl := HTL.out (k + 1)
      obtain ⟨O, hO⟩ : ∃ O, ba (Node.one leaf l[k].cl) = O := ⟨_, rfl⟩
      simp only [hO] at OC
      rw [hO] at zO
      have HS' : Hid (S ++ T = ba (beB l.length 2 0 ++ Node.slots leaf (2 + 2 * l.length) (L.take (k + 1)))) := Lib.hid (by
        rw [HS.out, ← hT, HA.out, Node.slots_take leaf L _ k (by rw [HLL.out]; exact hkl), ba_append, List.append_assoc])
      have HA' : Hid (a + O.size = 2 + 2 * l.length + ((L.take (k + 1)).map (Node.long leaf)).sum) := Lib.hid (by rw [hz, zO, HA.out]; omega)
      have ho : O.size ≤ 488 := by omega
      have m3 : IntKind.i64.wrap ((a : Int) + (O.size : Int)) = ((a + O.size : Nat) : Int) := by rw [IntWalk.i64_in _ (by omega)]; omega
      have had : S.size + T.size ≤ 9223372036854775807 := by omega
      obtain ⟨b, off, hA, hlt, c0, c1, c2, c3, c4⟩ := step.out k hkl wr hBr
      obtain ⟨⟨key, val, over, size, child⟩, hx⟩ : ∃ x, l[k] = x := ⟨_, rfl⟩
      simp only [hx] at c0 c1 c2 c3 c4 OC
      unfold CV.v at OC
      simp only at OC
      have OC := fun w => Lib.hid (OC w)
      have i0 : (0 : Int) ≤ (k : Int) := by omega
      have i1 : (k : Int) < (l.length : Int) := by omega
      have HBr := Lib.hid hBr
      subst hA
      clear hx hO hT hz htl zO zA hBr
      go_wp2_with fail
      refine (NA _).out.mono ?_
      rintro _ w4 ⟨rfl, hb4⟩
      have q0 := (hb4.cell (p := ⟨b, off + k * 5, none⟩) hlt).trans c0
      have q1 := (hb4.cell (p := ⟨b, off + k * 5 + 1, none⟩) hlt).trans c1
      have q2 := (hb4.cell (p := ⟨b, off + k * 5 + 2, none⟩) hlt).trans c2
      have q3 := (hb4.cell (p := ⟨b, off + k * 5 + 3, none⟩) hlt).trans c3
      have q4 := (hb4.cell (p := ⟨b, off + k * 5 + 4, none⟩) hlt).trans c4
      have hB4 := HBr.out.trans (hb4.mono HBr.out.size)
      clear c0 c1 c2 c3 c4
      go_wp2_with fail
      refine (OC _).out.mono ?_
      rintro _ w5 ⟨rfl, hb5⟩
      have HB5 := Lib.hid (hB4.trans (hb5.mono hB4.size))
      clear q0 q1 q2 q3 q4 hB4 hb4 hb5
      go_wp2
      go_roundw
      case rel => exact ⟨k + 1, a + O.size, S ++ T, by omega, by rfl, by first | rfl | (congr 1), by go_num, HS', HA', HB5.out⟩
      case measure => simp [intOf]; omega
    · obtain rfl : k = l.length := by omega
      have t1 : decide (l.length < l.length) = false := decide_eq_false (by omega)
      have HS0 : Hid (S = ba (beB l.length 2 0 ++ Node.slots leaf (2 + 2 * l.length) L)) := Lib.hid (by rw [HS.out, ← HLL.out, List.take_length])
      have HBr := Lib.hid hBr
      clear hBr HA HS
      go_wp2
      go_loopw [6, 9] (fun ss ii wr => ∃ (k : Nat) (T : ByteArray), k ≤ l.length ∧ ss = .string T ∧ ii = .int .i64 k ∧ Hid (T = S ++ ba ((L.take k).flatMap (Node.one leaf))) ∧ Below w.heap.size w wr) (fun _ ii _ => l.length - (intOf ii).toNat)
      case atStart => exact ⟨0, S, by omega, rfl, rfl, Lib.hid (by rw [List.take_zero]; exact ByteArray.append_empty.symm), HBr.out⟩
      case round =>
        obtain ⟨k, T, hk, rfl, rfl, HT, hBs⟩ := hrel
        have hts : T.size ≤ 1100 := by
          rw [HT.out, ByteArray.size_append, ba_size, Node.flat_length]
          have := HTL.out k
          omega
        by_cases hkl : k < l.length
        · have t2 : decide (k < l.length) = true := decide_eq_true hkl
          have OC := fun w => rone_ok w leaf l[k] (HOK.out _ (List.getElem_mem hkl))
          have zO : (ba (Node.one leaf l[k].cl)).size = Node.long leaf l[k].cl := by rw [ba_size, Node.one_length]
          have hz : ((L.take (k + 1)).map (Node.long leaf)).sum = ((L.take k).map (Node.long leaf)).sum + Node.long leaf l[k].cl := by
            rw [Node.long_take leaf L k (by rw [HLL.out]; exact hkl), HLG.out k hkl _]
          have htl := HTL.out (k + 1)
          obtain ⟨O, hO⟩ : ∃ O, ba (Node.one leaf l[k].cl) = O := ⟨_, rfl⟩
          simp only [hO] at OC
          rw [hO] at zO
          have HT' : Hid (T ++ O = S ++ ba ((L.take (k + 1)).flatMap (Node.one leaf))) := Lib.hid (by
            rw [HT.out, Node.flat_take leaf L k (by rw [HLL.out]; exact hkl), HLG.out k hkl _, ← hO, ← ba_append, ByteArray.append_assoc])
          have ho : O.size ≤ 488 := by omega
          have had : T.size + O.size ≤ 9223372036854775807 := by omega
          obtain ⟨b, off, hA, hlt, c0, c1, c2, c3, c4⟩ := step.out k hkl wr hBs
          obtain ⟨⟨key, val, over, size, child⟩, hx⟩ : ∃ x, l[k] = x := ⟨_, rfl⟩
          simp only [hx] at c0 c1 c2 c3 c4 OC
          unfold CV.v at OC
          simp only at OC
          have OC := fun w => Lib.hid (OC w)
          have i0 : (0 : Int) ≤ (k : Int) := by omega
          have i1 : (k : Int) < (l.length : Int) := by omega
          have HBs := Lib.hid hBs
          subst hA
          clear hx hO hz htl zO hBs
          go_wp2_with fail
          refine (OC _).out.mono ?_
          rintro _ w5 ⟨rfl, hb5⟩
          go_wp2
          go_roundw
          case rel => exact ⟨k + 1, T ++ O, by omega, by rfl, by go_num, HT', HBs.out.trans (hb5.mono HBs.out.size)⟩
          case measure => simp [intOf]; omega
        · obtain rfl : k = l.length := by omega
          have t2 : decide (l.length < l.length) = false := decide_eq_false (by omega)
          have HRR : Hid (R = T) := Lib.hid (by
            rw [HT.out, HS0.out, ← HR.out]
            have e : L.take l.length = L := by rw [← HLL.out, List.take_length]
            rw [e, ← List.append_assoc, ba_append])
          have HBs := Lib.hid hBs
          clear hBs
          go_wp2
          go_ret2
          exact ⟨by rw [HRR.out]; rfl, HBs.out⟩
theorem renc_ok (w : World) (leaf : Bool) (v : Value) (l : List CV) (hc : CellsAt w v l) (hb : Bnd l) : Calls Try.prog 12 #[.bool leaf, v] w fun e w' => e = .returned (.tuple #[.string (Node.encS leaf l), .int .i64 (Node.encE leaf l)]) ∧ Below w.heap.size w w' := by
  have RC := rnright_ok w leaf v l hc hb
  have CC := Lib.hid (fun w1 (h : Below w.heap.size w w1) => rcount_ok w1 leaf v l (hc.below h) hb)
  cases hr : Node.right leaf l with
  | false =>
    rw [hr] at RC
    have e1 : Node.encS leaf l = ⟨#[]⟩ := by unfold Node.encS Node.fits; rw [hr]; rfl
    have e2 : Node.encE leaf l = 4 := by unfold Node.encE; rw [hr]; rfl
    rw [e1, e2]
    exact renc_bad w leaf v (Lib.hid RC)
  | true =>
    rw [hr] at RC
    by_cases hn : Node.countV leaf l ≤ 488
    · have hf : Node.fits leaf l = true := by unfold Node.fits; rw [hr, decide_eq_true hn]; rfl
      have e1 : Node.encS leaf l = ba (Node.bytes leaf (l.map CV.cl)) := by unfold Node.encS; rw [if_pos hf]
      have e2 : Node.encE leaf l = 0 := by unfold Node.encE; rw [hr, if_pos hn]; rfl
      rw [e1, e2]
      obtain ⟨A, cap, rfl, _, _⟩ := hc.form
      exact renc_in w leaf A cap l hc (Node.right_all hr) _ hn rfl (Lib.hid RC) CC
    · have hf : Node.fits leaf l = false := by unfold Node.fits; rw [hr, decide_eq_false hn]; rfl
      have e1 : Node.encS leaf l = ⟨#[]⟩ := by unfold Node.encS; rw [hf]; rfl
      have e2 : Node.encE leaf l = 5 := by unfold Node.encE; rw [hr, if_neg hn]; rfl
      rw [e1, e2]
      exact renc_long w leaf v _ (by omega) (Lib.hid RC) CC
end Go.Proofs.Ytegmffeokfahjaa
