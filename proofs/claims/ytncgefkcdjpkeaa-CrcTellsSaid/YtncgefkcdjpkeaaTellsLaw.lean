/-
  CrcTells (P2.2): for every text, place and turning number the statement's function returns true, and each argument reads behind the call as it read before. No conditions but the statement's own.
-/
import Derived.Test.YtncgefkcdjpkeaaRows
import Derived.Test.YtncgefkcdjpkeaaWalk1
import Derived.Test.YtncgefkcdjpkeaaTurned
import Derived.Test.YtncgefkcdjpkeaaBytes
import Derived.ProofKit
import Derived.SizedLaws
import Derived.OpenShut
import Derived.RegionTactic
import Derived.IntWalk
import Derived.Test.YtncgefkcdjpkeaaPost
namespace Go.Proofs.Ytncgefkcdjpkeaa
open Go.ChangeShapes Go.WideShapes Go.ChangeAt Go.RowKit
open Go.ChangeMaps (open_string shut_string)
namespace CrcTells
theorem bits_xor_u8_nat (a b : UInt8) : bits .xor .u8 (a.toNat : Int) (b.toNat : Int) = ((a ^^^ b).toNat : Int) := by
  have ha := a.toNat_lt
  have hb := b.toNat_lt
  have hx : a.toNat ^^^ b.toNat < 2 ^ 8 := Nat.xor_lt_two_pow (by omega) (by omega)
  have h1 : (BitVec.ofInt 8 (a.toNat : Int)).toNat = a.toNat := by
    rw [BitVec.ofInt_natCast, BitVec.toNat_ofNat]; exact Nat.mod_eq_of_lt (by omega)
  have h2 : (BitVec.ofInt 8 (b.toNat : Int)).toNat = b.toNat := by
    rw [BitVec.ofInt_natCast, BitVec.toNat_ofNat]; exact Nat.mod_eq_of_lt (by omega)
  show IntKind.u8.wrap ((BitVec.ofInt 8 (a.toNat : Int) ^^^ BitVec.ofInt 8 (b.toNat : Int)).toNat : Int) = _
  rw [BitVec.toNat_xor, h1, h2, UInt8.toNat_xor]
  simp only [IntKind.wrap, IntKind.bits, IntKind.signed]
  simp
  omega
theorem turned_byte (b : UInt8) (y k : Nat) : bits .xor .u8 (b.toNat : Int) ((y : Int) / 2 ^ (8 * k) % 256) = ((b ^^^ UInt8.ofNat (y / 2 ^ (8 * k))).toNat : Int) := by
  rw [← bits_xor_u8_nat]
  congr 1
set_option maxHeartbeats 400000 in
theorem ok (s : ByteArray) (hs : s.size ≤ 140737488351232) (p y : Nat) (hp : p + 4 ≤ s.size) (hy : y < 4294967296) (w : World) :
    Calls Try.prog 5 #[.string s, .int .i64 p, .int .u32 y] w fun e w' => e = .returned (.bool true) ∧ Below w.heap.size w w' := by
  have kc := fun (w : World) => Lib.run_convert_string_bytes (P := Try.prog) w 9 28 5 s Try.underlying9 Try.underlying28 Try.underlying5
  have d1 : decide ((s.size : Int) < 4) = false := by simp; omega
  have d2 : decide ((p : Int) < 0) = false := by simp
  have d3 : decide ((s.size : Int) - 4 < (p : Int)) = false := by simp; omega
  go_enter Try.func5, Try.ntmps5
  go_wp2_with fail
  refine (awake_any _).mono ?_
  rintro _ _ ⟨rfl, rfl⟩
  go_wp2
  clear d1 d2 d3
  go_loopw [8] (fun i wr => ∃ k : Nat, k ≤ 4 ∧ i = .int .i64 k ∧ OwnB wr w.heap.size 5 (.slice (some ⟨w.heap.size, 0, none⟩) s.size (grownCap w s.size 0 5)) (Crc.turn s.data.toList p y k) ∧ Below w.heap.size w wr) (fun i _ => 4 - (intOf i).toNat)
  case atStart =>
    exact ⟨0, by omega, rfl, OwnB.conv _ _ _ _ (Nat.le_refl _) (by simp only [maxLen]; omega), below_conv _ _ _⟩
  case round =>
    obtain ⟨k, hk, rfl, hown, hbel⟩ := hrel
    by_cases h4 : k < 4
    · have hlen := Crc.turn_length s.data.toList p y k
      have hl2 : s.data.toList.length = s.size := by rw [Array.length_toList]; rfl
      obtain ⟨b, HB, hc⟩ : ∃ b : UInt8, Hid ((Crc.turn s.data.toList p y k).getD (p + k) 0 = b) ∧ wr.cell? ⟨w.heap.size, p + k, none⟩ = some (.int .u8 b.toNat) :=
        have hj : p + k < (Crc.turn s.data.toList p y k).length := by omega
        ⟨(Crc.turn s.data.toList p y k)[p + k], Lib.hid (by simp [List.getD_eq_getElem?_getD, hj]), hown.cellAt (p + k) hj⟩
      have hf := hown.free (p + k) (by omega)
      have s1 : IntKind.i64.wrap ((p : Int) + k) = (p : Int) + k := IntWalk.i64_in _ (by omega)
      have s2 : ((p : Int) + k).toNat = p + k := by omega
      have s3 : (0 : Int) ≤ (p : Int) + k := by omega
      have s4 : (p : Int) + k < (s.size : Int) := by omega
      have HX := Lib.hid (turned_byte b y k)
      clear hlen hl2
      go_wp2
      go_region
      go_wp2
      go_roundw
      case rel =>
        refine ⟨k + 1, by omega, by go_num, ?_, (hbel.setCell (p := ⟨w.heap.size, p + k, none⟩) (Nat.le_refl _) _).drew⟩
        rw [HX.out, Crc.turn, HB.out]
        exact hown.set (p + k) _
      case measure => simp [intOf]; omega
    · obtain rfl : k = 4 := by omega
      have HT := Lib.hid (Crc.turn_tells s.data.toList p y (by rw [Array.length_toList]; exact hp) (by omega))
      have HZ := Lib.hid (Crc.turn_zero s.data.toList p 4 (by rw [Array.length_toList]; exact hp))
      have hsl : (Crc.turn s.data.toList p y 4).length = s.size := by rw [Crc.turn_length, Array.length_toList]; rfl
      have hst := run_string_B (P := Try.prog) wr 28 9 5 Try.underlying28 Try.underlying5 Try.underlying9 _ _ _ hown
      have c1 := sum_ok ⟨(Crc.turn s.data.toList p y 4).toArray⟩ (by rw [ByteArray.size_mk', List.size_toArray]; omega) wr
      have c2 := sum_ok s (by omega) wr
      have C1 := Lib.hid c1
      have C2 := Lib.hid c2
      clear hsl c1 c2
      by_cases h0 : y = 0
      · subst h0
        have e1 : (((Crc.on 0 (⟨(Crc.turn s.data.toList p 0 4).toArray⟩ : ByteArray).data.toList : Nat) : Int) == ((Crc.on 0 s.data.toList : Nat) : Int)) = true := by
          rw [beq_iff_eq]
          show ((Crc.on 0 (Crc.turn s.data.toList p 0 4) : Nat) : Int) = _
          rw [HZ.out]
        go_wp2_with fail
        refine C1.out.mono ?_
        rintro _ _ ⟨rfl, rfl⟩
        go_wp2_with fail
        refine C2.out.mono ?_
        rintro _ _ ⟨rfl, rfl⟩
        go_wp2
        go_ret
        exact ⟨rfl, hbel⟩
      · have e0 : ((y : Int) == 0) = false := by rw [beq_eq_false_iff_ne]; omega
        have e1 : (((Crc.on 0 (⟨(Crc.turn s.data.toList p y 4).toArray⟩ : ByteArray).data.toList : Nat) : Int) == ((Crc.on 0 s.data.toList : Nat) : Int)) = false := by
          rw [beq_eq_false_iff_ne]
          intro he
          exact HT.out h0 (Int.ofNat.inj he)
        clear h0
        go_wp2_with fail
        refine C1.out.mono ?_
        rintro _ _ ⟨rfl, rfl⟩
        go_wp2_with fail
        refine C2.out.mono ?_
        rintro _ _ ⟨rfl, rfl⟩
        go_wp2
        go_ret
        exact ⟨rfl, hbel⟩
theorem none_of (s : ByteArray) (hs : s.size ≤ 140737488351232) (p : Int) (y : Nat) (h : (s.size : Int) < 4 ∨ p < 0 ∨ (s.size : Int) - 4 < p) (hp9 : p ≤ 9223372036854775807) (w : World) :
    Calls Try.prog 5 #[.string s, .int .i64 p, .int .u32 y] w fun e w' => e = .returned (.bool true) ∧ Below w.heap.size w w' := by
  by_cases h1 : (s.size : Int) < 4
  · have d1 : decide ((s.size : Int) < 4) = true := by simp; omega
    clear h h1
    go_enter Try.func5, Try.ntmps5
    go_wp2_with fail
    refine (awake_any _).mono ?_
    rintro _ _ ⟨rfl, rfl⟩
    go_wp2
    go_ret
    exact ⟨rfl, Below.refl _ _⟩
  · have d1 : decide ((s.size : Int) < 4) = false := by simp; omega
    by_cases h2 : p < 0
    · have d2 : decide (p < 0) = true := by simp; omega
      clear h h1
      go_enter Try.func5, Try.ntmps5
      go_wp2_with fail
      refine (awake_any _).mono ?_
      rintro _ _ ⟨rfl, rfl⟩
      go_wp2
      go_ret
      exact ⟨rfl, Below.refl _ _⟩
    · have d2 : decide (p < 0) = false := by simp; omega
      have d3 : decide ((s.size : Int) - 4 < p) = true := by simp; omega
      have h3 : (0 : Int) ≤ (s.size : Int) - 4 := by omega
      clear h h1
      go_enter Try.func5, Try.ntmps5
      go_wp2_with fail
      refine (awake_any _).mono ?_
      rintro _ _ ⟨rfl, rfl⟩
      go_wp2
      go_ret
      exact ⟨rfl, Below.refl _ _⟩
theorem any (s : ByteArray) (hs : s.size ≤ 140737488351232) (p : Int) (hp9 : p ≤ 9223372036854775807) (y : Int) (h0 : 0 ≤ y) (hy : y ≤ 4294967295) (w : World) :
    Calls Try.prog 5 #[.string s, .int .i64 p, .int .u32 y] w fun e w' => e = .returned (.bool true) ∧ Below w.heap.size w w' := by
  obtain ⟨y, rfl⟩ := Int.eq_ofNat_of_zero_le h0
  by_cases h : (s.size : Int) < 4 ∨ p < 0 ∨ (s.size : Int) - 4 < p
  · exact none_of s hs p y h hp9 w
  · obtain ⟨p, rfl⟩ := Int.eq_ofNat_of_zero_le (show 0 ≤ p by omega)
    exact ok s hs p y (by omega) (by omega) w

theorem own : ownKnob Try.prog.godebug = none := by kernel_rfl

set_option maxRecDepth 100000 in
theorem lifted (os : Os) (started : os.Started) (H : Type) (enc : TypeId × Value → H) :
    ReturnsInHanded {} Try.checked os 5 .any (Rows.crcTellsSpec.pre6 enc Try.prog Try.f5 Rows.crcTellsRow.domain false) (Rows.crcTellsSpec.post enc Try.prog Try.f5 false true false false) := by
  refine returnsInHanded_of_change_sized (C := Try.checked) own started (by kernel_rfl) Try.func5
    (ChangeSpec.witness6 (enc := enc) (C := Try.checked) false ⟨#[], #[.string .empty, .int .i64 0, .int .u32 0], []⟩ 8 (by kernel_rfl) (by kernel_rfl) (by kernel_rfl) (by kernel_rfl)) ?_
  intro W base args ds gs before hval0 hW hcnd hsz _
  have hval : ∀ (j : Nat) t v, Try.f5.params[j]? = some t → args[j]? = some v → Value.okWide Try.prog W .any base t v := hval0
  have hW' := hW
  obtain ⟨p, q, hA0, hV, rfl, hfz, hnd⟩ := hW
  have hA : DataW.TrodAll enc Try.prog W 0 (fun _ => true) true Try.f5.params.toList args.toList ds p := hA0
  rw [Try.params5] at hA hval
  obtain ⟨v0, vs0, d0, ds0, p0, q0, hargs, rfl, rfl, h0, r0⟩ := trodAll_cons hA
  obtain ⟨v1, vs1, d1, ds1, p1, q1, rfl, rfl, rfl, h1, r1⟩ := trodAll_cons r0
  obtain ⟨v2, vs2, d2, ds2, p2, q2, rfl, rfl, rfl, h2, r2⟩ := trodAll_cons r1
  obtain ⟨rfl, rfl, rfl⟩ := trodAll_nil r2
  obtain rfl : args = #[v0, v1, v2] := by cases args; simp_all
  obtain ⟨rfl, rfl⟩ := trodVars_none hV
  obtain ⟨s, rfl, rfl, rfl, hs⟩ := open_string Try.underlying9 (hval 0 9 v0 rfl rfl) h0
  obtain ⟨a, rfl, rfl, rfl, wa⟩ := open_int Try.underlying3 (hval 1 3 v1 rfl rfl) h1
  obtain ⟨n, rfl, rfl, rfl, wn⟩ := open_int Try.underlying22 (hval 2 22 v2 rfl rfl) h2
  clear hA0 hval0
  simp only [List.append_nil] at hW'
  have bn := bounds_u32 wn
  have ba := bounds_i64 wa
  have za := sized_string hsz (j := 0) rfl rfl
  rw [Array.length_toList] at za
  unfold reachBytes at za
  refine (any s za a ba.2 n bn.1 bn.2 W).mono fun e W' ⟨he, hb⟩ => ?_
  subst he
  exact ⟨_, rfl, post_old hW' hb (fun _ _ _ => trodAll_cons_mk (shut_bool Try.underlying4 _) trodAll_mk0)
    (fun _ _ => trodAll_cons_mk (shut_string Try.underlying9 hs) (trodAll_cons_mk (shut_int Try.underlying3 wa) (trodAll_cons_mk (shut_int Try.underlying22 wn) trodAll_mk0)))
    (fun _ => rfl) (ok_one (by kernel_rfl) rfl (okWide_bool_mk Try.underlying4 _))⟩
end CrcTells

theorem crcTells_holds : Rows.CrcTellsSaid :=
  OpenClaim.holds_of_wide 5 Try.f5 rfl rfl rfl rfl rfl rfl rfl ⟨rfl, rfl, rfl, rfl, rfl⟩ rfl rfl rfl rfl rfl (by kernel_rfl) Try.func5 (by kernel_rfl)
    (of_decide_eq_true (by kernel_rfl)) (by unfold Func.isWrapper; first | (rw [if_pos (by decide +kernel)]; kernel_rfl) | (rw [if_neg (by decide +kernel)]; exact ⟨rfl, rfl⟩))
    (fun os started H enc _ => CrcTells.lifted os started H enc)
end Go.Proofs.Ytncgefkcdjpkeaa
