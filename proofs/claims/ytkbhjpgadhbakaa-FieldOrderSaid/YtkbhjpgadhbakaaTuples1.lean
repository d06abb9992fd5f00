/-
  Contracts of the reference's Tuple and of the statements' own long: what each call answers, and that nothing that was in memory before has changed. No conditions but those typed.
-/
import Derived.Test.YtkbhjpgadhbakaaParts1
import Derived.WalkLawsBesides
namespace Go.Proofs.Ytkbhjpgadhbakaa
open Go.RowKit

/-- what long answers -/
def LongGives (L : List ByteArray) (w : World) (e : Ending) (w' : World) : Prop := ∃ b : Bool, e = .returned (.bool b) ∧ w = w' ∧ (b = false → L.length ≤ 40 ∧ ∀ j (h : j < L.length), L[j].size ≤ 9000)
theorem LongGives.yes {L : List ByteArray} {w : World} : LongGives L w (.returned (.bool true)) w := ⟨true, rfl, rfl, fun h => by cases h⟩
theorem LongGives.no {L : List ByteArray} {w : World} (h1 : L.length ≤ 40) (h2 : ∀ j (h : j < L.length), L[j].size ≤ 9000) : LongGives L w (.returned (.bool false)) w := ⟨false, rfl, rfl, fun _ => ⟨h1, h2⟩⟩

theorem long_none (A : Option Addr) (cap : Nat) (w : World) : Calls Try.prog 18 #[.slice A 0 cap] w (LongGives [] w) := by
  go_enter Try.func18, Try.ntmps18
  go_wp2
  go_loop [3, 4] (fun n i => n = .int .i64 0 ∧ i = .int .i64 0) (fun _ _ => 0)
  case atStart => exact ⟨rfl, rfl⟩
  case round =>
    obtain ⟨rfl, rfl⟩ := hrel
    go_wp2
    go_ret
    exact LongGives.no (by simp) (fun j h => absurd h (by simp))
set_option maxHeartbeats 800000 in
theorem long_some (b off cap : Nat) (L : List ByteArray) (w : World) (hA : StrsAt w b off L) (h63 : L.length ≤ 9223372036854775807) : Calls Try.prog 18 #[.slice (some ⟨b, off, none⟩) L.length cap] w (LongGives L w) := by
  have HA := Lib.hid hA
  clear hA
  go_enter Try.func18, Try.ntmps18
  go_wp2
  go_loop [3, 4] (fun n i => ∃ k m : Nat, k ≤ L.length ∧ k ≤ 40 ∧ m ≤ 18001 ∧ n = .int .i64 m ∧ i = .int .i64 k ∧ Hid (m ≤ 9000 → ∀ j (h : j < L.length), j < k → L[j].size ≤ 9000)) (fun _ i => 40 - (intOf i).toNat)
  case atStart => exact ⟨0, 0, by omega, by omega, by omega, rfl, rfl, Lib.hid (fun _ j _ h => absurd h (by omega))⟩
  case round =>
    obtain ⟨k, m, hk, hk40, hm, rfl, rfl, hall⟩ := hrel
    by_cases h1 : k < L.length
    · have d1 : decide ((k : Int) < L.length) = true := by simp; omega
      have hc := HA.out k h1
      by_cases h2 : k < 40
      · have d2 : decide ((k : Int) < 40) = true := by simp; omega
        by_cases h3 : m ≤ 9000
        · have d3 : decide ((m : Int) ≤ 9000) = true := by simp; omega
          go_wp2
          go_round
          case rel =>
            refine ⟨k + 1, m + min 9001 L[k].size, by omega, by omega, by omega, ?_, by go_num, Lib.hid ?_⟩
            · congr 1
              split <;> omega
            · intro h9 j hj hjk
              by_cases e : j = k
              · subst e; omega
              · exact hall.out (by omega) j hj (by omega)
          case measure => simp [intOf]; omega
        · have d3 : decide ((m : Int) ≤ 9000) = false := by simp; omega
          have d4 : decide ((9000 : Int) < m) = true := by simp; omega
          by_cases h4 : 40 < L.length
          · have d5 : decide ((40 : Int) < L.length) = true := by simp; omega
            go_wp2
            go_ret
            exact LongGives.yes
          · have d5 : decide ((40 : Int) < L.length) = false := by simp; omega
            go_wp2
            go_ret
            exact LongGives.yes
      · have d2 : decide ((k : Int) < 40) = false := by simp; omega
        have d5 : decide ((40 : Int) < L.length) = true := by simp; omega
        go_wp2
        go_ret
        exact LongGives.yes
    · have d1 : decide ((k : Int) < L.length) = false := by simp; omega
      have d5 : decide ((40 : Int) < L.length) = false := by simp; omega
      by_cases h3 : m ≤ 9000
      · have d3 : decide ((9000 : Int) < m) = false := by simp; omega
        go_wp2
        go_ret
        exact LongGives.no (by omega) (fun j hj => hall.out h3 j hj (by omega))
      · have d3 : decide ((9000 : Int) < m) = true := by simp; omega
        go_wp2
        go_ret
        exact LongGives.yes
theorem long_any (A : Option Addr) (cap : Nat) (L : List ByteArray) (w : World) (hA : Reads w A L) (h63 : L.length ≤ 9223372036854775807) : Calls Try.prog 18 #[.slice A L.length cap] w (LongGives L w) := by
  rcases hA with rfl | ⟨b, off, rfl, _, hA⟩
  · exact long_none A cap w
  · exact long_some b off cap L w hA h63

/-- the bytes are those that are looked for, or both are too many -/
def Near (B X : List UInt8) : Prop := B = X ∨ (4096 < B.length ∧ 4096 < X.length)
theorem Near.more {B X Y : List UInt8} (h : Near B X) (k : List UInt8) (hY : Y = X ++ k) : Near (B ++ k) Y := by
  subst hY
  rcases h with rfl | ⟨h1, h2⟩
  · exact .inl rfl
  · exact .inr ⟨by rw [List.length_append]; omega, by rw [List.length_append]; omega⟩
theorem esc_take_le (l : List UInt8) (k : Nat) : (esc (l.take k)).length ≤ (esc l).length := by
  conv => rhs; rw [← List.take_append_drop k l, esc_append, List.length_append]
  omega
theorem near_end {B : List UInt8} {P l : List UInt8} {k : Nat} (h : Near B (P ++ esc (l.take k))) (hB : 4096 < B.length) : Near B (P ++ esc l) := by
  have h1 := esc_take_le l k
  right
  refine ⟨hB, ?_⟩
  rw [List.length_append]
  rcases h with rfl | ⟨_, h2⟩
  · rw [List.length_append] at hB; omega
  · rw [List.length_append] at h2; omega

theorem rtuple_many (A : Option Addr) (n cap : Nat) (hn : 16 < n) (w : World) :
    Calls Try.prog 20 #[.slice A n cap] w fun e w' => e = .returned (.tuple #[.string ⟨#[]⟩, .int .i64 1]) ∧ w = w' := by
  have hd : decide ((16 : Int) < (n : Int)) = true := by simp; omega
  go_enter Try.func20, Try.ntmps20
  go_wp2
  go_ret2
  exact ⟨rfl, rfl⟩
theorem rtuple_none (A : Option Addr) (cap : Nat) (w : World) :
    Calls Try.prog 20 #[.slice A 0 cap] w fun e w' => e = .returned (.tuple #[.string ⟨#[]⟩, .int .i64 0]) ∧ Below w.heap.size w w' := by
  have hc := run_string_B (P := Try.prog) _ 48 9 5 Try.underlying48 Try.underlying5 Try.underlying9 _ _ _ (OwnB.empty w w.heap.size 5 (Nat.le_refl _))
  go_enter Try.func20, Try.ntmps20
  go_wp2
  go_loop [4, 5] (fun b i => b = .slice (some ⟨w.heap.size, 0, none⟩) 0 0 ∧ i = .int .i64 0) (fun _ _ => 0)
  case atStart => exact ⟨rfl, rfl⟩
  case round =>
    obtain ⟨rfl, rfl⟩ := hrel
    go_wp2
    go_ret2
    exact ⟨rfl, (Below.refl _ _).alloc (Nat.le_refl _) _⟩

theorem tuple_nothing (A : Option Addr) (cap : Nat) (w : World) :
    Calls Try.prog 19 #[.slice A 0 cap] w fun e w' => e = .returned (.tuple #[.string ⟨#[]⟩, .int .i64 0]) ∧ w = w' := by
  go_enter Try.func19, Try.ntmps19
  go_wp2
  go_loop [4, 12] (fun b i => b = .slice none 0 0 ∧ i = .int .i64 0) (fun _ _ => 0)
  case atStart => exact ⟨rfl, rfl⟩
  case round =>
    obtain ⟨rfl, rfl⟩ := hrel
    have hc := run_string_B (P := Try.prog) w 48 9 5 Try.underlying48 Try.underlying5 Try.underlying9 _ _ _ (OwnB.nil w 0 5)
    go_wp2
    go_ret2
    exact ⟨rfl, rfl⟩
/-- what the reference's Tuple answers for a list of at most 16 texts -/
def tupleV (L : List ByteArray) : Value := if (tup L).length ≤ 4096 then .tuple #[.string ⟨(tup L).toArray⟩, .int .i64 0] else .tuple #[.string ⟨#[]⟩, .int .i64 5]
theorem tupleV_ok (L : List ByteArray) (h : (tup L).length ≤ 4096) : tupleV L = .tuple #[.string ⟨(tup L).toArray⟩, .int .i64 0] := if_pos h
theorem tupleV_long (L : List ByteArray) (h : 4096 < (tup L).length) : tupleV L = .tuple #[.string ⟨#[]⟩, .int .i64 5] := if_neg (by omega)

set_option maxHeartbeats 3200000 in
theorem rtuple_some (b off cap : Nat) (L : List ByteArray) (hL : L.length ≤ 16) (hsz : ∀ j (h : j < L.length), L[j].size ≤ 9000) (w : World) (hw : StrsAt w b off L) (hb : b < w.heap.size) :
    Calls Try.prog 20 #[.slice (some ⟨b, off, none⟩) L.length cap] w fun e w' => e = .returned (tupleV L) ∧ Below w.heap.size w w' := by
  have HW := Lib.hid hw
  have HSZ := Lib.hid hsz
  clear hw hsz
  have hd : decide ((16 : Int) < (L.length : Int)) = false := by simp; omega
  go_enter Try.func20, Try.ntmps20
  go_wp2
  clear hd
  go_loopw [4, 5, 6] (fun v i _ wr => ∃ (k : Nat) (B : List UInt8), k ≤ L.length ∧ i = .int .i64 k ∧ OwnB wr w.heap.size 5 v B ∧ Hid (Near B (tup (L.take k))) ∧ B.length ≤ 4098 + 2 * k ∧ Below w.heap.size w wr) (fun _ i _ _ => L.length - (intOf i).toNat)
  case atStart => exact ⟨0, [], Nat.zero_le _, rfl, OwnB.empty _ _ _ (Nat.le_refl _), Lib.hid (.inl rfl), by simp, (Below.refl _ _).alloc (Nat.le_refl _) _⟩
  case round =>
    obtain ⟨k, B0, hk, rfl, hown0, hnear0, hlen0, hbel0⟩ := hrel
    by_cases h : k < L.length
    · have hsize := HSZ.out k h
      have hdk : decide ((k : Int) < L.length) = true := by simp; omega
      obtain ⟨wo, rfl⟩ : ∃ wo : World, wo = wr := ⟨_, rfl⟩
      go_wp2
      clear hdk
      go_loopw [4, 6] (fun v i wr => ∃ (j : Nat) (B : List UInt8), j ≤ L[k].size ∧ i = .int .i64 j ∧ OwnB wr w.heap.size 5 v B ∧ Hid (Near B (tup (L.take k) ++ esc (L[k].data.toList.take j))) ∧ B.length ≤ 4098 + 2 * k ∧ Below w.heap.size w wr) (fun _ i _ => L[k].size - (intOf i).toNat)
      case atStart => exact ⟨0, B0, by omega, rfl, hown0, Lib.hid (by simpa [esc] using hnear0.out), hlen0, hbel0⟩
      case round =>
        obtain ⟨j, B, hj, rfl, hown, hnear, hlen, hbel⟩ := hrel
        clear hown0 hbel0
        have hge := hbel.size
        have hc := (hbel.cell (p := ⟨b, off + k, none⟩) hb).trans (HW.out k h)
        have hfin : ∀ hb2 : Near B (tup (L.take k) ++ esc L[k].data.toList), Near (B ++ [0, 1]) (tup (L.take (k + 1))) := fun hb2 => hb2.more [0, 1] (by rw [tup_snoc L k h, List.append_assoc])
        have HFIN := Lib.hid hfin
        clear hfin
        obtain ⟨A, c, rfl⟩ := hown.form
        by_cases hjs : j < L[k].size
        · have d1 : decide ((j : Int) < L[k].size) = true := by simp; omega
          by_cases hB : B.length ≤ 4096
          · have d2 : decide ((B.length : Int) ≤ 4096) = true := by simp; omega
            have hX : Hid (B = tup (L.take k) ++ esc (L[k].data.toList.take j)) := Lib.hid (by
              rcases hnear.out with e | ⟨e, _⟩
              · exact e
              · omega)
            by_cases h0 : L[k][j] = 0
            · have HS := Lib.hid (esc_one_zero L[k] j hjs h0)
              have HV : ((L[k][j].toNat : Int)) = ((0 : UInt8).toNat : Int) := by rw [h0]
              go_wp2_with (first
                | (at_builtin; refine wpList_append_byte _ rfl (.tmp 31) (.tmp 38) 48 rfl _ 5 Try.underlying48 byteInfo _ _ rfl hown _ 0 rfl rfl (by omega) hge ?_; intro v1 w1 hown1 hbel1; have hge1 := Nat.le_trans hge hbel1.size; have hc1 := (hbel1.cell (p := ⟨b, off + k, none⟩) hb).trans hc)
                | (at_builtin; refine wpList_append_byte _ rfl (.tmp 47) (.tmp 48) 48 rfl _ 5 Try.underlying48 byteInfo _ _ rfl hown1 _ 255 rfl rfl (by rw [List.length_append, List.length_singleton]; omega) hge1 ?_; intro v2 w2 hown2 hbel2))
              go_roundw
              case rel =>
                refine ⟨j + 1, B ++ [0] ++ [255], by omega, by go_num, hown2, Lib.hid (.inl ?_), by simp only [List.length_append, List.length_cons, List.length_nil]; omega, (hbel.trans hbel1).trans hbel2⟩
                rw [HS.out, hX.out]
                simp only [List.append_assoc]
              case measure => simp [intOf]; omega
            · have HS := Lib.hid (esc_one L[k] j hjs h0)
              have HZ : ((L[k][j].toNat : Int) == 0) = false := by
                rw [beq_eq_false_iff_ne]
                intro e
                exact h0 (UInt8.toNat_inj.1 (by show _ = 0; omega))
              clear h0
              go_wp2_with (at_builtin; refine wpList_append_byte _ rfl (.tmp 31) (.tmp 38) 48 rfl _ 5 Try.underlying48 byteInfo _ _ rfl hown _ L[k][j] rfl rfl (by omega) hge ?_; intro v1 w1 hown1 hbel1; have hc1 := (hbel1.cell (p := ⟨b, off + k, none⟩) hb).trans hc)
              go_roundw
              case rel =>
                refine ⟨j + 1, B ++ [L[k][j]], by omega, by go_num, hown1, Lib.hid (.inl ?_), by simp only [List.length_append, List.length_cons, List.length_nil]; omega, hbel.trans hbel1⟩
                rw [HS.out, hX.out]
                simp only [List.append_assoc]
              case measure => simp [intOf]; omega
          · have d2 : decide ((B.length : Int) ≤ 4096) = false := by simp; omega
            have HF := Lib.hid (HFIN.out (near_end hnear.out (by omega)))
            go_wp2_with (at_builtin; refine wpList_append_bytes _ rfl (.tmp 50) (.tmp 51) 48 rfl _ 5 Try.underlying48 byteInfo _ _ rfl hown [0, 1] _ rfl 2 rfl rfl (by simp only [List.length_cons, List.length_nil]; omega) hge ?_; intro v1 w1 hown1 hbel1)
            go_roundw
            case rel => exact ⟨k + 1, B ++ [0, 1], by omega, by go_num, hown1, HF, by simp only [List.length_append, List.length_cons, List.length_nil]; omega, hbel.trans hbel1⟩
            case measure => simp [intOf]; omega
        · obtain rfl : j = L[k].size := by omega
          have d1 : decide ((L[k].size : Int) < L[k].size) = false := by simp
          have HF := Lib.hid (HFIN.out (by
            have e := hnear.out
            rwa [List.take_of_length_le (l := L[k].data.toList) (by rw [Array.length_toList]; exact Nat.le_refl _)] at e))
          go_wp2_with (at_builtin; refine wpList_append_bytes _ rfl (.tmp 50) (.tmp 51) 48 rfl _ 5 Try.underlying48 byteInfo _ _ rfl hown [0, 1] _ rfl 2 rfl rfl (by simp only [List.length_cons, List.length_nil]; omega) hge ?_; intro v1 w1 hown1 hbel1)
          go_roundw
          case rel => exact ⟨k + 1, B ++ [0, 1], by omega, by go_num, hown1, HF, by simp only [List.length_append, List.length_cons, List.length_nil]; omega, hbel.trans hbel1⟩
          case measure => simp [intOf]; omega
    · obtain rfl : k = L.length := by omega
      have hn := hnear0.out
      rw [List.take_length] at hn
      obtain ⟨A, c, rfl⟩ := hown0.form
      rcases hn with rfl | ⟨h1, h2⟩
      · by_cases h4 : (tup L).length ≤ 4096
        · have hc := run_string_B (P := Try.prog) wr 48 9 5 Try.underlying48 Try.underlying5 Try.underlying9 _ _ _ hown0
          have hd : decide ((4096 : Int) < ((tup L).length : Int)) = false := by simp; omega
          have HT := Lib.hid (tupleV_ok L h4)
          go_wp2
          go_ret2
          exact ⟨by rw [HT.out]; rfl, hbel0⟩
        · have hd : decide ((4096 : Int) < ((tup L).length : Int)) = true := by simp; omega
          have HT := Lib.hid (tupleV_long L (by omega))
          go_wp2
          go_ret2
          exact ⟨by rw [HT.out]; rfl, hbel0⟩
      · have hd : decide ((4096 : Int) < (B0.length : Int)) = true := by simp; omega
        have HT := Lib.hid (tupleV_long L h2)
        go_wp2
        go_ret2
        exact ⟨by rw [HT.out]; rfl, hbel0⟩

/-- the two Tuples, of any list that can be read, of texts of at most 9000 bytes -/
def tupleOf (L : List ByteArray) : Value := if 16 < L.length then .tuple #[.string ⟨#[]⟩, .int .i64 1] else tupleV L
theorem tuple_any (A : Option Addr) (cap : Nat) (L : List ByteArray) (w : World) (hA : Reads w A L) :
    Calls Try.prog 19 #[.slice A L.length cap] w fun e w' => e = .returned (tupleOf L) ∧ Below w.heap.size w w' := by
  by_cases h16 : 16 < L.length
  · rw [tupleOf, if_pos h16]
    exact (tuple_many A L.length cap h16 w).mono fun _ _ ⟨h1, h2⟩ => ⟨h1, h2 ▸ Below.refl _ _⟩
  · rw [tupleOf, if_neg h16]
    rcases hA with rfl | ⟨b, off, rfl, hb, hA⟩
    · exact (tuple_nothing A cap w).mono fun _ _ ⟨h1, h2⟩ => ⟨h1, h2 ▸ Below.refl _ _⟩
    · by_cases h4 : (tup L).length ≤ 4096
      · rw [tupleV_ok L h4]
        exact tuple_ok b off cap L (by omega) h4 w hA hb
      · rw [tupleV_long L (by omega)]
        exact tuple_long b off cap L (by omega) (by omega) w hA hb
theorem rtuple_any (A : Option Addr) (cap : Nat) (L : List ByteArray) (hsz : ∀ j (h : j < L.length), L[j].size ≤ 9000) (w : World) (hA : Reads w A L) :
    Calls Try.prog 20 #[.slice A L.length cap] w fun e w' => e = .returned (tupleOf L) ∧ Below w.heap.size w w' := by
  by_cases h16 : 16 < L.length
  · rw [tupleOf, if_pos h16]
    exact (rtuple_many A L.length cap h16 w).mono fun _ _ ⟨h1, h2⟩ => ⟨h1, h2 ▸ Below.refl _ _⟩
  · rw [tupleOf, if_neg h16]
    rcases hA with rfl | ⟨b, off, rfl, hb, hA⟩
    · exact rtuple_none A cap w
    · exact rtuple_some b off cap L (by omega) hsz w hA hb
end Go.Proofs.Ytkbhjpgadhbakaa
