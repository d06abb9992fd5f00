/-
  Contracts of field.Tuple and of its appendPart: what each call answers, and that nothing that was in memory before has changed. Conditions: parts of at most 1048576 bytes.
-/
import Derived.Test.YtkbhjpgadhbakaaNum
namespace Go.Proofs.Ytkbhjpgadhbakaa
open Go.RowKit

def esc : List UInt8 → List UInt8
  | [] => []
  | b :: r => (if b = 0 then [0, 255] else [b]) ++ esc r
theorem esc_append (l k : List UInt8) : esc (l ++ k) = esc l ++ esc k := by
  induction l with
  | nil => rfl
  | cons b r ih => simp only [List.cons_append, esc, ih, List.append_assoc]
theorem esc_len (l : List UInt8) : l.length ≤ (esc l).length ∧ (esc l).length ≤ 2 * l.length := by
  induction l with
  | nil => simp [esc]
  | cons b r ih =>
    simp only [esc, List.length_append, List.length_cons]
    split <;> simp <;> omega
theorem esc_size (s : ByteArray) : (esc s.data.toList).length ≤ 2 * s.size := by
  have := (esc_len s.data.toList).2
  rw [Array.length_toList] at this
  exact this
def tup : List ByteArray → List UInt8
  | [] => []
  | p :: r => esc p.data.toList ++ [0, 1] ++ tup r
theorem tup_append (l k : List ByteArray) : tup (l ++ k) = tup l ++ tup k := by
  induction l with
  | nil => rfl
  | cons b r ih => simp only [List.cons_append, tup, ih, List.append_assoc]
theorem take_snoc (s : ByteArray) (k : Nat) (h : k < s.size) : s.data.toList.take (k + 1) = s.data.toList.take k ++ [s[k]] := by
  rw [List.take_succ_eq_append_getElem (by simpa using h)]; rfl
theorem esc_one_zero (s : ByteArray) (k : Nat) (h : k < s.size) (h0 : s[k] = 0) : esc (s.data.toList.take (k + 1)) = esc (s.data.toList.take k) ++ [0] ++ [255] := by
  rw [take_snoc s k h, esc_append, h0]; simp [esc]
theorem esc_one (s : ByteArray) (k : Nat) (h : k < s.size) (h0 : ¬ s[k] = 0) : esc (s.data.toList.take (k + 1)) = esc (s.data.toList.take k) ++ [s[k]] := by
  rw [take_snoc s k h, esc_append]; simp [esc, h0]

set_option maxHeartbeats 400000 in
theorem appendPart_any (s : ByteArray) (hs : s.size ≤ 1048576) (v : Value) (l : List UInt8) (hl : l.length ≤ 1048576) (base : Nat) (w : World) (hb : base ≤ w.heap.size) (hown : OwnB w base 5 v l) :
    Calls Try.prog 31 #[v, .string s] w fun e w' => ∃ v', e = .returned v' ∧ OwnB w' base 5 v' (l ++ (esc s.data.toList ++ [0, 1])) ∧ Below base w w' := by
  go_enter Try.func31, Try.ntmps31
  go_wp2
  go_loopw [0, 5, 8] (fun b _ i wr => ∃ k : Nat, k ≤ s.size ∧ i = .int .i64 k ∧ OwnB wr base 5 b (l ++ esc (s.data.toList.take k)) ∧ Below base w wr) (fun _ _ i _ => s.size - (intOf i).toNat)
  case atStart => exact ⟨0, Nat.zero_le _, rfl, by simpa [esc] using hown, Below.refl _ _⟩
  case round =>
    obtain ⟨k, hk, rfl, hownk, hbel⟩ := hrel
    clear hown
    have hge := Nat.le_trans hb hbel.size
    have hlen := (esc_len (s.data.toList.take k)).2
    have hlen2 : (s.data.toList.take k).length ≤ k := List.length_take_le _ _
    have HC := Lib.hid (show (l ++ esc (s.data.toList.take k)).length + 2 ≤ 140737488355328 by rw [List.length_append]; omega)
    clear hlen hlen2
    by_cases h : k < s.size
    · by_cases h0 : s[k] = 0
      · have HS := Lib.hid (esc_one_zero s k h h0)
        have HV : ((s[k].toNat : Int)) = ((0 : UInt8).toNat : Int) := by rw [h0]
        go_wp2_with (first
          | (at_builtin; refine wpList_append_byte _ rfl (.tmp 11) (.tmp 15) 48 rfl _ 5 Try.underlying48 byteInfo _ _ rfl hownk _ 0 rfl rfl (by have := HC.out; omega) hge ?_; intro v1 w1 hown1 hbel1; have hge1 := Nat.le_trans hge hbel1.size)
          | (at_builtin; refine wpList_append_byte _ rfl (.tmp 21) (.tmp 22) 48 rfl _ 5 Try.underlying48 byteInfo _ _ rfl hown1 _ 255 rfl rfl (by have := HC.out; rw [List.length_append, List.length_singleton]; omega) hge1 ?_; intro v2 w2 hown2 hbel2))
        go_roundw
        case rel =>
          refine ⟨k + 1, by omega, by go_num, ?_, (hbel.trans hbel1).trans hbel2⟩
          rw [HS.out]
          simpa only [List.append_assoc] using hown2
        case measure => simp [intOf]; omega
      · have HS := Lib.hid (esc_one s k h h0)
        have HZ : ((s[k].toNat : Int) == 0) = false := by
          rw [beq_eq_false_iff_ne]
          intro e
          exact h0 (UInt8.toNat_inj.1 (by show _ = 0; omega))
        clear h0
        go_wp2_with (at_builtin; refine wpList_append_byte _ rfl (.tmp 11) (.tmp 15) 48 rfl _ 5 Try.underlying48 byteInfo _ _ rfl hownk _ s[k] rfl rfl (by have := HC.out; omega) hge ?_; intro v1 w1 hown1 hbel1)
        go_roundw
        case rel =>
          refine ⟨k + 1, by omega, by go_num, ?_, hbel.trans hbel1⟩
          rw [HS.out]
          simpa only [List.append_assoc] using hown1
        case measure => simp [intOf]; omega
    · obtain rfl : k = s.size := by omega
      have HE := Lib.hid (List.take_of_length_le (l := s.data.toList) (i := s.size) (by rw [Array.length_toList]; exact Nat.le_refl _))
      go_wp2_with (at_builtin; refine wpList_append_bytes _ rfl (.tmp 25) (.tmp 26) 48 rfl _ 5 Try.underlying48 byteInfo _ _ rfl hownk [0, 1] _ rfl 2 rfl rfl HC.out hge ?_; intro v1 w1 hown1 hbel1)
      go_ret
      refine ⟨v1, rfl, ?_, hbel.trans hbel1⟩
      rw [HE.out] at hown1
      simpa only [List.append_assoc] using hown1

/-- a list of texts that lies in memory -/
def StrsAt (w : World) (b off : Nat) (L : List ByteArray) : Prop := ∀ i (h : i < L.length), w.cell? ⟨b, off + i, none⟩ = some (.string L[i])
theorem StrsAt.below {w w' : World} {b off : Nat} {L : List ByteArray} {B : Nat} (h : StrsAt w b off L) (hb : Below B w w') (hB : b < B) : StrsAt w' b off L :=
  fun i hi => (hb.cell (p := ⟨b, off + i, none⟩) hB).trans (h i hi)
theorem tup_snoc (L : List ByteArray) (k : Nat) (h : k < L.length) : tup (L.take (k + 1)) = tup (L.take k) ++ (esc L[k].data.toList ++ [0, 1]) := by
  rw [List.take_succ_eq_append_getElem h, tup_append]
  simp [tup]
theorem tup_take_len (L : List ByteArray) (k : Nat) (h : k < L.length) : (tup (L.take k)).length + L[k].size + 2 ≤ (tup L).length := by
  have e : L = L.take k ++ L[k] :: L.drop (k + 1) := by simp
  have := (esc_len L[k].data.toList).1
  rw [Array.length_toList] at this
  have h2 : L[k].data.size = L[k].size := rfl
  conv => rhs; rw [e]
  rw [tup_append]
  simp only [tup, List.length_append, List.length_cons, List.length_nil]
  omega
theorem tup_nil_take (L : List ByteArray) : tup (L.take 0) = [] := rfl

theorem tuple_many (A : Option Addr) (n cap : Nat) (hn : 16 < n) (w : World) :
    Calls Try.prog 19 #[.slice A n cap] w fun e w' => e = .returned (.tuple #[.string ⟨#[]⟩, .int .i64 1]) ∧ w = w' := by
  have hd : decide ((16 : Int) < (n : Int)) = true := by simp; omega
  go_enter Try.func19, Try.ntmps19
  go_wp2
  go_ret2
  exact ⟨rfl, rfl⟩
theorem tuple_none (w : World) :
    Calls Try.prog 19 #[.slice none 0 0] w fun e w' => e = .returned (.tuple #[.string ⟨#[]⟩, .int .i64 0]) ∧ w = w' := by
  go_enter Try.func19, Try.ntmps19
  go_wp2
  go_loop [4, 12] (fun b i => b = .slice none 0 0 ∧ i = .int .i64 0) (fun _ _ => 0)
  case atStart => exact ⟨rfl, rfl⟩
  case round =>
    obtain ⟨rfl, rfl⟩ := hrel
    have hc := run_string_B (P := Try.prog) w 48 9 5 Try.underlying48 Try.underlying5 Try.underlying9 _ _ _ (OwnB.nil w 0 5)
    go_wp2
    go_ret2
    exact ⟨rfl, rfl⟩
set_option maxHeartbeats 800000 in
theorem tuple_ok (b off cap : Nat) (L : List ByteArray) (hL : L.length ≤ 16) (ht : (tup L).length ≤ 4096) (w : World) (hw : StrsAt w b off L) (hb : b < w.heap.size) :
    Calls Try.prog 19 #[.slice (some ⟨b, off, none⟩) L.length cap] w fun e w' => e = .returned (.tuple #[.string ⟨(tup L).toArray⟩, .int .i64 0]) ∧ Below w.heap.size w w' := by
  have HW := Lib.hid hw
  clear hw
  have hd : decide ((16 : Int) < (L.length : Int)) = false := by simp; omega
  go_enter Try.func19, Try.ntmps19
  go_wp2
  clear hd
  go_loopw [4, 6, 12] (fun b _ i wr => ∃ k : Nat, k ≤ L.length ∧ i = .int .i64 k ∧ OwnB wr w.heap.size 5 b (tup (L.take k)) ∧ Below w.heap.size w wr) (fun _ _ i _ => L.length - (intOf i).toNat)
  case atStart => exact ⟨0, Nat.zero_le _, rfl, OwnB.nil _ _ _, Below.refl _ _⟩
  case round =>
    obtain ⟨k, hk, rfl, hown, hbel⟩ := hrel
    have hge := hbel.size
    by_cases h : k < L.length
    · have htl := tup_take_len L k h
      have HS := Lib.hid (tup_snoc L k h)
      have hc := (hbel.cell (p := ⟨b, off + k, none⟩) hb).trans (HW.out k h)
      have hd : decide ((4096 : Int) < (L[k].size : Int)) = false := by simp; omega
      have HC := Lib.hid (appendPart_any L[k] (by omega) u4 (tup (L.take k)) (by omega) w.heap.size wr hge hown)
      go_wp2_with (go_at_call 31; refine HC.out.mono ?_; rintro e w1 ⟨v1, rfl, hown1, hbel1⟩)
      go_roundw
      case rel =>
        refine ⟨k + 1, by omega, by go_num, ?_, hbel.trans hbel1⟩
        rw [HS.out]
        exact hown1
      case measure => simp [intOf]; omega
    · obtain rfl : k = L.length := by omega
      rw [List.take_length] at hown
      obtain ⟨A, c, rfl⟩ := hown.form
      have hc := run_string_B (P := Try.prog) wr 48 9 5 Try.underlying48 Try.underlying5 Try.underlying9 _ _ _ hown
      have hd : decide ((4096 : Int) < ((tup L).length : Int)) = false := by simp; omega
      go_wp2
      go_ret2
      exact ⟨rfl, hbel⟩
set_option maxHeartbeats 800000 in
theorem tuple_long (b off cap : Nat) (L : List ByteArray) (hL : L.length ≤ 16) (ht : 4096 < (tup L).length) (w : World) (hw : StrsAt w b off L) (hb : b < w.heap.size) :
    Calls Try.prog 19 #[.slice (some ⟨b, off, none⟩) L.length cap] w fun e w' => e = .returned (.tuple #[.string ⟨#[]⟩, .int .i64 5]) ∧ Below w.heap.size w w' := by
  have HW := Lib.hid hw
  have HT := Lib.hid ht
  clear hw ht
  have hd : decide ((16 : Int) < (L.length : Int)) = false := by simp; omega
  go_enter Try.func19, Try.ntmps19
  go_wp2
  clear hd
  go_loopw [4, 6, 12] (fun b _ i wr => ∃ k : Nat, k ≤ L.length ∧ i = .int .i64 k ∧ OwnB wr w.heap.size 5 b (tup (L.take k)) ∧ Below w.heap.size w wr ∧ (tup (L.take k)).length ≤ k * 8194) (fun _ _ i _ => L.length - (intOf i).toNat)
  case atStart => exact ⟨0, Nat.zero_le _, rfl, OwnB.nil _ _ _, Below.refl _ _, by simp [tup]⟩
  case round =>
    obtain ⟨k, hk, rfl, hown, hbel, hlk⟩ := hrel
    have hge := hbel.size
    by_cases h : k < L.length
    · have HS := Lib.hid (tup_snoc L k h)
      have hc := (hbel.cell (p := ⟨b, off + k, none⟩) hb).trans (HW.out k h)
      by_cases hbig : 4096 < L[k].size
      · have hd : decide ((4096 : Int) < (L[k].size : Int)) = true := by simp; omega
        go_wp2
        go_ret2
        exact ⟨rfl, hbel⟩
      · have hd : decide ((4096 : Int) < (L[k].size : Int)) = false := by simp; omega
        have HC := Lib.hid (appendPart_any L[k] (by omega) u4 (tup (L.take k)) (by omega) w.heap.size wr hge hown)
        have hel := esc_size L[k]
        have HL := Lib.hid (show (tup (L.take k) ++ (esc L[k].data.toList ++ [0, 1])).length ≤ (k + 1) * 8194 by simp only [List.length_append, List.length_cons, List.length_nil]; omega)
        clear hel
        go_wp2_with (go_at_call 31; refine HC.out.mono ?_; rintro e w1 ⟨v1, rfl, hown1, hbel1⟩)
        go_roundw
        case rel =>
          refine ⟨k + 1, by omega, by go_num, ?_, hbel.trans hbel1, ?_⟩
          · rw [HS.out]
            exact hown1
          · rw [HS.out]
            exact HL.out
        case measure => simp [intOf]; omega
    · obtain rfl : k = L.length := by omega
      rw [List.take_length] at hown
      obtain ⟨A, c, rfl⟩ := hown.form
      have hd : decide ((4096 : Int) < ((tup L).length : Int)) = true := by have := HT.out; simp; omega
      go_wp2
      go_ret2
      exact ⟨rfl, hbel⟩
end Go.Proofs.Ytkbhjpgadhbakaa
