/-
  Contracts of the statements' helpers (rollbooklaw03.sector, text): what each answers, and that nothing that was in memory before has changed. No conditions but those typed.
-/
import Derived.Test.YtbjiliodelndcaaProg
import Derived.Test.YtbjiliodelndcaaBytes
import Derived.KernelRfl
namespace Go.Proofs.Ytbjiliodelndcaa
open Go.RowKit
/-- a byte k times, then noughts, n in all -/
def filled (n k : Nat) (c : UInt8) : List UInt8 := List.replicate k c ++ List.replicate (n - k) 0
def zeros (n : Nat) : Array Value := Array.replicate n (.int .u8 0)
theorem filled_length (n k : Nat) (c : UInt8) (h : k ≤ n) : (filled n k c).length = n := by unfold filled; simp; omega
theorem filled_set (n k : Nat) (c : UInt8) (h : k < n) : (filled n k c).set k c = filled n (k + 1) c := by
  unfold filled
  rw [List.set_append_right _ _ (by simp), show k - (List.replicate k c).length = 0 from by simp]
  rw [show n - k = (n - (k + 1)) + 1 from by omega, List.replicate_succ, List.set_cons_zero, List.replicate_succ']
  simp
theorem filled_zero (n : Nat) (c : UInt8) : (bv (filled n 0 c)).toArray = zeros n := by
  unfold filled zeros bv
  simp
theorem filled_all (n : Nat) (c : UInt8) : filled n n c = List.replicate n c := by unfold filled; simp
def sectorOf (c : UInt8) : ByteArray := ⟨(List.replicate 128 c).toArray⟩
theorem sectorOf_size (c : UInt8) : (sectorOf c).size = 128 := by
  unfold sectorOf
  rw [ByteArray.size_mk', List.size_toArray, List.length_replicate]
theorem sectorOf_inj (a b : UInt8) (h : sectorOf a = sectorOf b) : a = b := by
  have h1 := congrArg (fun s : ByteArray => s.data.toList[0]?) h
  simpa [sectorOf] using h1
set_option maxHeartbeats 400000 in
theorem sector_ok (c : UInt8) (w : World) : Calls Try.prog 21 #[.int .u8 c.toNat] w fun e w' => e = .returned (.string (sectorOf c)) ∧ Below w.heap.size w w' := by
  have hmk : ∀ w : World, (Instr.makeSlice 59 (.int .i64 128) (.int .i64 128)).run Try.prog w = .ok (.slice (some ⟨w.heap.size, 0, none⟩) 128 128) (w.alloc (.cells (zeros 128) 5)) := fun _ => by kernel_rfl
  have H0 : Hid (OwnB (w.alloc (.cells (zeros 128) 5)) w.heap.size 5 (.slice (some ⟨w.heap.size, 0, none⟩) 128 128) (filled 128 0 c)) :=
    Lib.hid (OwnB.lit w w.heap.size 5 (Nat.le_refl _) (filled 128 0 c) (by rw [filled_length _ _ _ (by omega)]; simp [maxLen]) _ (filled_zero 128 c).symm 128 (by rw [filled_length _ _ _ (by omega)]))
  go_enter Try.func21, Try.ntmps21
  go_wp2
  clear hmk
  go_loopw [4] (fun i wr => ∃ k : Nat, k ≤ 128 ∧ i = .int .i64 k ∧ OwnB wr w.heap.size 5 (.slice (some ⟨w.heap.size, 0, none⟩) 128 128) (filled 128 k c) ∧ Below w.heap.size w wr) (fun i _ => 128 - (intOf i).toNat)
  case atStart => exact ⟨0, by omega, rfl, H0.out, (Below.refl _ w).alloc (Nat.le_refl _) _⟩
  case round =>
    obtain ⟨k, hk, rfl, hown, hbel⟩ := hrel
    by_cases hlt : k < 128
    · have hl : k < (filled 128 k c).length := by rw [filled_length _ _ _ hk]; exact hlt
      obtain ⟨u, hu⟩ : ∃ u, wr.cell? ⟨w.heap.size, k, none⟩ = some u := ⟨_, hown.cellAt k hl⟩
      have hf := hown.free k hl
      have HO := Lib.hid hown
      clear hown
      have HS := Lib.hid (filled_set 128 k c hlt)
      clear hl
      have i1 : (0 : Int) ≤ (k : Int) := by omega
      have i2 : (k : Int) < 128 := by omega
      go_wp2
      go_roundw
      case rel => exact ⟨k + 1, by omega, by go_num, by rw [← HS.out]; exact HO.out.set k c, hbel.setCell (p := ⟨w.heap.size, k, none⟩) (Nat.le_refl _) _⟩
      case measure => simp [intOf]; omega
    · obtain rfl : k = 128 := by omega
      rw [filled_all] at hown
      have hst := run_string_B (P := Try.prog) wr 59 9 5 Try.underlying59 Try.underlying5 Try.underlying9 _ _ _ hown
      have HE : Hid ((⟨(List.replicate 128 c).toArray⟩ : ByteArray) = sectorOf c) := Lib.hid rfl
      obtain ⟨X, hX⟩ : ∃ X : ByteArray, (⟨(List.replicate 128 c).toArray⟩ : ByteArray) = X := ⟨_, rfl⟩
      rw [hX] at hst HE
      clear hX
      go_wp2
      go_ret
      exact ⟨by rw [← HE.out]; rfl, hbel⟩
/-- what Write is handed: the text, or a sector of the byte -/
def textOf (c : UInt8) (t : ByteArray) : ByteArray := if t.size = 0 then sectorOf c else t
theorem text_ok (k i n : Int) (c : UInt8) (t : ByteArray) (v : Value) (w : World) : Calls Try.prog 22 #[.agg #[.int .i64 k, .int .i64 i, .int .i64 n, .int .u8 c.toNat, .string t, v]] w fun e w' => e = .returned (.string (textOf c t)) ∧ Below w.heap.size w w' := by
  by_cases h : t.size = 0
  · have HT : Hid (textOf c t = sectorOf c) := Lib.hid (by unfold textOf; rw [if_pos h])
    have ht : t = ⟨#[]⟩ := by
      have : t.data.size = 0 := h
      cases t; simp_all
    subst ht
    clear h
    go_enter Try.func22, Try.ntmps22
    go_wp2_with (go_at_call 21; refine (sector_ok c _).mono ?_; rintro e w1 ⟨rfl, hb⟩)
    go_ret
    rw [HT.out]
    exact ⟨rfl, ((Below.refl _ w).alloc (Nat.le_refl _) _).trans (hb.mono (by simp))⟩
  · have HT : Hid (textOf c t = t) := Lib.hid (by unfold textOf; rw [if_neg h])
    have hne : t.toList ≠ [] := by
      intro e
      rw [ByteArray.toList_eq] at e
      apply h
      show t.data.size = 0
      rw [← Array.length_toList, e]
      rfl
    have d1 : (!t.toList.isEmpty) = true := by simp; exact hne
    go_enter Try.func22, Try.ntmps22
    go_wp2
    go_ret
    rw [HT.out]
    exact ⟨rfl, ((Below.refl _ w).alloc (Nat.le_refl _) _)⟩
end Go.Proofs.Ytbjiliodelndcaa
