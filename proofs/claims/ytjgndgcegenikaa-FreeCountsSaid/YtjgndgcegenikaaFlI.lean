/-
  The landed list of free pages: All; the kit. Conditions: those of a list that may be.
-/
import Derived.Test.YtjgndgcegenikaaFlF
import Derived.Test.YtjgndgcegenikaaFlH
namespace Go.Proofs.Ytjgndgcegenikaa
open Go.RowKit
set_option maxRecDepth 100000 in
set_option maxHeartbeats 3200000 in
theorem flall_ok (w : World) (p : Nat) (l : List FP) (F : List Nat) (ok : Fr.Ok l) (hA : FLAt w p l F) : Calls Try.prog 20 #[.pointer (some ⟨p, 0, none⟩)] w fun e w' => ∃ V, e = .returned V ∧ FreesAt w' V (Fr.sorted l) ∧ Below w.heap.size w w' := by
  obtain ⟨t, hp0, ht, _⟩ := hA
  have hld := fl_load hp0
  have HIX := Lib.hid (fun k hk w => fl_index w t k hk)
  have HL := Lib.hid (Fr.found_all ht ok)
  have HO := Lib.hid ok
  obtain ⟨T, hT⟩ : ∃ T, Fr.stA t = T := ⟨_, rfl⟩
  rw [hT] at hld HIX
  have hz := stZero
  have HLEN : Hid (∀ k, (Fr.found t k).length ≤ k) := Lib.hid (fun k => by unfold Fr.found; exact Nat.le_trans (List.length_filterMap_le _ _) (by simp))
  clear hT ht hp0 ok
  go_enter Try.func20, Try.ntmps20
  go_wp2_with (first | (refine wpList_load_run rfl 55 _ rfl (p := .pointer (some ⟨p, 0, none⟩)) (v := .agg T) (by rfl) hld ?_))
  go_loopw [3, 12] (fun f ii wr => ∃ k : Nat, k ≤ 512 ∧ ii = .int .i64 k ∧ OwnF wr w.heap.size f (Fr.found t k) ∧ Below w.heap.size w wr) (fun _ ii _ => 512 - (intOf ii).toNat)
  case atStart => exact ⟨0, by omega, rfl, ⟨rfl, .inl ⟨rfl, rfl⟩⟩, Below.refl _ _⟩
  case round =>
    obtain ⟨k, hk, rfl, hown, hbw⟩ := hrel
    have hlenb : (Fr.found t k).length + 1 ≤ 4294967296 := by have := HLEN.out k; omega
    by_cases hk5 : k < 512
    · have t1 : decide ((k : Int) < 512) = true := decide_eq_true (by omega)
      have ix := HIX.out k hk5 wr
      cases htk : t k with
      | none =>
        have hown2 := hown
        rw [← Fr.found_none htk] at hown2
        have HW2 := Lib.hid hown2
        rw [htk] at ix
        simp only [Option.isSome_none, Option.getD_none] at ix
        clear HIX hld htk hown hown2
        go_wp2_with (refine wpList_index_run rfl 55 _ _ rfl (by rfl) (by rfl) ix ?_)
        go_roundw
        case rel => exact ⟨k + 1, by omega, by go_num, HW2.out.kept ((Below.refl _ _).alloc (Nat.le_refl _) _), hbw.alloc hbw.size _⟩
        case measure => simp [intOf]; omega
      | some x =>
        have HF2 : Hid (Fr.found t (k + 1) = Fr.found t k ++ [(x, (k : Int))]) := Lib.hid (Fr.found_some htk)
        rw [htk] at ix
        simp only [Option.isSome_some, Option.getD_some] at ix
        have hown2 := hown.kept ((Below.refl _ _).alloc (Nat.le_refl _) (.cells #[.bool true, .int .i64 x] 54))
        have hbase : w.heap.size ≤ (wr.alloc (.cells #[.bool true, .int .i64 x] 54)).heap.size := by have := hbw.size; simp; omega
        clear HIX hld htk hown
        go_wp2_with (first | (refine wpList_index_run rfl 55 _ _ rfl (by rfl) (by rfl) ix ?_) | (at_builtin; refine wpList_append_free (wr.alloc (.cells #[.bool true, .int .i64 x] 54)) rfl (.tmp 18) (.tmp 23) 27 rfl _ undF freeInfo _ _ rfl hown2 (x, (k : Int)) (by show Value.slice _ _ _ = _; simp) hlenb hbase ?_; intro V4 w4 hown4 hbel4))
        go_roundw
        case rel => exact ⟨k + 1, by omega, by go_num, by rw [HF2.out]; exact hown4, (hbw.alloc hbw.size _).trans hbel4⟩
        case measure => simp [intOf]; omega
    · have t1 : decide ((k : Int) < 512) = false := decide_eq_false (by omega)
      obtain rfl : k = 512 := by omega
      have hS := flsort_ok wr w.heap.size _ _ hown (by have := HLEN.out 512; omega) hbw.size (Fr.found_once t 512)
      have HS := Lib.hid hS
      have HB := Lib.hid hbw
      clear HIX hld hS hown hbw
      go_wp2_with (go_at_call 33; refine HS.out.mono ?_; rintro _ w5 ⟨rfl, hD, hb5⟩)
      go_ret
      obtain ⟨D, h1, h2, h3⟩ := hD
      refine ⟨_, rfl, ?_, HB.out.trans hb5⟩
      have h4 := h3.trans HL.out
      have h5 := Fr.sorted_spec l HO.out
      have e : D = Fr.sorted l := Fr.rise_one D _ h2 h5.1 (fun g => by rw [h5.2.1 g]; exact h4.mem_iff)
      rw [← e]
      exact h1.cells (by rw [h4.length_eq]; have := HO.out.len; omega)
theorem theFree : FrKit FLAt where
  lt := FLAt.lt
  touch := FLAt.touch
  new := flnew_ok
  add w p l F f _ _ hA := fladd_ok w p l F f hA
  take w p l F u ok _ hA := fltake_ok w p l F u ok hA
  has w p l F n ok _ hA := flhas_ok w p l F n ok hA
  count w p l F ok _ hA := flcount_ok w p l F ok hA
  all w p l F ok _ hA := flall_ok w p l F ok hA
  copy w p l F _ _ hA := flcopy_ok w p l F hA
  nilAdd := fladd_nil
  nilTake := fltake_nil
  nilHas := flhas_nil
  nilCount := flcount_nil
  nilAll := flall_nil
  nilCopy := flcopy_nil
end Go.Proofs.Ytjgndgcegenikaa
