/-
  The landed list of free pages: first, Take. Conditions: those of a list that may be.
-/
import Derived.Test.YtjgndgcegenikaaFlD
namespace Go.Proofs.Ytjgndgcegenikaa
open Go.RowKit
set_option maxRecDepth 100000 in
set_option maxHeartbeats 3200000 in
theorem flfirst_ok (w : World) (p : Nat) (t : Fr.St) (h0 : t 0 = none) (hp0 : Blk w p (Fr.stA t) 57) : Calls Try.prog 30 #[.pointer (some ⟨p, 0, none⟩)] w fun e w' => ∃ q : Nat, e = .returned (.int .i64 q) ∧ Fr.Fst t 512 q ∧ Below w.heap.size w w' := by
  have hld := fl_load hp0
  have HIX := Lib.hid (fun k hk w => fl_index w t k hk)
  have H0 := Lib.hid h0
  have hpl := hp0.lt
  have HC : Hid (∀ (q : Nat) (wr : World), q < 512 → Below w.heap.size w wr → wr.cell? ⟨p, q * 2 + 1, none⟩ = some (.int .i64 ((t q).getD 0))) := Lib.hid (fun q wr hq hb => by
    have h1 : Blk wr p (Fr.stA t) 57 := (hb.block p hpl).trans hp0
    exact (h1.cell (q * 2 + 1)).trans (Fr.stA_get t q 1 hq (by omega)))
  obtain ⟨T, hT⟩ : ∃ T, Fr.stA t = T := ⟨_, rfl⟩
  rw [hT] at hld HIX
  have hz := stZero
  clear hT h0 hp0
  go_enter Try.func30, Try.ntmps30
  go_wp2_with (first | (refine wpList_load_run rfl 55 _ rfl (p := .pointer (some ⟨p, 0, none⟩)) (v := .agg T) (by rfl) hld ?_))
  go_loopw [3, 12] (fun f ii wr => ∃ k q : Nat, k ≤ 512 ∧ ii = .int .i64 k ∧ f = .int .i64 q ∧ Hid (Fr.Fst t k q) ∧ Below w.heap.size w wr) (fun _ ii _ => 512 - (intOf ii).toNat)
  case atStart => exact ⟨0, 0, by omega, rfl, rfl, Lib.hid (Fr.Fst.start t), Below.refl _ _⟩
  case round =>
    obtain ⟨k, q, hk, rfl, rfl, HQ, hbw⟩ := hrel
    by_cases hk5 : k < 512
    · have t1 : decide ((k : Int) < 512) = true := decide_eq_true (by omega)
      have ix := HIX.out k hk5 wr
      cases htk : t k with
      | none =>
        have HQ2 : Hid (Fr.Fst t (k + 1) q) := Lib.hid (HQ.out.skip htk)
        rw [htk] at ix
        simp only [Option.isSome_none, Option.getD_none] at ix
        clear HIX HQ hld htk HC
        go_wp2_with (refine wpList_index_run rfl 55 _ _ rfl (by rfl) (by rfl) ix ?_)
        go_region
        go_wp2
        go_roundw
        case rel => exact ⟨k + 1, q, by omega, by go_num, rfl, HQ2, (fr_drewN (hbw.alloc hbw.size _) 1)⟩
        case measure => simp [intOf]; omega
      | some x =>
        rw [htk] at ix
        simp only [Option.isSome_some, Option.getD_some] at ix
        by_cases hq0 : q = 0
        · subst hq0
          have hk0 : 0 < k := by
            rcases Nat.eq_zero_or_pos k with rfl | h
            · rw [H0.out] at htk; cases htk
            · exact h
          have HQ2 : Hid (Fr.Fst t (k + 1) k) := Lib.hid (HQ.out.one hk0 htk)
          clear HIX HQ hld htk HC
          go_wp2_with (refine wpList_index_run rfl 55 _ _ rfl (by rfl) (by rfl) ix ?_)
          go_region
          go_wp2
          go_roundw
          case rel => exact ⟨k + 1, k, by omega, by go_num, rfl, HQ2, (fr_drewN (hbw.alloc hbw.size _) 1)⟩
          case measure => simp [intOf]; omega
        · have hq1 : 0 < q := by omega
          obtain ⟨hqk, z, hz1⟩ : q < k ∧ ∃ z, t q = some z := by
            rcases HQ.out with ⟨h, _⟩ | ⟨_, h, z, h2, _⟩
            · omega
            · exact ⟨h, z, h2⟩
          have t2 : ((q : Int) == 0) = false := by simp; omega
          have hpr : p < wr.heap.size := Nat.lt_of_lt_of_le hpl hbw.size
          have c1 := HC.out q wr (by omega) hbw
          rw [hz1, Option.getD_some] at c1
          have i0 : (0 : Int) ≤ (q : Int) := by omega
          have i1 : (q : Int) < 512 := by omega
          by_cases hlt : x < z
          · have t3 : decide (x < z) = true := decide_eq_true hlt
            have HQ2 : Hid (Fr.Fst t (k + 1) k) := Lib.hid (HQ.out.next hq1 hz1 htk hlt)
            clear HIX HQ hld htk HC hz1 hlt hq0 hq1
            go_wp2_with (refine wpList_index_run rfl 55 _ _ rfl (by rfl) (by rfl) ix ?_)
            go_region
            go_wp2
            go_roundw
            case rel => exact ⟨k + 1, k, by omega, by go_num, rfl, HQ2, (fr_drewN (hbw.alloc hbw.size _) 1)⟩
            case measure => simp [intOf]; omega
          · have t3 : decide (x < z) = false := decide_eq_false hlt
            have HQ2 : Hid (Fr.Fst t (k + 1) q) := Lib.hid (HQ.out.keep hq1 hz1 htk hlt)
            clear HIX HQ hld htk HC hz1 hlt hq0 hq1
            go_wp2_with (refine wpList_index_run rfl 55 _ _ rfl (by rfl) (by rfl) ix ?_)
            go_region
            go_wp2
            go_roundw
            case rel => exact ⟨k + 1, q, by omega, by go_num, rfl, HQ2, (fr_drewN (hbw.alloc hbw.size _) 1)⟩
            case measure => simp [intOf]; omega
    · have t1 : decide ((k : Int) < 512) = false := decide_eq_false (by omega)
      obtain rfl : k = 512 := by omega
      clear HIX hld
      go_wp2
      go_ret
      exact ⟨q, rfl, HQ.out, hbw⟩
end Go.Proofs.Ytjgndgcegenikaa
