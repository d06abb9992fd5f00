/-
  Contract of the reference's device (package rollbookref03): New: what it answers, and what it makes. No conditions.
-/
import Derived.Test.YtbjiliodelndcaaRefC
import Derived.Test.YtbjiliodelndcaaSec
import Derived.Outline
import Derived.Deep.RegionLaw
import Derived.Deep.DrawnRows
namespace Go.Proofs.Ytbjiliodelndcaa
open Go.RowKit
attribute [local go_sem ↓] Go.wp_at_zero Go.wp_at_succ
/-- what New leaves, of n sectors -/
def Made (At : World → Nat → RD → List Nat → Prop) (w : World) (n : Nat) (e : Ending) (w' : World) : Prop :=
  ∃ p F, e = .returned (.tuple #[.pointer (some ⟨p, 0, none⟩), .int .i64 0]) ∧ At w' p (RD.fresh (sectorOf 0) n) F ∧ (∀ k ∈ F, w.heap.size ≤ k) ∧ Below w.heap.size w w'
theorem info9 : (Try.prog.info? 9).map (fun i => (i.zero, i.size, i.bytes)) = some (some (.string ⟨#[]⟩), 1, 16) := by kernel_rfl
theorem ref_new_not (n : Int) (h : n < 1 ∨ 2048 < n) (w : World) : Calls Try.prog 9 #[.int .i64 n] w fun e w' => e = .returned (.tuple #[.pointer none, .int .i64 1]) ∧ w = w' := by
  by_cases h1 : n < 1
  · have d1 : decide (n < 1) = true := decide_eq_true h1
    clear h h1
    go_enter Try.func9, Try.ntmps9
    go_wp2
    go_ret2
    exact ⟨rfl, rfl⟩
  · have d1 : decide (n < 1) = false := decide_eq_false h1
    have d2 : decide (2048 < n) = true := decide_eq_true (by omega)
    clear h h1
    go_enter Try.func9, Try.ntmps9
    go_wp2
    go_ret2
    exact ⟨rfl, rfl⟩
theorem nodup_first {p : Nat} {a b : Option Nat} {g n : Nat} (hN : (p :: (a.toList ++ b.toList)).Nodup) (hp : p < n) (hb : ∀ k, b = some k → k < n) (hg : a = some g ∨ n ≤ g) : (p :: ((some g).toList ++ b.toList)).Nodup := by
  rcases hg with rfl | hg
  · exact hN
  · cases b with
    | none => simp; omega
    | some k =>
      have := hb k rfl
      cases a <;> simp at hN ⊢ <;> omega
set_option maxHeartbeats 1600000 in
theorem ref_new (n : Nat) (h1 : 1 ≤ n) (h2 : n ≤ 2048) (w : World) : Calls Try.prog 9 #[.int .i64 n] w (Made RefAt w n) := by
  have d1 : decide ((n : Int) < 1) = false := decide_eq_false (by omega)
  have d2 : decide (2048 < (n : Int)) = false := decide_eq_false (by omega)
  have hmk : ∀ w : World, (Instr.makeSlice 59 (.int .i64 128) (.int .i64 128)).run Try.prog w = .ok (.slice (some ⟨w.heap.size, 0, none⟩) 128 128) (w.alloc (.cells (zeros 128) 5)) := fun _ => by kernel_rfl
  obtain ⟨i0, hi, hz0, hz1, hz2⟩ := info_parts info9
  go_enter Try.func9, Try.ntmps9
  go_wp2
  clear d1 d2
  go_loopw [5] (fun i wr => ∃ (k : Nat) (F : List Nat), k ≤ n ∧ i = .int .i64 k ∧ RefAt wr w.heap.size (RD.fresh (sectorOf 0) k) F ∧ (∀ x ∈ F, w.heap.size ≤ x) ∧ Below w.heap.size w wr) (fun i _ => n - (intOf i).toNat)
  case atStart =>
    refine ⟨0, [w.heap.size], by omega, rfl, ⟨.slice none 0 0, .slice none 0 0, Blk.new _ _ _, World.ownsRow_nil _ _ _ _, World.ownsRow_nil _ _ _ _, rfl, by simp⟩, by simp, (Below.refl _ w).alloc (Nat.le_refl _) _⟩
  case round =>
    obtain ⟨k, F, hk, rfl, ⟨vs, vr, hb, hs, hr, hF, hN⟩, hFl, hbel⟩ := hrel
    by_cases hlt : k < n
    · have hlk : ((RD.fresh (sectorOf 0) k).sector).length = k := by simp [RD.fresh]
      rw [hlk] at hs
      have hlt' := hb.lt
      have c0 : wr.cell? ⟨w.heap.size, 0, none⟩ = some vs := hb.cell 0
      have hne : some w.heap.size ≠ vs.ownBlock := by
        subst hF
        exact fun e => (sep3 hN).1 e.symm
      have H0 : OwnB ((wr.alloc (.cells (zeros 128) 5)).drew) wr.heap.size 5 (.slice (some ⟨wr.heap.size, 0, none⟩) 128 128) (filled 128 0 0) :=
        OwnB.lit wr wr.heap.size 5 (Nat.le_refl _) (filled 128 0 0) (by rw [filled_length _ _ _ (by omega)]; simp [maxLen]) _ (filled_zero 128 0).symm 128 (by rw [filled_length _ _ _ (by omega)])
      have hst := run_string_B (P := Try.prog) ((wr.alloc (.cells (zeros 128) 5)).drew) 59 9 5 Try.underlying59 Try.underlying5 Try.underlying9 _ _ _ H0
      have hz : (⟨(filled 128 0 0).toArray⟩ : ByteArray) = sectorOf 0 := by unfold filled sectorOf; simp
      rw [hz] at hst
      have HNEW : Hid (((wr.alloc (.cells (zeros 128) 5)).alloc (.cells #[.string (sectorOf 0)] 9)).heap[wr.heap.size + 1]? = some (.cells #[.string (sectorOf 0)] 9)) := Lib.hid (by simpa using heap_alloc_new (wr.alloc (.cells (zeros 128) 5)) (.cells #[.string (sectorOf 0)] 9))
      clear hz H0 hlk
      go_wp2
      go_region_law
        ((refine step_append_lies _ (by rfl) _ _ _ (by rfl) 0 9 i0 _ 1 16 Try.underlying37 hi hz0 hz1 hz2 rfl (by omega) vs k _ (by rfl) ((((hs.alloc _).alloc _)))
              ⟨wr.heap.size + 1, 0, none⟩ 1 1 [.string (sectorOf 0)] (by rfl) (by rfl) (World.news_of_block (cs := #[.string (sectorOf 0)]) (t := 9) (fr := (0, 0)) (by exact HNEW.out)) (by simp [Value.oneCell'])
              (by omega) (by simp [maxLen]; omega) (by omega) (by simp) (wr.heap.size + 2) (by simp) ?_; intro g cap w1 hown1 hgrow hat hlt1; have kb2 := (((hb.alloc (.cells (zeros 128) 5)).alloc (.cells #[.string (sectorOf 0)] 9)).drew).grown hgrow hne; have g0 : w1.cell? ⟨w.heap.size, 0, none⟩ = some vs := kb2.cell 0; have g1 := kb2.free 0; have g2 := kb2.lt))
      all_goals
        go_wp2
        go_roundw
        case rel =>
          refine ⟨k + 1, w.heap.size :: ((some g).toList ++ vr.ownBlock.toList), by omega, by go_num, ⟨.slice (some ⟨g, 0, none⟩) (k + 1) cap, vr, kb2.set 0 _, ?_, ?_, rfl, ?_⟩, ?_, ?_⟩
          · have e : (RD.fresh (sectorOf 0) (k + 1)).sector.map Value.string = (RD.fresh (sectorOf 0) k).sector.map Value.string ++ [.string (sectorOf 0)] := by simp [RD.fresh, List.replicate_succ']
            have e2 : (RD.fresh (sectorOf 0) (k + 1)).sector.length = k + 1 := by simp [RD.fresh]
            rw [e, e2]
            refine ownsRow_touch (S := [w.heap.size]) hown1 ((Touch.refl [w.heap.size] w1).setCell (p := ⟨w.heap.size, 0, none⟩) (.inl (by simp)) _) ?_
            intro q hq hm
            have hq : g = q := by simpa [Value.ownBlock] using hq
            simp only [List.mem_singleton] at hm
            subst hq hm
            rcases hat with hat | hat
            · exact hne hat.symm
            · omega
          · refine ownsRow_touch (S := w.heap.size :: vs.ownBlock.toList) hr (((((Touch.refl _ wr).alloc _).alloc _).drew.grown hgrow (by intro q hq; left; simp [hq])).setCell (p := ⟨w.heap.size, 0, none⟩) (.inl (by simp)) _) ?_
            intro q hq hm
            subst hF
            obtain ⟨n1, n2, n3⟩ := sep3 hN
            rcases mem2 hm with rfl | hm
            · exact n2 hq
            · exact n3 q hm hq
          · subst hF
            exact nodup_first hN hb.lt (fun q hq => ownsRow_lt hr q hq) (hat.elim .inl (fun e => .inr (by omega)))
          · intro q hq
            rcases (mem3 (a := some g)).1 hq with hq | hq | hq
            · omega
            · have : g = q := by simpa using hq
              subst this
              rcases hat with hat | hat
              · exact hFl g (by subst hF; exact mem3.2 (.inr (.inl hat)))
              · have := hbel.size; omega
            · exact hFl q (by subst hF; exact mem3.2 (.inr (.inr hq)))
          · refine (((hbel.alloc hbel.size _).alloc (by have := hbel.size; simp; omega) _).drew.grown hgrow (by have := hbel.size; simp; omega) ?_).setCell (p := ⟨w.heap.size, 0, none⟩) (Nat.le_refl _) _
            intro q hq
            exact hFl q (by subst hF; exact mem3.2 (.inr (.inl hq)))
        case measure => simp [intOf]; omega
    · obtain rfl : k = n := by omega
      go_wp2
      go_ret2
      exact ⟨_, F, rfl, ⟨vs, vr, hb, hs, hr, hF, hN⟩, hFl, hbel⟩
end Go.Proofs.Ytbjiliodelndcaa
