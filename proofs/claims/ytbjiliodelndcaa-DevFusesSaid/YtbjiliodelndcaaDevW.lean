/-
  Contracts of the program's dev.New and Dev.keep. No conditions but those typed.
-/
import Derived.Test.YtbjiliodelndcaaDevN
namespace Go.Proofs.Ytbjiliodelndcaa
open Go.RowKit
attribute [local go_sem ↓] Go.wp_at_zero Go.wp_at_succ
theorem dev_new_not (n : Int) (w : World) (h : n < 1 ∨ 2048 < n) : Calls Try.prog 8 #[.int .i64 n] w fun e w' => e = .returned (.tuple #[.pointer none, .int .i64 1]) ∧ w = w' := by
  by_cases h1 : n < 1
  · have d1 : decide (n < 1) = true := decide_eq_true h1
    go_enter Try.func8, Try.ntmps8
    go_wp2
    exact bodyPost_ret (results_tmp2 rfl _ _ _) rfl ⟨rfl, rfl⟩
  · have d1 : decide (n < 1) = false := decide_eq_false h1
    have d2 : decide (2048 < n) = true := decide_eq_true (by omega)
    go_enter Try.func8, Try.ntmps8
    go_wp2
    exact bodyPost_ret (results_tmp2 rfl _ _ _) rfl ⟨rfl, rfl⟩
theorem secs_zeros (n : Nat) : secs (List.replicate n (sectorOf 0)) = List.replicate (n * 128) (.int .u8 0) := by
  have e : sbytes (sectorOf 0) = List.replicate 128 (.int .u8 0) := by
    unfold sbytes sectorOf bv
    rw [List.toList_toArray, List.map_replicate]
    rfl
  unfold secs
  rw [List.flatMap_replicate, e, List.flatten_replicate_replicate]
theorem made_zeros (n : Nat) : (madeCells (Array.replicate 128 (Value.int .u8 0)) (n * 128)).toList = List.replicate (n * 128) (.int .u8 0) := by
  apply List.ext_getElem
  · simp [madeCells]
  · intro i h1 h2
    simp [madeCells]
    rw [getElem!_pos _ _ (by simp; omega)]
    simp
set_option maxRecDepth 4000 in
theorem dev_new (n : Nat) (h1 : 1 ≤ n) (h2 : n ≤ 2048) (w : World) : Calls Try.prog 8 #[.int .i64 n] w (Made DevAt w n) := by
  obtain ⟨i, hi, hiz, his⟩ : ∃ i, Try.prog.info? 62 = some i ∧ i.zero = some (.agg (Array.replicate 128 (.int .u8 0))) ∧ i.size = 128 := by
    cases hq : Try.prog.info? 62 with
    | none => have := info62; rw [hq] at this; cases this
    | some i => have := info62; rw [hq] at this; simp at this; exact ⟨i, rfl, this.1, this.2⟩
  have hib : i.bytes = 128 := by
    have : (Try.prog.info? 62).map (·.bytes) = some 128 := by kernel_rfl
    rw [hi] at this
    simpa using this
  have d1 : decide ((n : Int) < 1) = false := decide_eq_false (by omega)
  have d2 : decide (2048 < (n : Int)) = false := decide_eq_false (by omega)
  have hmm := @run_makeMap Try.prog
  have HZ : Hid ((madeCells (Array.replicate 128 (Value.int .u8 0)) (n * 128)).toList = secs (List.replicate n (sectorOf 0))) := Lib.hid (by rw [made_zeros, secs_zeros])
  have HI := Lib.hid hi
  have HIZ := Lib.hid hiz
  have HIS := Lib.hid his
  have HIB := Lib.hid hib
  clear hi hiz his hib
  go_enter Try.func8, Try.ntmps8
  go_wp2_with (refine wpList_make_full w rfl _ _ 55 rfl 0 62 i (.agg (Array.replicate 128 (.int .u8 0))) 128 Try.underlying55 HI.out HIZ.out HIS.out .i64 .i64 n n n (by rfl) (by rfl) rfl rfl (by rw [HIB.out]; omega) (by simp only [maxLen]; omega) (Nat.zero_le _) ?_; intro w1 hown hg1; rw [show (Value.agg (Array.replicate 128 (.int .u8 0))).cells = Array.replicate 128 (.int .u8 0) from rfl, HZ.out] at hown)
  have hlt := (hown.lt w.heap.size rfl).2
  have hs1 : (w1.alloc (.map #[] 0)).heap.size = w1.heap.size + 1 := by simp
  have TA : Touch [] w1 ((w1.alloc (.map #[] 0)).alloc (.cells #[.bool true, .slice (some ⟨w.heap.size, 0, none⟩) n n, .map (some w1.heap.size), .int .i64 0, .int .i64 0, .int .i64 0] 58)) := ((Touch.refl _ _).alloc _).alloc _
  have hmd := (IMap.made w1).touch ((Touch.refl [] (w1.alloc (.map #[] 0))).alloc (.cells #[.bool true, .slice (some ⟨w.heap.size, 0, none⟩) n n, .map (some w1.heap.size), .int .i64 0, .int .i64 0, .int .i64 0] 58)) (by simp)
  have hbk := Blk.new (w1.alloc (.map #[] 0)) #[.bool true, .slice (some ⟨w.heap.size, 0, none⟩) n n, .map (some w1.heap.size), .int .i64 0, .int .i64 0, .int .i64 0] 58
  rw [hs1] at hbk
  have hrw := ownsRow_touch hown TA (by simp)
  refine bodyPost_ret (results_tmp2 rfl _ _ _) rfl ⟨w1.heap.size + 1, [w1.heap.size + 1, w1.heap.size, w.heap.size], rfl, ⟨_, w1.heap.size, 0, fun _ => none, hbk, ?_, hmd, by simp, by simp, fun i h => absurd rfl h, ⟨by omega, ?_, ?_⟩, by simp, by simp, ⟨by simp, by simp, ?_, by simp⟩, ?_, ?_, by simp [RD.fresh]⟩, ?_, ?_⟩
  · show World.ownsRow _ 0 62 128 _ (List.replicate n (sectorOf 0)).length (secs (List.replicate n (sectorOf 0)))
    rw [List.length_replicate]
    exact hrw
  · simp [Value.ownBlock]; omega
  · simp [Value.ownBlock]; omega
  · intro g hg
    have : w.heap.size = g := by simpa [Value.ownBlock] using hg
    simp [this]
  · intro k hk
    simp only [List.mem_cons, List.not_mem_nil, or_false] at hk
    simp
    omega
  · intro s hs
    have : s = sectorOf 0 := List.eq_of_mem_replicate hs
    rw [this, sectorOf_size]
  · intro k hk
    simp only [List.mem_cons, List.not_mem_nil, or_false] at hk
    omega
  · exact ⟨TA.os.trans hg1.os, TA.tape.trans hg1.tape, TA.output.trans hg1.output, Nat.le_trans hg1.size TA.size, fun k hk => (TA.block k (by omega) (by simp)).trans (hg1.block k hk (by simp))⟩
end Go.Proofs.Ytbjiliodelndcaa
