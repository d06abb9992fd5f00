/-
  Contract of the program's dev.keep. No conditions but those typed.
-/
import Derived.Test.YtbjiliodelndcaaDevN
import Derived.Test.YtbjiliodelndcaaTakes
import Derived.Test.YtbjiliodelndcaaHeadQuiet
namespace Go.Proofs.Ytbjiliodelndcaa
open Go.RowKit
attribute [local go_sem ↓] Go.wp_at_zero Go.wp_at_succ
/-- the first m of L last in place k of s -/
def kept (s : List ByteArray) (k : Nat) (L : List ByteArray) (m : Nat) : List ByteArray := if m = 0 then s else s.set k (L.getD (m - 1) ⟨#[]⟩)
set_option maxRecDepth 4000 in
set_option maxHeartbeats 1600000 in
theorem dev_keep (w : World) (p mb g cap : Nat) (x0 x3 x4 x5 v : Value) (s L : List ByteArray) (k m : Nat) (hb : Blk w p #[x0, .slice (some ⟨g, 0, none⟩) s.length cap, .map (some mb), x3, x4, x5] 58)
    (hs : w.ownsRow 0 62 128 (.slice (some ⟨g, 0, none⟩) s.length cap) s.length (secs s)) (hsz : All128 s) (hk : k < s.length)
    (hpg : p ≠ g) (hvg : v.ownBlock ≠ some g) (hlk : ∀ wx : World, Touch [g] w wx → (Instr.lookup 56 (.map (some mb)) (.int .i64 k) false).run Try.prog wx = .ok v wx) (hv : w.ownsRow 0 62 128 v L.length (secs L)) (hvz : All128 L) (hm : m ≤ L.length) (hll : L.length ≤ 1000000) :
    Calls Try.prog 38 #[.pointer (some ⟨p, 0, none⟩), .int .i64 k, .int .i64 m] w fun e w' => e = .returned (.tuple #[]) ∧ w'.ownsRow 0 62 128 (.slice (some ⟨g, 0, none⟩) s.length cap) s.length (secs (kept s k L m)) ∧ w.grownBy w' (some g) := by
  by_cases h0 : m = 0
  · subst h0
    have d1 : decide ((0 : Int) < ((0 : Nat) : Int)) = false := by simp
    have HK : Hid (kept s k L 0 = s) := Lib.hid rfl
    have HS := Lib.hid hs
    clear hs hlk hv hvz hb
    go_enter Try.func38, Try.ntmps38
    go_wp2
    refine bodyPost_end (results_none rfl _ _ _) rfl ⟨rfl, by rw [HK.out]; exact HS.out, World.grownBy.refl _ _⟩
  · obtain ⟨n, hmn⟩ : ∃ n, m = n + 1 := ⟨m - 1, by omega⟩
    have hn : n < L.length := by omega
    obtain ⟨A, vcap, rfl⟩ := ownsRow_slice hv
    rcases hv.2 with ⟨_, h0⟩ | ⟨gv, _, _, hg, _⟩
    · omega
    injection hg with e1 _ e3
    subst e1 e3
    obtain ⟨x, hx⟩ : ∃ x, L[n] = x := ⟨_, rfl⟩
    have hx8 : x.size = 128 := by rw [← hx]; exact hvz.get hn
    have hld : (Instr.loadAt 62 (.pointer (some ⟨gv, n * 128, none⟩))).run Try.prog w.drew = .ok (sagg x) w.drew := by
      have := load_sector (w := w.drew) hv hvz hn
      rwa [hx] at this
    obtain ⟨w2, hst, hown2, hgr2⟩ := store_sector (w := w.drew) hs hsz hk hx8
    have T2 : Touch [g] w w2 := ⟨hgr2.os, hgr2.tape, hgr2.output, hgr2.size, fun k hk hn => hgr2.block k hk (fun e => hn (by injection e with e; simp [e]))⟩
    have hld2 : (Instr.loadAt 62 (.pointer (some ⟨gv, n * 128, none⟩))).run Try.prog w2 = .ok (sagg x) w2 := by
      have := load_sector (w := w2) (ownsRow_touch hv T2 (fun q hq hm => hvg (by rw [hq, List.mem_singleton.1 hm]))) hvz hn
      rwa [hx] at this
    have HK : Hid (kept s k L m = s.set k x) := Lib.hid (by unfold kept; rw [if_neg (by omega), ← hx, hmn]; simp [List.getD_eq_getElem?_getD, hn])
    have c1 : w.drew.cell? ⟨p, 1, none⟩ = some (.slice (some ⟨g, 0, none⟩) s.length cap) := hb.cell 1
    have c2 : w.drew.cell? ⟨p, 2, none⟩ = some (.map (some mb)) := hb.cell 2
    have c1' : w2.cell? ⟨p, 1, none⟩ = some (.slice (some ⟨g, 0, none⟩) s.length cap) := (hb.touch T2 (by simpa using hpg)).cell 1
    have c2' : w2.cell? ⟨p, 2, none⟩ = some (.map (some mb)) := (hb.touch T2 (by simpa using hpg)).cell 2
    have l1 := hlk w.drew (Touch.refl _ _).drew
    have l2 := hlk w2 T2
    obtain ⟨C, hC⟩ : ∃ C : Array Value, (sbytes x).toArray = C := ⟨_, rfl⟩
    have hCl : sbytes x = C.toList := by rw [← hC]
    unfold sagg at hld
    rw [hC] at hld
    unfold sagg at hld2
    rw [hC] at hld2
    rw [hCl] at hst
    have hCs : C.size = 128 := by rw [← hC, List.size_toArray, sbytes_length, hx8]
    obtain ⟨sl, hsl'⟩ : ∃ q : Nat, s.length = q := ⟨_, rfl⟩
    obtain ⟨ll, hll'⟩ : ∃ q : Nat, L.length = q := ⟨_, rfl⟩
    have HO := Lib.hid hown2
    have HG := Lib.hid hgr2
    rw [hsl'] at c1 c1' hk HO
    rw [hll'] at l1 l2 hn hll
    have d1 : decide ((0 : Int) < (m : Int)) = true := decide_eq_true (by omega)
    have i5 : (m : Int) - 1 = (n : Int) := by omega
    have i7 : IntKind.i64.wrap ((m : Int) - 1) = (n : Int) := by rw [i5]; exact IntWalk.i64_in _ (by omega)
    have i6 : RowKit.wrap64 ((m : Int) - 1) = (n : Int) := by
      rw [← IntWalk.i64_left, i5]
      exact IntWalk.i64_in _ (by omega)
    have i1 : (0 : Int) ≤ (k : Int) := by omega
    have i2 : (k : Int) < (sl : Int) := by omega
    have i3 : (0 : Int) ≤ (n : Int) := by omega
    have i4 : (n : Int) < (ll : Int) := by omega
    clear hs hlk hv hvz hb hown2 hgr2 hC hCl hm h0 hsz hx hll' hmn
    rw [hsl']
    go_enter Try.func38, Try.ntmps38
    go_wp2_with fail
    refine wp_region_held_drew (S := fun w' => w'.cell? ⟨p, 1, none⟩ = some (.slice (some ⟨g, 0, none⟩) sl cap) ∧ w'.cell? ⟨p, 2, none⟩ = some (.map (some mb)) ∧ (Instr.lookup 56 (.map (some mb)) (.int .i64 k) false).run Try.prog w' = .ok (.slice (some ⟨gv, 0, none⟩) ll vcap) w' ∧ (Instr.loadAt 62 (.pointer (some ⟨gv, n * 128, none⟩))).run Try.prog w' = .ok (.agg C) w') (by kernel_rfl) ⟨c1, c2, l1, hld⟩ (fun hHeld => ?_)
    refine take_0 (v := ?v0) (by kernel_rfl) (by kernel_rfl) (by kernel_rfl) (fun _ _ _ h => h) (by rfl) ?y0 hHeld ?r0
    case y0 => (intro wS hSw; (try dsimp only at hSw); go_simp; try with_reducible rfl)
    try simp only [Act.put, List.setIfInBounds_toArray, List.set_cons_zero, List.set_cons_succ]
    refine take_1 (v := ?v1) (by kernel_rfl) (by kernel_rfl) (by kernel_rfl) (fun _ _ _ h => h) (by rfl) ?y1 hHeld ?r1
    case y1 => (intro wS hSw; (try dsimp only at hSw); go_simp; try with_reducible rfl)
    try simp only [Act.put, List.setIfInBounds_toArray, List.set_cons_zero, List.set_cons_succ]
    refine take_2 (v := ?v2) (by kernel_rfl) (by kernel_rfl) (by kernel_rfl) (fun _ _ _ h => h) (by rfl) ?y2 hHeld ?r2
    case y2 => (intro wS hSw; (try dsimp only at hSw); go_simp; try with_reducible rfl)
    try simp only [Act.put, List.setIfInBounds_toArray, List.set_cons_zero, List.set_cons_succ]
    refine take_3 (v := ?v3) (by kernel_rfl) (by kernel_rfl) (by kernel_rfl) (fun _ _ _ h => h) (by rfl) ?y3 hHeld ?r3
    case y3 => (intro wS hSw; (try dsimp only at hSw); go_simp; try with_reducible rfl)
    try simp only [Act.put, List.setIfInBounds_toArray, List.set_cons_zero, List.set_cons_succ]
    refine take_4 (v := ?v4) (by kernel_rfl) (by kernel_rfl) (by kernel_rfl) (fun _ _ _ h => h) (by rfl) ?y4 hHeld ?r4
    case y4 => (intro wS hSw; (try dsimp only at hSw); go_simp; try with_reducible rfl)
    try simp only [Act.put, List.setIfInBounds_toArray, List.set_cons_zero, List.set_cons_succ]
    refine takes_5 (v := ?v5) (by kernel_rfl) (by kernel_rfl) (by kernel_rfl) (fun _ _ _ h => h) (by rfl) ?y5 hHeld ?r5
    case y5 => (intro wS hSw; (try dsimp only at hSw); go_simp; try with_reducible rfl)
    try simp only [Act.put, List.setIfInBounds_toArray, List.set_cons_zero, List.set_cons_succ]
    refine take_6 (v := ?v6) (by kernel_rfl) (by kernel_rfl) (by kernel_rfl) (fun _ _ _ h => h) (by rfl) ?y6 hHeld ?r6
    case y6 => (intro wS hSw; (try dsimp only at hSw); go_simp; try with_reducible rfl)
    try simp only [Act.put, List.setIfInBounds_toArray, List.set_cons_zero, List.set_cons_succ]
    refine take_7 (v := ?v7) (by kernel_rfl) (by kernel_rfl) (by kernel_rfl) (fun _ _ _ h => h) (by rfl) ?y7 hHeld ?r7
    case y7 => (intro wS hSw; (try dsimp only at hSw); go_simp; try with_reducible rfl)
    try simp only [Act.put, List.setIfInBounds_toArray, List.set_cons_zero, List.set_cons_succ]
    refine take_8 (v := ?v8) (by kernel_rfl) (by kernel_rfl) (by kernel_rfl) (fun _ _ _ h => h) (by rfl) ?y8 hHeld ?r8
    case y8 => (intro wS hSw; (try dsimp only at hSw); go_simp; try with_reducible rfl)
    try simp only [Act.put, List.setIfInBounds_toArray, List.set_cons_zero, List.set_cons_succ]
    refine take_9 (v := ?v9) (by kernel_rfl) (by kernel_rfl) (by kernel_rfl) (fun _ _ _ h => h) (by rfl) ?y9 hHeld ?r9
    case y9 => (intro wS hSw; (try dsimp only at hSw); go_simp; try with_reducible rfl)
    try simp only [Act.put, List.setIfInBounds_toArray, List.set_cons_zero, List.set_cons_succ]
    refine take_10 (v := ?v10) (by kernel_rfl) (by kernel_rfl) (by kernel_rfl) (fun _ _ _ h => h) (by rfl) ?y10 hHeld ?r10
    case y10 => (intro wS hSw; (try dsimp only at hSw); go_simp; try with_reducible rfl)
    try simp only [Act.put, List.setIfInBounds_toArray, List.set_cons_zero, List.set_cons_succ]
    refine takes_11 (v := ?v11) (by kernel_rfl) (by kernel_rfl) (by kernel_rfl) (fun _ _ _ h => h) (by rfl) ?y11 hHeld ?r11
    case y11 => (intro wS hSw; (try dsimp only at hSw); go_simp; try with_reducible rfl)
    try simp only [Act.put, List.setIfInBounds_toArray, List.set_cons_zero, List.set_cons_succ]
    refine takes_12 (v := .int .i64 n) (by kernel_rfl) (by kernel_rfl) (by kernel_rfl) (fun _ _ _ h => h) (by rfl) ?y12 hHeld ?r12
    case y12 => (intro wS hSw; go_simp; exact IntWalk.i64_in _ (by omega))
    try simp only [Act.put, List.setIfInBounds_toArray, List.set_cons_zero, List.set_cons_succ]
    refine takes_13 (v := ?v13) (by kernel_rfl) (by kernel_rfl) (by kernel_rfl) (fun _ _ _ h => h) (by rfl) ?y13 hHeld ?r13
    case y13 => (intro wS hSw; (try dsimp only at hSw); go_simp; try with_reducible rfl)
    try simp only [Act.put, List.setIfInBounds_toArray, List.set_cons_zero, List.set_cons_succ]
    refine takes_14 (v := .agg C) (by kernel_rfl) (by kernel_rfl) (by kernel_rfl) (fun _ _ _ h => h) (by rfl) ?y14 hHeld ?r14
    case y14 => (intro wS hSw; exact exec_load 62 _ rfl (p := .pointer (some ⟨gv, n * 128, none⟩)) (by rfl) hSw.2.2.2)
    try simp only [Act.put, List.setIfInBounds_toArray, List.set_cons_zero, List.set_cons_succ]
    refine takes_15 (v := ?v15) (by kernel_rfl) (by kernel_rfl) (by kernel_rfl) (fun _ _ _ h => h) (by rfl) ?y15 hHeld ?r15
    case y15 => (intro wS hSw; (try dsimp only at hSw); go_simp; try with_reducible rfl)
    try simp only [Act.put, List.setIfInBounds_toArray, List.set_cons_zero, List.set_cons_succ]
    refine steps_16 (by kernel_rfl) (fun K hK => ?_)
    go_simp
    refine hK.out _ _ ⟨c1', c2', l2, hld2⟩ (fun hHeld => ?_)
    clear hK K
    refine ⟨by kernel_rfl, ?_⟩
    try simp only [Act.put, List.setIfInBounds_toArray, List.set_cons_zero, List.set_cons_succ]
    go_wp2
    refine bodyPost_end (results_none rfl _ _ _) rfl ⟨rfl, ?_, ?_⟩
    · rw [HK.out]
      exact HO.out
    · exact ⟨HG.out.os, HG.out.tape, HG.out.output, HG.out.size, HG.out.block⟩
end Go.Proofs.Ytbjiliodelndcaa
