/-
  P4.3 (few turned bytes are found), of any functions that answer as the list says: the statement's function returns true at every page, meta, place and turning number. No conditions but those typed.
-/
import Derived.Test.YtnhnfabgofncaaaPageTellsA
namespace Go.Proofs.Ytnhnfabgofncaaa
open Go.RowKit
theorem anyIn_not (p y sum : Nat) : ∀ n, anyIn p y sum n = false → ∀ k, k < n → Page.turnB y k ≠ 0 → ¬ (sum ≤ p + k ∧ p + k < sum + 4)
  | 0, _, k, hk, _ => by omega
  | n + 1, h, k, hk, h0 => by
    rw [anyIn, Bool.or_eq_false_iff] at h
    by_cases hn : k = n
    · subst hn
      have h2 := h.2
      unfold inSum at h2
      simp [h0] at h2
      omega
    · exact anyIn_not p y sum n h.1 k (by omega) h0
theorem anyOut_not (p y sum : Nat) : ∀ n, anyOut p y sum n = false → ∀ k, k < n → Page.turnB y k ≠ 0 → sum ≤ p + k ∧ p + k < sum + 4
  | 0, _, k, hk, _ => by omega
  | n + 1, h, k, hk, h0 => by
    rw [anyOut, Bool.or_eq_false_iff] at h
    by_cases hn : k = n
    · subst hn
      have h2 := h.2
      unfold inSum at h2
      simp [h0] at h2
      omega
    · exact anyOut_not p y sum n h.1 k (by omega) h0
/-- a page's bytes of which some were turned: none's, or the sum's and others -/
theorem page_part (p : PV) (h : p.right = true) (at_ : Int) (y : Nat) (hy : y < 2 ^ 32) (hy0 : y ≠ 0) :
    p.packS.size = 512 ∧ (ba (Crc.turn p.packS.data.toList (turnAt at_ 512) y 4)).size = 512 ∧
      (unpackE (ba (Crc.turn p.packS.data.toList (turnAt at_ 512) y 4)) = 4 ∨ (anyIn (turnAt at_ 512) y 18 4 && anyOut (turnAt at_ 512) y 18 4) = true) := by
  obtain ⟨h1, h2⟩ := p.right_pg h
  have hp : p.packS = ba (Page.packed p.pg) := by unfold PV.packS; rw [h]; rfl
  have hb : p.pg.body.length ≤ 488 := by
    have := (PV.right_iff p).1 h
    unfold PV.pg
    rw [list_size]
    exact this.2.2.2.2.2.2
  have hl := Page.packed_length p.pg hb
  rw [hp, data_ba]
  refine ⟨by rw [ba_size, hl], by rw [ba_size, Crc.turn_length, hl], ?_⟩
  have hle := turnAt_le at_ 512 (by omega)
  by_cases hi : anyIn (turnAt at_ 512) y 18 4 = true
  · by_cases ho : anyOut (turnAt at_ 512) y 18 4 = true
    · right; rw [hi, ho]; rfl
    · left
      have := Page.page_told p.pg h1 (turnAt at_ 512) y hle hy hy0 (.inl (anyOut_not _ _ _ 4 (by simpa using ho)))
      unfold unpackE
      rw [data_ba, this]
      rfl
  · left
    have := Page.page_told p.pg h1 (turnAt at_ 512) y hle hy hy0 (.inr (anyIn_not _ _ _ 4 (by simpa using hi)))
    unfold unpackE
    rw [data_ba, this]
    rfl
theorem meta_part (m : MV) (h : m.right = true) (at_ : Int) (y : Nat) (hy : y < 2 ^ 32) (hy0 : y ≠ 0) :
    m.packS.size = 128 ∧ (ba (Crc.turn m.packS.data.toList (turnAt at_ 128) y 4)).size = 128 ∧
      (unpackME (ba (Crc.turn m.packS.data.toList (turnAt at_ 128) y 4)) = 4 ∨ (anyIn (turnAt at_ 128) y 32 4 && anyOut (turnAt at_ 128) y 32 4) = true) := by
  have hp : m.packS = ba (Page.packedM m.me) := by unfold MV.packS; rw [h]; rfl
  have hl := Page.packedM_length m.me
  rw [hp, data_ba]
  refine ⟨by rw [ba_size, hl], by rw [ba_size, Crc.turn_length, hl], ?_⟩
  have hle := turnAt_le at_ 128 (by omega)
  by_cases hi : anyIn (turnAt at_ 128) y 32 4 = true
  · by_cases ho : anyOut (turnAt at_ 128) y 32 4 = true
    · right; rw [hi, ho]; rfl
    · left
      have := Page.meta_told m.me (turnAt at_ 128) y hle hy hy0 (.inl (anyOut_not _ _ _ 4 (by simpa using ho)))
      unfold unpackME
      rw [data_ba, this]
      rfl
  · left
    have := Page.meta_told m.me (turnAt at_ 128) y hle hy hy0 (.inr (anyIn_not _ _ _ 4 (by simpa using hi)))
    unfold unpackME
    rw [data_ba, this]
    rfl
set_option maxRecDepth 8000 in
set_option maxHeartbeats 800000 in
theorem tells_early (K : PageKit 11 9 13 21 17 18 23) (w : World) (p : PV) (m : MV) (at_ : Int) (y : Nat) (h : 2000 < p.body.size ∨ y = 0) :
    Calls Try.prog 5 #[p.val, m.val, .int .i64 at_, .int .u32 y] w fun e' w' => e' = .returned (.bool true) ∧ Below w.heap.size w w' := by
  have AW := fun w => Lib.hid (pawake_ok K w)
  obtain ⟨kind, no, txn, body⟩ := p
  obtain ⟨mt, mr, mf, mp, ml⟩ := m
  unfold PV.val MV.val
  simp only at h ⊢
  obtain ⟨w0, hw0⟩ : ∃ w0, (w.alloc (.cells #[.int .i64 kind, .int .i64 no, .int .i64 txn, .string body] 23)).alloc (.cells #[.int .i64 mt, .int .i64 mr, .int .i64 mf, .int .i64 mp, .int .i64 ml] 33) = w0 := ⟨_, rfl⟩
  have B0 : Below w.heap.size w w0 := by rw [← hw0]; exact ((Below.refl _ w).alloc (Nat.le_refl _) _).alloc (by simp) _
  have P0 : Blk w0 w.heap.size #[.int .i64 kind, .int .i64 no, .int .i64 txn, .string body] 23 := by rw [← hw0]; exact (Blk.new w _ _).alloc _
  by_cases h1 : 2000 < body.size
  · have n0 : decide ((2000 : Int) < (body.size : Int)) = true := decide_eq_true (by omega)
    clear h h1
    go_enter Try.func5, Try.ntmps5
    go_wp2_with fail
    refine (AW _).out.mono ?_
    rintro _ w2 ⟨rfl, hb2⟩
    have P2 : Blk w2 w.heap.size #[.int .i64 kind, .int .i64 no, .int .i64 txn, .string body] 23 := (hb2.block _ P0.lt).trans P0
    have c3 : w2.cell? ⟨w.heap.size, 3, none⟩ = some (.string body) := P2.cell 3
    go_wp2
    go_ret
    exact ⟨rfl, B0.trans (hb2.mono B0.size)⟩
  · have n0 : decide ((2000 : Int) < (body.size : Int)) = false := decide_eq_false (by omega)
    obtain rfl : y = 0 := by omega
    clear h h1
    go_enter Try.func5, Try.ntmps5
    go_wp2_with fail
    refine (AW _).out.mono ?_
    rintro _ w2 ⟨rfl, hb2⟩
    have P2 : Blk w2 w.heap.size #[.int .i64 kind, .int .i64 no, .int .i64 txn, .string body] 23 := (hb2.block _ P0.lt).trans P0
    have c3 : w2.cell? ⟨w.heap.size, 3, none⟩ = some (.string body) := P2.cell 3
    go_wp2
    go_ret
    exact ⟨rfl, B0.trans (hb2.mono B0.size)⟩
theorem tells_any (K : PageKit 11 9 13 21 17 18 23) (w : World) (p : PV) (m : MV) (at_ : Int) (y : Nat) (hy : y < 2 ^ 32) :
    Calls Try.prog 5 #[p.val, m.val, .int .i64 at_, .int .u32 y] w fun e' w' => e' = .returned (.bool true) ∧ Below w.heap.size w w' := by
  by_cases hE : 2000 < p.body.size ∨ y = 0
  · exact tells_early K w p m at_ y hE
  · have hb : p.body.size ≤ 2000 := by omega
    have hy0 : y ≠ 0 := by omega
    have n0 : decide ((2000 : Int) < (p.body.size : Int)) = false := decide_eq_false (by omega)
    have y0 : ((y : Int) == 0) = false := by rw [beq_eq_false_iff_ne]; omega
    have PC := fun w => Lib.hid (K.pack w p hb)
    have QC := fun w => Lib.hid (K.packM w m)
    have TC : ∀ s : ByteArray, 4 ≤ s.size → s.size ≤ 2000 → ∀ w, Hid (Calls Try.prog 15 #[.string s, .int .i64 at_, .int .u32 y] w fun e w' => e = .returned (.string (ba (Crc.turn s.data.toList (turnAt at_ s.size) y 4))) ∧ Below w.heap.size w w') := fun s h1 h2 w => Lib.hid (turned15 s h1 h2 at_ y w)
    have MC : ∀ (s : ByteArray) (sum : Nat), 4 ≤ s.size → s.size ≤ 2000 → sum ≤ 1000 → (anyIn (turnAt at_ s.size) y sum 4 && anyOut (turnAt at_ s.size) y sum 4) = true → ∀ w, Hid (Calls Try.prog 16 #[.string s, .int .i64 at_, .int .u32 y, .int .i64 sum] w fun e w' => e = .returned (.bool true) ∧ w = w') := fun s sum h1 h2 h3 h4 w => Lib.hid (by
      have := mixed16 s h1 h2 at_ y sum h3 w
      rwa [h4] at this)
    have ne4 : ∀ x : Int, x ≠ 4 → (x == 4) = false := fun x h => by rw [beq_eq_false_iff_ne]; exact h
    have e4 : ∀ x : Int, x = 4 → (x == 4) = true := fun x h => by rw [beq_iff_eq]; exact h
    cases hpr : p.right
    · have d1 : (p.packE == 0) = false := by unfold PV.packE; rw [hpr]; rfl
      cases hmr : m.right
      · have d3 : (m.packE == 0) = false := by unfold MV.packE; rw [hmr]; rfl
        exact tells_00 K w _ _ _ _ _ _ _ _ _ at_ y _ _ _ _ PC QC n0 y0 d1 d3
      · have d3 : (m.packE == 0) = true := by unfold MV.packE; rw [hmr]; rfl
        obtain ⟨s1, s2, s3⟩ := meta_part m hmr at_ y hy hy0
        have TD := TC m.packS (by omega) (by omega)
        rw [s1] at TD
        have UD := fun w => Lib.hid (K.unpackM w (ba (Crc.turn m.packS.data.toList (turnAt at_ 128) y 4)) (by omega))
        by_cases h4 : unpackME (ba (Crc.turn m.packS.data.toList (turnAt at_ 128) y 4)) = 4
        · exact tells_01 K w _ _ _ _ _ _ _ _ _ at_ y _ _ _ _ _ _ _ _ _ _ _ PC QC TD UD n0 y0 d1 d3 (e4 _ h4)
        · exact tells_02 K w _ _ _ _ _ _ _ _ _ at_ y _ _ _ _ _ _ _ _ _ _ _ PC QC TD UD (MC m.packS 32 (by omega) (by omega) (by omega) (by rw [s1]; exact s3.resolve_left h4)) n0 y0 d1 d3 (ne4 _ h4)
    · have d1 : (p.packE == 0) = true := by unfold PV.packE; rw [hpr]; rfl
      obtain ⟨r1, r2, r3⟩ := page_part p hpr at_ y hy hy0
      have TP := TC p.packS (by omega) (by omega)
      rw [r1] at TP
      have UP := fun w => Lib.hid (K.unpack w (ba (Crc.turn p.packS.data.toList (turnAt at_ 512) y 4)) (by omega))
      by_cases g4 : unpackE (ba (Crc.turn p.packS.data.toList (turnAt at_ 512) y 4)) = 4
      · cases hmr : m.right
        · have d3 : (m.packE == 0) = false := by unfold MV.packE; rw [hmr]; rfl
          exact tells_10 K w _ _ _ _ _ _ _ _ _ at_ y _ _ _ _ _ _ _ _ _ _ PC QC TP UP n0 y0 d1 (e4 _ g4) d3
        · have d3 : (m.packE == 0) = true := by unfold MV.packE; rw [hmr]; rfl
          obtain ⟨s1, s2, s3⟩ := meta_part m hmr at_ y hy hy0
          have TD := TC m.packS (by omega) (by omega)
          rw [s1] at TD
          have UD := fun w => Lib.hid (K.unpackM w (ba (Crc.turn m.packS.data.toList (turnAt at_ 128) y 4)) (by omega))
          by_cases h4 : unpackME (ba (Crc.turn m.packS.data.toList (turnAt at_ 128) y 4)) = 4
          · exact tells_11 K w _ _ _ _ _ _ _ _ _ at_ y _ _ _ _ _ _ _ _ _ _ _ _ _ _ _ _ _ PC QC TP UP TD UD n0 y0 d1 (e4 _ g4) d3 (e4 _ h4)
          · exact tells_12 K w _ _ _ _ _ _ _ _ _ at_ y _ _ _ _ _ _ _ _ _ _ _ _ _ _ _ _ _ PC QC TP UP TD UD (MC m.packS 32 (by omega) (by omega) (by omega) (by rw [s1]; exact s3.resolve_left h4)) n0 y0 d1 (e4 _ g4) d3 (ne4 _ h4)
      · have MP := MC p.packS 18 (by omega) (by omega) (by omega) (by rw [r1]; exact r3.resolve_left g4)
        cases hmr : m.right
        · have d3 : (m.packE == 0) = false := by unfold MV.packE; rw [hmr]; rfl
          exact tells_20 K w _ _ _ _ _ _ _ _ _ at_ y _ _ _ _ _ _ _ _ _ _ PC QC TP UP MP n0 y0 d1 (ne4 _ g4) d3
        · have d3 : (m.packE == 0) = true := by unfold MV.packE; rw [hmr]; rfl
          obtain ⟨s1, s2, s3⟩ := meta_part m hmr at_ y hy hy0
          have TD := TC m.packS (by omega) (by omega)
          rw [s1] at TD
          have UD := fun w => Lib.hid (K.unpackM w (ba (Crc.turn m.packS.data.toList (turnAt at_ 128) y 4)) (by omega))
          by_cases h4 : unpackME (ba (Crc.turn m.packS.data.toList (turnAt at_ 128) y 4)) = 4
          · exact tells_21 K w _ _ _ _ _ _ _ _ _ at_ y _ _ _ _ _ _ _ _ _ _ _ _ _ _ _ _ _ PC QC TP UP MP TD UD n0 y0 d1 (ne4 _ g4) d3 (e4 _ h4)
          · exact tells_22 K w _ _ _ _ _ _ _ _ _ at_ y _ _ _ _ _ _ _ _ _ _ _ _ _ _ _ _ _ PC QC TP UP MP TD UD (MC m.packS 32 (by omega) (by omega) (by omega) (by rw [s1]; exact s3.resolve_left h4)) n0 y0 d1 (ne4 _ g4) d3 (ne4 _ h4)
end Go.Proofs.Ytnhnfabgofncaaa
