/-
  Contracts of the landed functions of chapter 6: lay, layText, cellBytes, Encode. Conditions: lists and texts of at most 600; cells that may be.
-/
import Derived.Test.YtegmffeokfahjaaNlC
import Derived.Test.YtegmffeokfahjaaRNodeE
import Derived.Test.YtegmffeokfahjaaTexts1
namespace Go.Proofs.Ytegmffeokfahjaa
open Go.RowKit
set_option maxRecDepth 100000 in
set_option maxHeartbeats 3200000 in
theorem llay_ok (w : World) (s : ByteArray) (n k : Nat) (K : Int) (hK : K = k) (hs : s.size ≤ 100000) (hn : n < 2 ^ (8 * k)) (hn2 : n < 4294967296) (hk : 1 ≤ k) (hk8 : k ≤ 8) : Calls Try.prog 27 #[.string s, .int .i64 n, .int .i64 K] w fun e w' => e = .returned (.string (s ++ ba (beB n k 0))) ∧ Below w.heap.size w w' := by
  subst hK
  have PC0 := fun w => put_ok s n k (by omega) hn hk hk8 w
  have hst : (⟨(s.data.toList ++ beB n k 0).toArray⟩ : ByteArray) = s ++ ba (beB n k 0) := str_cat s _
  obtain ⟨S, hS⟩ : ∃ S, s ++ ba (beB n k 0) = S := ⟨_, rfl⟩
  rw [hS] at hst ⊢
  simp only [hst] at PC0
  have PC := fun w => Lib.hid (PC0 w)
  have m1 : IntKind.u64.wrap (n : Int) = n := by
    unfold IntKind.wrap
    simp [IntKind.bits, IntKind.signed]
    omega
  clear hn hst hS PC0
  go_enter Try.func27, Try.ntmps27
  go_wp2_with fail
  refine (PC _).out.mono ?_
  rintro _ w1 ⟨rfl, hb1⟩
  go_wp2
  go_ret
  exact ⟨rfl, hb1⟩
set_option maxRecDepth 100000 in
set_option maxHeartbeats 3200000 in
theorem ltext_ok (w : World) (s t : ByteArray) (hs : s.size ≤ 100000) (ht : t.size ≤ 65535) : Calls Try.prog 44 #[.string s, .string t] w fun e w' => e = .returned (.string (s ++ ba (beB t.size 2 0) ++ t)) ∧ Below w.heap.size w w' := by
  have TC0 := fun w => text_ok s t (by omega) ht w
  have hst : (⟨(s.data.toList ++ beB t.size 2 0 ++ t.data.toList).toArray⟩ : ByteArray) = s ++ ba (beB t.size 2 0) ++ t := by
    rw [cat_str, str_cat]
    rfl
  obtain ⟨S, hS⟩ : ∃ S, s ++ ba (beB t.size 2 0) ++ t = S := ⟨_, rfl⟩
  rw [hS] at hst ⊢
  simp only [hst] at TC0
  have TC := fun w => Lib.hid (TC0 w)
  clear hst hS TC0 hs ht
  go_enter Try.func44, Try.ntmps44
  go_wp2_with fail
  refine (TC _).out.mono ?_
  rintro _ w1 ⟨rfl, hb1⟩
  go_wp2
  go_ret
  exact ⟨rfl, hb1⟩
set_option maxRecDepth 100000 in
set_option maxHeartbeats 3200000 in
theorem lone_branch (w : World) (key : ByteArray) (child : Nat) (hk : key.size ≤ 120) (hc : child ≤ 511) : Calls Try.prog 29 #[.bool false, .agg #[.string key, .string ⟨#[]⟩, .int .i64 0, .int .i64 0, .int .i64 child]] w fun e w' => e = .returned (.string (ba (beB key.size 2 0) ++ key ++ ba (beB child 4 0))) ∧ Below w.heap.size w w' := by
  have hbl : Below w.heap.size w (w.alloc (.cells #[.string key, .string ⟨#[]⟩, .int .i64 0, .int .i64 0, .int .i64 child] 35)) := (Below.refl _ w).alloc (Nat.le_refl _) _
  have hlt : w.heap.size < (w.alloc (.cells #[.string key, .string ⟨#[]⟩, .int .i64 0, .int .i64 0, .int .i64 child] 35)).heap.size := by simp
  have C0a := fun w => ltext_ok w ⟨#[]⟩ key (by decide) (by omega)
  have e0 : (⟨#[]⟩ : ByteArray) ++ ba (beB key.size 2 0) ++ key = ba (beB key.size 2 0) ++ key := by rw [show (⟨#[]⟩ : ByteArray) = ByteArray.empty from rfl, ByteArray.empty_append]
  simp only [e0] at C0a
  obtain ⟨S0, h0⟩ : ∃ S, ba (beB key.size 2 0) ++ key = S := ⟨_, rfl⟩
  have z0 : S0.size = 2 + key.size := by rw [← h0, ByteArray.size_append, ba_beB_size]
  simp only [h0] at C0a
  rw [h0]
  have C0 := fun w => Lib.hid (C0a w)
  have C1a := fun w => llay_ok w S0 child 4 4 rfl (by omega) (by omega) (by omega) (by omega) (by omega)
  obtain ⟨S1, h1⟩ : ∃ S, S0 ++ ba (beB child 4 0) = S := ⟨_, rfl⟩
  simp only [h1] at C1a
  rw [h1]
  have C1 := fun w => Lib.hid (C1a w)
  clear C0a C1a e0 h0 h1 z0
  go_enter Try.func29, Try.ntmps29
  go_wp2_with fail
  refine (C0 _).out.mono ?_
  rintro _ w1 ⟨rfl, hb1⟩
  have HB1 := Lib.hid (hbl.trans (hb1.mono (by simp)))
  have X1 := Lib.hid ((hb1.block _ hlt).trans (Blk.new w #[.string key, .string ⟨#[]⟩, .int .i64 0, .int .i64 0, .int .i64 child] 35))
  obtain ⟨q0, q1, q2, q3, q4⟩ : w1.cell? ⟨w.heap.size, 0, none⟩ = some (.string key) ∧ w1.cell? ⟨w.heap.size, 1, none⟩ = some (.string ⟨#[]⟩) ∧ w1.cell? ⟨w.heap.size, 2, none⟩ = some (.int .i64 0) ∧ w1.cell? ⟨w.heap.size, 3, none⟩ = some (.int .i64 0) ∧ w1.cell? ⟨w.heap.size, 4, none⟩ = some (.int .i64 child) := by
    have hb : Blk w1 w.heap.size #[.string key, .string ⟨#[]⟩, .int .i64 0, .int .i64 0, .int .i64 child] 35 := X1.out
    exact ⟨hb.cell 0, hb.cell 1, hb.cell 2, hb.cell 3, hb.cell 4⟩
  go_wp2_with fail
  refine (C1 _).out.mono ?_
  rintro _ w2 ⟨rfl, hb2⟩
  have HB2 := Lib.hid (HB1.out.trans (hb2.mono HB1.out.size))
  have X2 := Lib.hid ((hb2.block _ (show w.heap.size < w1.heap.size from (show Blk w1 w.heap.size #[.string key, .string ⟨#[]⟩, .int .i64 0, .int .i64 0, .int .i64 child] 35 from X1.out).lt)).trans X1.out)
  clear q0 q1 q2 q3 q4
  go_wp2
  go_ret
  exact ⟨rfl, HB2.out⟩
set_option maxRecDepth 100000 in
set_option maxHeartbeats 3200000 in
theorem lone_over (w : World) (key : ByteArray) (over size : Nat) (hk : key.size ≤ 120) (ho : 1 ≤ over ∧ over ≤ 511) (hs : size ≤ 4000) : Calls Try.prog 29 #[.bool true, .agg #[.string key, .string ⟨#[]⟩, .int .i64 over, .int .i64 size, .int .i64 0]] w fun e w' => e = .returned (.string (ba (beB key.size 2 0) ++ key ++ (⟨#[1]⟩ : ByteArray) ++ ba (beB over 4 0) ++ ba (beB size 4 0))) ∧ Below w.heap.size w w' := by
  have hbl : Below w.heap.size w (w.alloc (.cells #[.string key, .string ⟨#[]⟩, .int .i64 over, .int .i64 size, .int .i64 0] 35)) := (Below.refl _ w).alloc (Nat.le_refl _) _
  have hlt : w.heap.size < (w.alloc (.cells #[.string key, .string ⟨#[]⟩, .int .i64 over, .int .i64 size, .int .i64 0] 35)).heap.size := by simp
  have C0a := fun w => ltext_ok w ⟨#[]⟩ key (by decide) (by omega)
  have e0 : (⟨#[]⟩ : ByteArray) ++ ba (beB key.size 2 0) ++ key = ba (beB key.size 2 0) ++ key := by rw [show (⟨#[]⟩ : ByteArray) = ByteArray.empty from rfl, ByteArray.empty_append]
  simp only [e0] at C0a
  obtain ⟨S0, h0⟩ : ∃ S, ba (beB key.size 2 0) ++ key = S := ⟨_, rfl⟩
  have z0 : S0.size = 2 + key.size := by rw [← h0, ByteArray.size_append, ba_beB_size]
  simp only [h0] at C0a
  rw [h0]
  have C0 := fun w => Lib.hid (C0a w)
  have C1a := fun w => llay_ok w S0 1 1 1 rfl (by omega) (by omega) (by omega) (by omega) (by omega)
  have e1 : ba (beB 1 1 0) = ⟨#[1]⟩ := by rw [Node.beB_one.1]; rfl
  simp only [e1] at C1a
  obtain ⟨S1, h1⟩ : ∃ S, S0 ++ (⟨#[1]⟩ : ByteArray) = S := ⟨_, rfl⟩
  have z1 : S1.size = 2 + key.size + 1 := by rw [← h1, ByteArray.size_append, z0]; rfl
  simp only [h1] at C1a
  rw [h1]
  have C1 := fun w => Lib.hid (C1a w)
  have C2a := fun w => llay_ok w S1 over 4 4 rfl (by omega) (by omega) (by omega) (by omega) (by omega)
  obtain ⟨S2, h2⟩ : ∃ S, S1 ++ ba (beB over 4 0) = S := ⟨_, rfl⟩
  have z2 : S2.size = 2 + key.size + 5 := by rw [← h2, ByteArray.size_append, z1, ba_beB_size]
  simp only [h2] at C2a
  rw [h2]
  have C2 := fun w => Lib.hid (C2a w)
  have C3a := fun w => llay_ok w S2 size 4 4 rfl (by omega) (by omega) (by omega) (by omega) (by omega)
  obtain ⟨S3, h3⟩ : ∃ S, S2 ++ ba (beB size 4 0) = S := ⟨_, rfl⟩
  simp only [h3] at C3a
  rw [h3]
  have C3 := fun w => Lib.hid (C3a w)
  have d1 : decide ((0 : Int) < (over : Int)) = true := decide_eq_true (by omega)
  have C1' := fun w => (show Hid (Calls Try.prog 27 #[.string S0, .int .i64 1, .int .i64 1] w fun e w' => e = .returned (.string S1) ∧ Below w.heap.size w w') from C1 w)
  clear C0a C1a C2a C3a e0 h0 h1 h2 h3 z0 z1 z2 e1 C1
  go_enter Try.func29, Try.ntmps29
  go_wp2_with fail
  refine (C0 _).out.mono ?_
  rintro _ w1 ⟨rfl, hb1⟩
  have HB1 := Lib.hid (hbl.trans (hb1.mono (by simp)))
  have X1 := Lib.hid ((hb1.block _ hlt).trans (Blk.new w #[.string key, .string ⟨#[]⟩, .int .i64 over, .int .i64 size, .int .i64 0] 35))
  obtain ⟨q0, q1, q2, q3, q4⟩ : w1.cell? ⟨w.heap.size, 0, none⟩ = some (.string key) ∧ w1.cell? ⟨w.heap.size, 1, none⟩ = some (.string ⟨#[]⟩) ∧ w1.cell? ⟨w.heap.size, 2, none⟩ = some (.int .i64 over) ∧ w1.cell? ⟨w.heap.size, 3, none⟩ = some (.int .i64 size) ∧ w1.cell? ⟨w.heap.size, 4, none⟩ = some (.int .i64 0) := by
    have hb : Blk w1 w.heap.size #[.string key, .string ⟨#[]⟩, .int .i64 over, .int .i64 size, .int .i64 0] 35 := X1.out
    exact ⟨hb.cell 0, hb.cell 1, hb.cell 2, hb.cell 3, hb.cell 4⟩
  go_wp2_with fail
  refine (C1' _).out.mono ?_
  rintro _ w2 ⟨rfl, hb2⟩
  have HB2 := Lib.hid (HB1.out.trans (hb2.mono HB1.out.size))
  have X2 := Lib.hid ((hb2.block _ (show w.heap.size < w1.heap.size from (show Blk w1 w.heap.size #[.string key, .string ⟨#[]⟩, .int .i64 over, .int .i64 size, .int .i64 0] 35 from X1.out).lt)).trans X1.out)
  clear q0 q1 q2 q3 q4
  obtain ⟨q0, q1, q2, q3, q4⟩ : w2.cell? ⟨w.heap.size, 0, none⟩ = some (.string key) ∧ w2.cell? ⟨w.heap.size, 1, none⟩ = some (.string ⟨#[]⟩) ∧ w2.cell? ⟨w.heap.size, 2, none⟩ = some (.int .i64 over) ∧ w2.cell? ⟨w.heap.size, 3, none⟩ = some (.int .i64 size) ∧ w2.cell? ⟨w.heap.size, 4, none⟩ = some (.int .i64 0) := by
    have hb : Blk w2 w.heap.size #[.string key, .string ⟨#[]⟩, .int .i64 over, .int .i64 size, .int .i64 0] 35 := X2.out
    exact ⟨hb.cell 0, hb.cell 1, hb.cell 2, hb.cell 3, hb.cell 4⟩
  go_wp2_with fail
  refine (C2 _).out.mono ?_
  rintro _ w3 ⟨rfl, hb3⟩
  have HB3 := Lib.hid (HB2.out.trans (hb3.mono HB2.out.size))
  have X3 := Lib.hid ((hb3.block _ (show w.heap.size < w2.heap.size from (show Blk w2 w.heap.size #[.string key, .string ⟨#[]⟩, .int .i64 over, .int .i64 size, .int .i64 0] 35 from X2.out).lt)).trans X2.out)
  clear q0 q1 q2 q3 q4
  obtain ⟨q0, q1, q2, q3, q4⟩ : w3.cell? ⟨w.heap.size, 0, none⟩ = some (.string key) ∧ w3.cell? ⟨w.heap.size, 1, none⟩ = some (.string ⟨#[]⟩) ∧ w3.cell? ⟨w.heap.size, 2, none⟩ = some (.int .i64 over) ∧ w3.cell? ⟨w.heap.size, 3, none⟩ = some (.int .i64 size) ∧ w3.cell? ⟨w.heap.size, 4, none⟩ = some (.int .i64 0) := by
    have hb : Blk w3 w.heap.size #[.string key, .string ⟨#[]⟩, .int .i64 over, .int .i64 size, .int .i64 0] 35 := X3.out
    exact ⟨hb.cell 0, hb.cell 1, hb.cell 2, hb.cell 3, hb.cell 4⟩
  go_wp2_with fail
  refine (C3 _).out.mono ?_
  rintro _ w4 ⟨rfl, hb4⟩
  have HB4 := Lib.hid (HB3.out.trans (hb4.mono HB3.out.size))
  have X4 := Lib.hid ((hb4.block _ (show w.heap.size < w3.heap.size from (show Blk w3 w.heap.size #[.string key, .string ⟨#[]⟩, .int .i64 over, .int .i64 size, .int .i64 0] 35 from X3.out).lt)).trans X3.out)
  clear q0 q1 q2 q3 q4
  go_wp2
  go_ret
  exact ⟨rfl, HB4.out⟩
set_option maxRecDepth 100000 in
set_option maxHeartbeats 3200000 in
theorem lone_inline (w : World) (key val : ByteArray) (hk : key.size ≤ 120) (hv : val.size ≤ 96) : Calls Try.prog 29 #[.bool true, .agg #[.string key, .string val, .int .i64 0, .int .i64 0, .int .i64 0]] w fun e w' => e = .returned (.string (ba (beB key.size 2 0) ++ key ++ (⟨#[0]⟩ : ByteArray) ++ ba (beB val.size 2 0) ++ val)) ∧ Below w.heap.size w w' := by
  have hbl : Below w.heap.size w (w.alloc (.cells #[.string key, .string val, .int .i64 0, .int .i64 0, .int .i64 0] 35)) := (Below.refl _ w).alloc (Nat.le_refl _) _
  have hlt : w.heap.size < (w.alloc (.cells #[.string key, .string val, .int .i64 0, .int .i64 0, .int .i64 0] 35)).heap.size := by simp
  have C0a := fun w => ltext_ok w ⟨#[]⟩ key (by decide) (by omega)
  have e0 : (⟨#[]⟩ : ByteArray) ++ ba (beB key.size 2 0) ++ key = ba (beB key.size 2 0) ++ key := by rw [show (⟨#[]⟩ : ByteArray) = ByteArray.empty from rfl, ByteArray.empty_append]
  simp only [e0] at C0a
  obtain ⟨S0, h0⟩ : ∃ S, ba (beB key.size 2 0) ++ key = S := ⟨_, rfl⟩
  have z0 : S0.size = 2 + key.size := by rw [← h0, ByteArray.size_append, ba_beB_size]
  simp only [h0] at C0a
  rw [h0]
  have C0 := fun w => Lib.hid (C0a w)
  have C1a := fun w => llay_ok w S0 0 1 1 rfl (by omega) (by omega) (by omega) (by omega) (by omega)
  have e1 : ba (beB 0 1 0) = ⟨#[0]⟩ := by rw [Node.beB_one.2]; rfl
  simp only [e1] at C1a
  obtain ⟨S1, h1⟩ : ∃ S, S0 ++ (⟨#[0]⟩ : ByteArray) = S := ⟨_, rfl⟩
  have z1 : S1.size = 2 + key.size + 1 := by rw [← h1, ByteArray.size_append, z0]; rfl
  simp only [h1] at C1a
  rw [h1]
  have C1 := fun w => Lib.hid (C1a w)
  have C2a := fun w => ltext_ok w S1 val (by omega) (by omega)
  obtain ⟨S2, h2⟩ : ∃ S, S1 ++ ba (beB val.size 2 0) ++ val = S := ⟨_, rfl⟩
  simp only [h2] at C2a
  rw [h2]
  have C2 := fun w => Lib.hid (C2a w)
  have d1 : decide ((0 : Int) < (0 : Int)) = false := decide_eq_false (by omega)
  have C1' := fun w => (show Hid (Calls Try.prog 27 #[.string S0, .int .i64 0, .int .i64 1] w fun e w' => e = .returned (.string S1) ∧ Below w.heap.size w w') from C1 w)
  clear C0a C1a C2a e0 h0 h1 h2 z0 z1 e1 C1
  go_enter Try.func29, Try.ntmps29
  go_wp2_with fail
  refine (C0 _).out.mono ?_
  rintro _ w1 ⟨rfl, hb1⟩
  have HB1 := Lib.hid (hbl.trans (hb1.mono (by simp)))
  have X1 := Lib.hid ((hb1.block _ hlt).trans (Blk.new w #[.string key, .string val, .int .i64 0, .int .i64 0, .int .i64 0] 35))
  obtain ⟨q0, q1, q2, q3, q4⟩ : w1.cell? ⟨w.heap.size, 0, none⟩ = some (.string key) ∧ w1.cell? ⟨w.heap.size, 1, none⟩ = some (.string val) ∧ w1.cell? ⟨w.heap.size, 2, none⟩ = some (.int .i64 0) ∧ w1.cell? ⟨w.heap.size, 3, none⟩ = some (.int .i64 0) ∧ w1.cell? ⟨w.heap.size, 4, none⟩ = some (.int .i64 0) := by
    have hb : Blk w1 w.heap.size #[.string key, .string val, .int .i64 0, .int .i64 0, .int .i64 0] 35 := X1.out
    exact ⟨hb.cell 0, hb.cell 1, hb.cell 2, hb.cell 3, hb.cell 4⟩
  go_wp2_with fail
  refine (C1' _).out.mono ?_
  rintro _ w2 ⟨rfl, hb2⟩
  have HB2 := Lib.hid (HB1.out.trans (hb2.mono HB1.out.size))
  have X2 := Lib.hid ((hb2.block _ (show w.heap.size < w1.heap.size from (show Blk w1 w.heap.size #[.string key, .string val, .int .i64 0, .int .i64 0, .int .i64 0] 35 from X1.out).lt)).trans X1.out)
  clear q0 q1 q2 q3 q4
  obtain ⟨q0, q1, q2, q3, q4⟩ : w2.cell? ⟨w.heap.size, 0, none⟩ = some (.string key) ∧ w2.cell? ⟨w.heap.size, 1, none⟩ = some (.string val) ∧ w2.cell? ⟨w.heap.size, 2, none⟩ = some (.int .i64 0) ∧ w2.cell? ⟨w.heap.size, 3, none⟩ = some (.int .i64 0) ∧ w2.cell? ⟨w.heap.size, 4, none⟩ = some (.int .i64 0) := by
    have hb : Blk w2 w.heap.size #[.string key, .string val, .int .i64 0, .int .i64 0, .int .i64 0] 35 := X2.out
    exact ⟨hb.cell 0, hb.cell 1, hb.cell 2, hb.cell 3, hb.cell 4⟩
  go_wp2_with fail
  refine (C2 _).out.mono ?_
  rintro _ w3 ⟨rfl, hb3⟩
  have HB3 := Lib.hid (HB2.out.trans (hb3.mono HB2.out.size))
  have X3 := Lib.hid ((hb3.block _ (show w.heap.size < w2.heap.size from (show Blk w2 w.heap.size #[.string key, .string val, .int .i64 0, .int .i64 0, .int .i64 0] 35 from X2.out).lt)).trans X2.out)
  clear q0 q1 q2 q3 q4
  go_wp2
  go_ret
  exact ⟨rfl, HB3.out⟩
/-- a cell's bytes -/
theorem lone_ok (w : World) (leaf : Bool) (c : CV) (h : c.ok leaf = true) : Calls Try.prog 29 #[.bool leaf, c.v] w fun e w' => e = .returned (.string (ba (Node.one leaf c.cl))) ∧ Below w.heap.size w w' := by
  obtain ⟨key, val, over, size, child⟩ := c
  have ek : key.data.toList.length = key.size := by rw [Array.length_toList]; rfl
  have ev : val.data.toList.length = val.size := by rw [Array.length_toList]; rfl
  cases leaf
  · rw [CV.ok_branch] at h
    obtain ⟨h1, h2, h3, h4, rfl, rfl⟩ := h
    obtain ⟨child, rfl⟩ := Int.eq_ofNat_of_zero_le (show 0 ≤ child by omega)
    have hv := size_nil h4
    subst hv
    have e : ba (Node.one false (CV.cl ⟨key, ⟨#[]⟩, 0, 0, child⟩)) = ba (beB key.size 2 0) ++ key ++ ba (beB child 4 0) := by
      unfold Node.one Node.tailOf CV.cl
      simp only [Bool.false_eq_true, if_false, ek, Int.toNat_natCast]
      rw [ba_mid]
    rw [e]
    exact lone_branch w key child h1 (by omega)
  · rw [CV.ok_leaf] at h
    obtain ⟨h1, h2, rfl, h4⟩ := h
    rcases h4 with ⟨rfl, rfl, h5⟩ | ⟨h5, h6, h7, h8, h9⟩
    · have e : ba (Node.one true (CV.cl ⟨key, val, 0, 0, 0⟩)) = ba (beB key.size 2 0) ++ key ++ (⟨#[0]⟩ : ByteArray) ++ ba (beB val.size 2 0) ++ val := by
        unfold Node.one Node.tailOf CV.cl
        simp only [if_true, ek, ev]
        rw [if_neg (by decide), show (⟨#[0]⟩ : ByteArray) = ba [0] from rfl]
        rw [ba_mid, ba_cons, ba_last]
        simp only [ByteArray.append_assoc]
      rw [e]
      exact lone_inline w key val h1 h5
    · obtain ⟨over, rfl⟩ := Int.eq_ofNat_of_zero_le (show 0 ≤ over by omega)
      obtain ⟨size, rfl⟩ := Int.eq_ofNat_of_zero_le (show 0 ≤ size by omega)
      have hv := size_nil h5
      subst hv
      have e : ba (Node.one true (CV.cl ⟨key, ⟨#[]⟩, over, size, 0⟩)) = ba (beB key.size 2 0) ++ key ++ (⟨#[1]⟩ : ByteArray) ++ ba (beB over 4 0) ++ ba (beB size 4 0) := by
        unfold Node.one Node.tailOf CV.cl
        simp only [if_true, ek, Int.toNat_natCast]
        rw [if_pos (by omega), show (⟨#[1]⟩ : ByteArray) = ba [1] from rfl]
        rw [ba_mid, ba_cons, ← ba_append]
        simp only [ByteArray.append_assoc]
      rw [e]
      exact lone_over w key over size h1 (by omega) (by omega)
set_option maxRecDepth 100000 in
set_option maxHeartbeats 3200000 in
theorem lenc_bad (w : World) (leaf : Bool) (v : Value) (BC : Hid (Calls Try.prog 15 #[.bool leaf, v] w fun e w' => e = .returned (.int .i64 0) ∧ Below w.heap.size w w')) : Calls Try.prog 11 #[.bool leaf, v] w fun e w' => e = .returned (.tuple #[.string ⟨#[]⟩, .int .i64 4]) ∧ Below w.heap.size w w' := by
  go_enter Try.func11, Try.ntmps11
  go_wp2_with fail
  refine BC.out.mono ?_
  rintro _ w1 ⟨rfl, hb1⟩
  go_wp2
  go_ret2
  exact ⟨rfl, hb1⟩
set_option maxRecDepth 100000 in
set_option maxHeartbeats 3200000 in
theorem lenc_long (w : World) (leaf : Bool) (v : Value) (n : Nat) (hn : 488 < n) (BC : Hid (Calls Try.prog 15 #[.bool leaf, v] w fun e w' => e = .returned (.int .i64 n) ∧ Below w.heap.size w w')) : Calls Try.prog 11 #[.bool leaf, v] w fun e w' => e = .returned (.tuple #[.string ⟨#[]⟩, .int .i64 5]) ∧ Below w.heap.size w w' := by
  have d1 : decide ((488 : Int) < (n : Int)) = true := decide_eq_true (by omega)
  have d2 : ((n : Int) == 0) = false := by rw [beq_eq_false_iff_ne]; omega
  go_enter Try.func11, Try.ntmps11
  go_wp2_with fail
  refine BC.out.mono ?_
  rintro _ w1 ⟨rfl, hb1⟩
  go_wp2
  go_ret2
  exact ⟨rfl, hb1⟩
set_option maxRecDepth 100000 in
set_option maxHeartbeats 3200000 in
theorem lenc_in (w : World) (leaf : Bool) (A : Option Addr) (cap : Nat) (l : List CV) (hc : CellsAt w (.slice A l.length cap) l) (hok : ∀ c ∈ l, c.ok leaf = true) (n : Nat) (hn : n ≤ 488) (hn0 : 2 ≤ n) (hcn : Node.countV leaf l = n)
    (BC : Hid (Calls Try.prog 15 #[.bool leaf, .slice A l.length cap] w fun e w' => e = .returned (.int .i64 n) ∧ Below w.heap.size w w')) :
    Calls Try.prog 11 #[.bool leaf, .slice A l.length cap] w fun e w' => e = .returned (.tuple #[.string (ba (Node.bytes leaf (l.map CV.cl))), .int .i64 0]) ∧ Below w.heap.size w w' := by
  have d1 : decide ((488 : Int) < (n : Int)) = false := decide_eq_false (by omega)
  have d2 : ((n : Int) == 0) = false := by rw [beq_eq_false_iff_ne]; omega
  obtain ⟨L, hL⟩ : ∃ L, l.map CV.cl = L := ⟨_, rfl⟩
  have hLl : L.length = l.length := by rw [← hL, List.length_map]
  have hLg : ∀ k (h : k < l.length) (h2 : k < L.length), L[k] = l[k].cl := fun k h h2 => by subst hL; exact List.getElem_map ..
  have hsum : 2 + 2 * l.length + (L.map (Node.long leaf)).sum = n := by
    rw [← hcn]
    unfold Node.countV Node.count
    rw [hL, Node.sum_two, hLl]
    omega
  rw [hL]
  obtain ⟨R, hR⟩ : ∃ R, ba (Node.bytes leaf L) = R := ⟨_, rfl⟩
  have HR : Hid (ba (beB l.length 2 0 ++ (Node.slots leaf (2 + 2 * l.length) L ++ L.flatMap (Node.one leaf))) = R) := Lib.hid (by rw [← hR]; unfold Node.bytes; rw [hLl])
  rw [hR]
  clear hR
  have step : Hid (∀ k (hk : k < l.length) wr, Below w.heap.size w wr → ∃ b off, A = some ⟨b, off, none⟩ ∧ b < wr.heap.size ∧ wr.cell? ⟨b, off + k * 5, none⟩ = some (.string l[k].key) ∧ wr.cell? ⟨b, off + k * 5 + 1, none⟩ = some (.string l[k].val) ∧ wr.cell? ⟨b, off + k * 5 + 2, none⟩ = some (.int .i64 l[k].over) ∧ wr.cell? ⟨b, off + k * 5 + 3, none⟩ = some (.int .i64 l[k].size) ∧ wr.cell? ⟨b, off + k * 5 + 4, none⟩ = some (.int .i64 l[k].child)) :=
    Lib.hid (fun k hk wr hbr => (hc.below hbr).get k hk)
  have hl2 : l.length ≤ 244 := by omega
  have N0a := fun w => llay_ok w ⟨#[]⟩ l.length 2 2 rfl (by decide) (by omega) (by omega) (by omega) (by omega)
  have e0 : (⟨#[]⟩ : ByteArray) ++ ba (beB l.length 2 0) = ba (beB l.length 2 0) := by rw [show (⟨#[]⟩ : ByteArray) = ByteArray.empty from rfl, ByteArray.empty_append]
  simp only [e0] at N0a
  have N0 := fun w => Lib.hid (N0a w)
  have F0a := fun w => lfrom_ok w l.length (by omega)
  obtain ⟨fr, hfr⟩ : ∃ fr, 2 + 2 * l.length = fr := ⟨_, rfl⟩
  simp only [hfr] at F0a hsum
  rw [hfr] at HR
  have F0 := fun w => Lib.hid (F0a w)
  have hfr9 : fr ≤ 490 := by omega
  have HOK := Lib.hid hok
  have HLG := Lib.hid hLg
  have HLL := Lib.hid hLl
  have HTL : Hid (∀ k, fr + ((L.take k).map (Node.long leaf)).sum ≤ 488) := Lib.hid (fun k => by have := Node.long_sum_le leaf L k; omega)
  have HSL := Lib.hid (show ∀ k, (ba (beB l.length 2 0 ++ Node.slots leaf fr (L.take k))).size ≤ fr from fun k => by
    rw [ba_size, List.length_append, beB_length, Node.slots_length, List.length_take]
    omega)
  clear hc hok hcn hLg hLl hsum hL hfr e0 N0a F0a
  go_enter Try.func11, Try.ntmps11
  go_wp2_with fail
  refine BC.out.mono ?_
  rintro _ w1 ⟨rfl, hb1⟩
  go_wp2_with fail
  refine (N0 _).out.mono ?_
  rintro _ w2 ⟨rfl, hb2⟩
  have HB2 := Lib.hid (hb1.trans (hb2.mono hb1.size))
  clear hb1 hb2
  go_wp2_with fail
  refine (F0 _).out.mono ?_
  rintro _ _ ⟨rfl, rfl⟩
  go_wp2
  go_loopw [7, 8, 27] (fun ss tt ii wr => ∃ (k : Nat) (S B : ByteArray), k ≤ l.length ∧ ss = .string S ∧ tt = .string B ∧ ii = .int .i64 k ∧ Hid (S = ba (beB l.length 2 0 ++ Node.slots leaf fr (L.take k))) ∧ Hid (B = ba ((L.take k).flatMap (Node.one leaf))) ∧ Below w.heap.size w wr) (fun _ _ ii _ => l.length - (intOf ii).toNat)
  case atStart => exact ⟨0, ba (beB l.length 2 0), ⟨#[]⟩, by omega, rfl, rfl, rfl, Lib.hid (by simp [Node.slots]), Lib.hid (by simp; rfl), HB2.out⟩
  case round =>
    obtain ⟨k, S, B, hk, rfl, rfl, rfl, HS, HBy, hBr⟩ := hrel
    have hss : S.size ≤ fr := by rw [HS.out]; exact HSL.out k
    have hbs : B.size = ((L.take k).map (Node.long leaf)).sum := by rw [HBy.out, ba_size, Node.flat_length]
    have hts := HTL.out k
    by_cases hkl : k < l.length
    · have t1 : decide (k < l.length) = true := decide_eq_true hkl
      have hB4 : fr + B.size ≤ 488 := by omega
      have NA0 := fun w => llay_ok w S (fr + B.size) 2 2 rfl (by omega) (by omega) (by omega) (by omega) (by omega)
      have m3 : IntKind.i64.wrap ((fr : Int) + (B.size : Int)) = ((fr + B.size : Nat) : Int) := by rw [IntWalk.i64_in _ (by omega)]; omega
      obtain ⟨a, ha⟩ : ∃ a, fr + B.size = a := ⟨_, rfl⟩
      simp only [ha] at NA0
      rw [ha] at m3
      have zA := ba_beB_size a 2
      obtain ⟨S2, hS2⟩ : ∃ S2, S ++ ba (beB a 2 0) = S2 := ⟨_, rfl⟩
      simp only [hS2] at NA0
      have NA := fun w => Lib.hid (NA0 w)
      have OC := fun w => lone_ok w leaf l[k] (HOK.out _ (List.getElem_mem hkl))
      have zO : (ba (Node.one leaf l[k].cl)).size = Node.long leaf l[k].cl := by rw [ba_size, Node.one_length]
      have hz : ((L.take (k + 1)).map (Node.long leaf)).sum = ((L.take k).map (Node.long leaf)).sum + Node.long leaf l[k].cl := by
        rw [Node.long_take leaf L k (by rw [HLL.out]; exact hkl), HLG.out k hkl _]
      have htl := HTL.out (k + 1)
      obtain ⟨O, hO⟩ : ∃ O, ba (Node.one leaf l[k].cl) = O := ⟨_, rfl⟩
      simp only [hO] at OC
      rw [hO] at zO
      have HS' : Hid (S2 = ba (beB l.length 2 0 ++ Node.slots leaf fr (L.take (k + 1)))) := Lib.hid (by
        rw [← hS2, HS.out, ← ha, hbs, Node.slots_take leaf L _ k (by rw [HLL.out]; exact hkl), ba_append, List.append_assoc])
      have HBy' : Hid (B ++ O = ba ((L.take (k + 1)).flatMap (Node.one leaf))) := Lib.hid (by
        rw [HBy.out, Node.flat_take leaf L k (by rw [HLL.out]; exact hkl), HLG.out k hkl _, ← hO, ← ba_append])
      have had : B.size + O.size ≤ 9223372036854775807 := by omega
      obtain ⟨b, off, hA, hlt, c0, c1, c2, c3, c4⟩ := step.out k hkl wr hBr
      obtain ⟨⟨key, val, over, size, child⟩, hx⟩ : ∃ x, l[k] = x := ⟨_, rfl⟩
      simp only [hx] at c0 c1 c2 c3 c4 OC
      unfold CV.v at OC
      simp only at OC
      have OC := fun w => Lib.hid (OC w)
      have i0 : (0 : Int) ≤ (k : Int) := by omega
      have i1 : (k : Int) < (l.length : Int) := by omega
      obtain ⟨wA, hwA⟩ : ∃ wA, wr.alloc (.cells #[.string key, .string val, .int .i64 over, .int .i64 size, .int .i64 child] 35) = wA := ⟨_, rfl⟩
      have HXA : Hid (Blk wA wr.heap.size #[.string key, .string val, .int .i64 over, .int .i64 size, .int .i64 child] 35) := Lib.hid (hwA ▸ Blk.new wr _ _)
      have HBA : Hid (Below w.heap.size w wA) := Lib.hid (hwA ▸ hBr.trans (((Below.refl _ wr).alloc (Nat.le_refl _) _).mono hBr.size))
      subst hA
      clear hx hO hz htl zO zA hBr hS2 ha hbs hts hB4 NA0
      go_wp2_with fail
      refine (NA _).out.mono ?_
      rintro _ w4 ⟨rfl, hb4⟩
      obtain ⟨q0, q1, q2, q3, q4⟩ : w4.cell? ⟨wr.heap.size, 0, none⟩ = some (.string key) ∧ w4.cell? ⟨wr.heap.size, 1, none⟩ = some (.string val) ∧ w4.cell? ⟨wr.heap.size, 2, none⟩ = some (.int .i64 over) ∧ w4.cell? ⟨wr.heap.size, 3, none⟩ = some (.int .i64 size) ∧ w4.cell? ⟨wr.heap.size, 4, none⟩ = some (.int .i64 child) := by
        have hb : Blk w4 wr.heap.size #[.string key, .string val, .int .i64 over, .int .i64 size, .int .i64 child] 35 := (hb4.block _ HXA.out.lt).trans HXA.out
        exact ⟨hb.cell 0, hb.cell 1, hb.cell 2, hb.cell 3, hb.cell 4⟩
      have HB4 := Lib.hid (HBA.out.trans (hb4.mono HBA.out.size))
      clear c0 c1 c2 c3 c4 hb4 hwA
      go_wp2_with fail
      refine (OC _).out.mono ?_
      rintro _ w5 ⟨rfl, hb5⟩
      have HB5 := Lib.hid (HB4.out.trans (hb5.mono HB4.out.size))
      clear q0 q1 q2 q3 q4 hb5
      go_wp2
      go_roundw
      case rel => exact ⟨k + 1, S2, B ++ O, by omega, rfl, rfl, by go_num, HS', HBy', HB5.out⟩
      case measure => simp [intOf]; omega
    · obtain rfl : k = l.length := by omega
      have t1 : decide (l.length < l.length) = false := decide_eq_false (by omega)
      have HRR : Hid (R = S ++ B) := Lib.hid (by
        rw [HS.out, HBy.out, ← HR.out]
        have e : L.take l.length = L := by rw [← HLL.out, List.take_length]
        rw [e, ba_append, List.append_assoc])
      have had : S.size + B.size ≤ 9223372036854775807 := by omega
      have HBr := Lib.hid hBr
      clear hBr hss hbs hts
      go_wp2
      go_ret2
      exact ⟨by rw [HRR.out]; rfl, HBr.out⟩
theorem lenc_ok (w : World) (leaf : Bool) (v : Value) (l : List CV) (hc : CellsAt w v l) (hb : Bnd l) : Calls Try.prog 11 #[.bool leaf, v] w fun e w' => e = .returned (.tuple #[.string (Node.encS leaf l), .int .i64 (Node.encE leaf l)]) ∧ Below w.heap.size w w' := by
  have BC := lbytes_ok w leaf v l hc hb
  unfold Node.bytesN at BC
  cases hr : Node.right leaf l with
  | false =>
    simp only [hr, Bool.false_eq_true, if_false] at BC
    have e1 : Node.encS leaf l = ⟨#[]⟩ := by unfold Node.encS Node.fits; rw [hr]; rfl
    have e2 : Node.encE leaf l = 4 := by unfold Node.encE; rw [hr]; rfl
    rw [e1, e2]
    exact lenc_bad w leaf v (Lib.hid BC)
  | true =>
    simp only [hr, if_true] at BC
    by_cases hn : Node.countV leaf l ≤ 488
    · have hf : Node.fits leaf l = true := by unfold Node.fits; rw [hr, decide_eq_true hn]; rfl
      have e1 : Node.encS leaf l = ba (Node.bytes leaf (l.map CV.cl)) := by unfold Node.encS; rw [if_pos hf]
      have e2 : Node.encE leaf l = 0 := by unfold Node.encE; rw [hr, if_pos hn]; rfl
      rw [e1, e2]
      obtain ⟨A, cap, rfl, _, _⟩ := hc.form
      exact lenc_in w leaf A cap l hc (Node.right_all hr) _ hn (by rw [Node.countV_sum]; omega) rfl (Lib.hid BC)
    · have hf : Node.fits leaf l = false := by unfold Node.fits; rw [hr, decide_eq_false hn]; rfl
      have e1 : Node.encS leaf l = ⟨#[]⟩ := by unfold Node.encS; rw [hf]; rfl
      have e2 : Node.encE leaf l = 5 := by unfold Node.encE; rw [hr, if_neg hn]; rfl
      rw [e1, e2]
      exact lenc_long w leaf v _ (by omega) (Lib.hid BC)
end Go.Proofs.Ytegmffeokfahjaa
