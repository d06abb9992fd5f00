/-
  The library's function strings.Repeat, as it stands in this program, is the one of which the library's contract speaks: tables of numbers and facts by the kernel's comparison. No conditions.
  Contracts of the landed page's within, lay and take (package page): what each call answers, and that nothing that was in memory before has changed. Conditions: texts of at most 2000 bytes, numbers that fit.
  Contract of the landed page's fill (package page): a text with noughts behind it, by the library's contract of strings.Repeat. Conditions: a text no longer than the bytes asked for, at most 2000.
  Contract of the landed page's withSum (package page): a page's bytes with a sum in its place. No conditions but the numbers' ranges.
  Contracts of the landed page's Right and RightMeta (package page). No conditions.
  Contracts of crc.step, crc.onByte, crc.On, crc.Sum (package crc): what each call answers; memory stays as it is. No conditions but the numbers' ranges.
  Contract of the landed page's Pack (package page). No conditions.
  Contract of the landed page's PackMeta (package page). No conditions.
  Contract of the landed page's UnpackMeta (package page). Condition: a text of at most 2000 bytes.
  Contract of the landed page's Unpack (package page). Condition: a text of at most 2000 bytes.
  Contract of the landed page's Newest (package page), and the seven functions of package page together: each answers as chapter 4's specification says. Conditions: texts of at most 2000 bytes.
-/
import Derived.Shelf.Strings.Repeat
import Derived.Test.YtjgmlpfallakmaaRows
import Derived.Test.YtjgmlpfallakmaaB4
import Derived.Test.YtjgmlpfallakmaaB3
import Derived.Test.YtjgmlpfallakmaaProg
import Derived.WalkKit
import Derived.Lib.Hide
import Derived.KernelRfl
import Derived.Laws.Bits64
import Derived.Deep.RegionWith
import Derived.Deep.DeepFit
import Derived.Deep.DeepCutAuto
section
namespace Go.Proofs.Ytjgmlpfallakmaa
open Go.Shelf
def Try.repeatLays_ren : Go.Shelf.Ren := ⟨fun | 105 => 65 | 212 => 79 | 99 => 80 | 165 => 81 | 166 => 82 | 170 => 83 | 169 => 84 | 263 => 92 | 264 => 93 | 206 => 94 | 240 => 95 | 241 => 96 | 276 => 98 | 277 => 99 | n => n, fun | 9 => 9 | 3 => 3 | 4 => 4 | 20 => 20 | 0 => 0 | 46 => 104 | 109 => 121 | 5 => 5 | 72 => 125 | 76 => 129 | 51 => 97 | 146 => 138 | 53 => 105 | 148 => 140 | 70 => 123 | 37 => 93 | 75 => 128 | 127 => 142 | 164 => 146 | 80 => 84 | n => n, fun | n => n⟩
theorem Try.repeatLays : Go.Proofs.Lays.n105 Try.prog Try.repeatLays_ren := {
  mixed := by kernel_rfl
  f99 := Try.func80.trans (congrArg some (by kernel_rfl))
  f105 := Try.func65.trans (congrArg some (by kernel_rfl))
  f165 := Try.func81.trans (congrArg some (by kernel_rfl))
  f166 := Try.func82.trans (congrArg some (by kernel_rfl))
  f169 := Try.func84.trans (congrArg some (by kernel_rfl))
  f170 := Try.func83.trans (congrArg some (by kernel_rfl))
  f206 := Try.func94.trans (congrArg some (by kernel_rfl))
  f212 := Try.func79.trans (congrArg some (by kernel_rfl))
  f240 := Try.func95.trans (congrArg some (by kernel_rfl))
  f241 := Try.func96.trans (congrArg some (by kernel_rfl))
  f263 := Try.func92.trans (congrArg some (by kernel_rfl))
  f264 := Try.func93.trans (congrArg some (by kernel_rfl))
  f276 := Try.func98.trans (congrArg some (by kernel_rfl))
  f277 := Try.func99.trans (congrArg some (by kernel_rfl))
  t0 := Try.underlying0
  a0 := Try.isAgg0
  z0 := Try.sizeOf0
  v0 := Try.zeroValue0
  t3 := Try.underlying3
  a3 := Try.isAgg3
  z3 := Try.sizeOf3
  v3 := Try.zeroValue3
  t4 := Try.underlying4
  a4 := Try.isAgg4
  z4 := Try.sizeOf4
  v4 := Try.zeroValue4
  t5 := Try.underlying5
  a5 := Try.isAgg5
  z5 := Try.sizeOf5
  v5 := Try.zeroValue5
  t9 := Try.underlying9
  a9 := Try.isAgg9
  z9 := Try.sizeOf9
  v9 := Try.zeroValue9
  t20 := Try.underlying20
  a20 := Try.isAgg20
  z20 := Try.sizeOf20
  v20 := Try.zeroValue20
  t37 := Try.underlying93
  a37 := Try.isAgg93
  z37 := Try.sizeOf93
  v37 := Try.zeroValue93
  t46 := Try.underlying104
  a46 := Try.isAgg104
  z46 := Try.sizeOf104
  v46 := Try.zeroValue104
  t51 := Try.underlying97
  a51 := Try.isAgg97
  z51 := Try.sizeOf97
  v51 := Try.zeroValue97
  t53 := Try.underlying105
  a53 := Try.isAgg105
  z53 := Try.sizeOf105
  v53 := Try.zeroValue105
  t70 := Try.underlying123
  a70 := Try.isAgg123
  z70 := Try.sizeOf123
  v70 := Try.zeroValue123
  t72 := Try.underlying125
  a72 := Try.isAgg125
  z72 := Try.sizeOf125
  v72 := Try.zeroValue125
  t75 := Try.underlying128
  a75 := Try.isAgg128
  z75 := Try.sizeOf128
  v75 := Try.zeroValue128
  t76 := Try.underlying129
  a76 := Try.isAgg129
  z76 := Try.sizeOf129
  v76 := Try.zeroValue129
  t109 := Try.underlying121
  a109 := Try.isAgg121
  z109 := Try.sizeOf121
  v109 := Try.zeroValue121
  t127 := Try.underlying142
  a127 := Try.isAgg142
  z127 := Try.sizeOf142
  v127 := Try.zeroValue142
  t146 := Try.underlying138
  a146 := Try.isAgg138
  z146 := Try.sizeOf138
  v146 := Try.zeroValue138
  t148 := Try.underlying140
  a148 := Try.isAgg140
  z148 := Try.sizeOf140
  v148 := Try.zeroValue140
  t164 := Try.underlying146
  a164 := Try.isAgg146
  z164 := Try.sizeOf146
  v164 := Try.zeroValue146 }
end Go.Proofs.Ytjgmlpfallakmaa
end
section
namespace Go.Proofs.Ytjgmlpfallakmaa
open Go.RowKit
theorem within_ok (n a b : Int) (B : Bool) (h : (decide (a ≤ n) && decide (n ≤ b)) = B) (w : World) : Calls Try.prog 49 #[.int .i64 n, .int .i64 a, .int .i64 b] w fun e w' => e = .returned (.bool B) ∧ w = w' := by
  have H := Lib.hid h
  clear h
  by_cases h1 : a ≤ n
  · have d1 : decide (a ≤ n) = true := decide_eq_true h1
    by_cases h2 : n ≤ b
    · have d2 : decide (n ≤ b) = true := decide_eq_true h2
      go_enter Try.func49, Try.ntmps49
      go_wp2
      go_ret
      exact ⟨by rw [← H.out, d1, d2]; rfl, rfl⟩
    · have d2 : decide (n ≤ b) = false := decide_eq_false h2
      go_enter Try.func49, Try.ntmps49
      go_wp2
      go_ret
      exact ⟨by rw [← H.out, d1, d2]; rfl, rfl⟩
  · have d1 : decide (a ≤ n) = false := decide_eq_false h1
    go_enter Try.func49, Try.ntmps49
    go_wp2
    go_ret
    exact ⟨by rw [← H.out, d1]; rfl, rfl⟩
theorem put_ba (s : ByteArray) (n : Nat) (k : Nat) (hs : s.size ≤ 1048576) (hn : n < 2 ^ (8 * k)) (hk : 1 ≤ k) (hk8 : k ≤ 8) (w : World) :
    Calls Try.prog 64 #[.string s, .int .u64 n, .int .i64 k] w fun e w' => e = .returned (.tuple #[.string (s ++ ba (beB n k 0)), .int .i64 0]) ∧ Below w.heap.size w w' := by
  have := put_ok s n k hs hn hk hk8 w
  rw [str_cat] at this
  exact this
theorem lay_ok (s : ByteArray) (n k : Nat) (hs : s.size ≤ 1048576) (hn : n < 2 ^ (8 * k)) (hn2 : n < 2 ^ 63) (hk : 1 ≤ k) (hk8 : k ≤ 8) (w : World) :
    Calls Try.prog 57 #[.string s, .int .i64 n, .int .i64 k] w fun e w' => e = .returned (.string (s ++ ba (beB n k 0))) ∧ Below w.heap.size w w' := by
  have C := fun w => Lib.hid (put_ba s n k hs hn hk hk8 w)
  obtain ⟨X, hX⟩ : ∃ X, s ++ ba (beB n k 0) = X := ⟨_, rfl⟩
  rw [hX] at C ⊢
  have hv := conv_i64_u64 n hn2
  clear hn hk hk8 hn2 hX
  go_enter Try.func57, Try.ntmps57
  go_wp2_with fail
  refine (C _).out.mono ?_
  rintro _ w1 ⟨rfl, hb1⟩
  go_wp2
  go_ret
  exact ⟨rfl, hb1⟩
theorem ptake_ok (s : ByteArray) (hs : s.size ≤ 1048576) (a k : Nat) (hk : 1 ≤ k) (hk8 : k ≤ 8) (h2 : a + k ≤ s.size) (w : World) :
    Calls Try.prog 53 #[.string s, .int .i64 a, .int .i64 k] w fun e w' => e = .returned (.int .i64 (wrap64 (Page.at_ s.data.toList a k : Nat))) ∧ w = w' := by
  have C := fun w => Lib.hid (take_ok s hs a k hk hk8 h2 w)
  obtain ⟨X, hX⟩ : ∃ X, Page.at_ s.data.toList a k = X := ⟨_, rfl⟩
  have hX2 : beN ((s.data.toList.drop a).take k) = X := hX
  simp only [hX2] at C
  rw [hX]
  clear hk hk8 hX hX2
  go_enter Try.func53, Try.ntmps53
  go_wp2_with fail
  refine (C _).out.mono ?_
  rintro _ _ ⟨rfl, rfl⟩
  go_wp2
  go_ret
  exact ⟨rfl, rfl⟩
end Go.Proofs.Ytjgmlpfallakmaa
end
section
namespace Go.Proofs.Ytjgmlpfallakmaa
open Go.RowKit Go.Shelf
theorem repeatExtra : Builder.Extra Try.prog Try.repeatLays_ren := {
  sizeBuilder := by kernel_rfl
  liesBuilder := by kernel_rfl
  t5 := Try.repeatLays.t5
  a5 := Try.repeatLays.a5
  z5 := Try.repeatLays.z5
  v5 := Try.repeatLays.v5
  infoByte := by kernel_rfl
  cellsByte := by kernel_rfl
  sizeByte := by kernel_rfl
  neB5 := by decide }
theorem repeat_noughts (c : Nat) (w : World) (hc : c ≤ 2000) :
    Calls Try.prog 65 #[.string ⟨#[0]⟩, .int .i64 c] w fun e w' => e = .returned (.string (ba (Page.noughts c))) ∧ Below w.heap.size w w' := by
  have h := Any.strings_Repeat Try.repeatLays repeatExtra ⟨#[0]⟩ c w (by omega) (by rw [show (⟨#[0]⟩ : ByteArray).size = 1 from rfl]; omega)
  have e : Lib.repeatL (⟨#[0]⟩ : ByteArray).data.toList c = Page.noughts c := by
    have := Lib.repeatL_replicate 0 1 c
    rw [Nat.mul_one] at this
    exact this
  rw [e] at h
  exact h
theorem fill_ok (s : ByteArray) (n : Nat) (h : s.size ≤ n) (hn : n ≤ 2000) (w : World) :
    Calls Try.prog 58 #[.string s, .int .i64 n] w fun e w' => e = .returned (.string (s ++ ba (Page.noughts (n - s.size)))) ∧ Below w.heap.size w w' := by
  obtain ⟨r, hr⟩ : ∃ r : Nat, n - s.size = r := ⟨_, rfl⟩
  have hd : (n : Int) - (s.size : Int) = (r : Int) := by omega
  have C := fun w => Lib.hid (repeat_noughts r w (by omega))
  rw [hr]
  have hz : (ba (Page.noughts r)).size = r := by rw [ba_size]; simp [Page.noughts]
  obtain ⟨Z, hZ⟩ : ∃ Z, ba (Page.noughts r) = Z := ⟨_, rfl⟩
  rw [hZ] at C hz ⊢
  clear hr hZ
  have q : ¬ ((9223372036854775807 : Int) < (s.size : Int) + (Z.size : Int)) := by omega
  go_enter Try.func58, Try.ntmps58
  go_wp2_with fail
  refine (C _).out.mono ?_
  rintro _ w1 ⟨rfl, hb1⟩
  go_wp2
  go_ret
  exact ⟨rfl, hb1⟩
end Go.Proofs.Ytjgmlpfallakmaa
end
section
namespace Go.Proofs.Ytjgmlpfallakmaa
open Go.RowKit
theorem beB_zero (k : Nat) : beB 0 k 0 = Page.noughts k := by
  unfold beB Page.noughts
  rw [List.eq_replicate_iff]
  refine ⟨by simp, fun b hb => ?_⟩
  rw [List.mem_map] at hb
  obtain ⟨t, _, rfl⟩ := hb
  rw [Nat.zero_div]
  rfl
set_option maxRecDepth 4000 in
set_option maxHeartbeats 1600000 in
theorem pwith_ok (kind no txn : Nat) (body : ByteArray) (sum : Nat) (hk : kind < 2 ^ 8) (hno : no < 2 ^ 32) (ht : txn < 2 ^ 63) (hb : body.size ≤ 488) (hs : sum < 2 ^ 32) (w : World) :
    Calls Try.prog 55 #[.agg #[.int .i64 kind, .int .i64 no, .int .i64 txn, .string body], .int .u32 sum] w fun e w' => e = .returned (.string (ba (Page.withSum ⟨kind, no, txn, body.data.toList⟩ (beB sum 4 0)))) ∧ Below w.heap.size w w' := by
  obtain ⟨w1, hw1⟩ : ∃ w1, w.alloc (.cells #[.int .i64 kind, .int .i64 no, .int .i64 txn, .string body] 51) = w1 := ⟨_, rfl⟩
  have hsz : w1.heap.size = w.heap.size + 1 := by rw [← hw1]; simp
  have hbel : Below w.heap.size w w1 := by rw [← hw1]; exact (Below.refl _ w).alloc (Nat.le_refl _) _
  have hnew : w1.heap[w.heap.size]? = some (.cells #[.int .i64 kind, .int .i64 no, .int .i64 txn, .string body] 51 (0, 0)) := by rw [← hw1]; exact heap_alloc_new w _
  have cell : ∀ wS, Below w1.heap.size w1 wS → ∀ i, wS.cell? ⟨w.heap.size, i, none⟩ = (#[.int .i64 kind, .int .i64 no, .int .i64 txn, .string body] : Array Value)[i]? := fun wS h i => by
    rw [cell_of_row wS w.heap.size i _ 51 (0, 0) ((h.block _ (by omega)).trans hnew)]
  have K0 : ∀ wS, Below w1.heap.size w1 wS → wS.cell? ⟨w.heap.size, 0, none⟩ = some (.int .i64 kind) := fun wS h => cell wS h 0
  have K1 : ∀ wS, Below w1.heap.size w1 wS → wS.cell? ⟨w.heap.size, 1, none⟩ = some (.int .i64 no) := fun wS h => cell wS h 1
  have K2 : ∀ wS, Below w1.heap.size w1 wS → wS.cell? ⟨w.heap.size, 2, none⟩ = some (.int .i64 txn) := fun wS h => cell wS h 2
  have K3 : ∀ wS, Below w1.heap.size w1 wS → wS.cell? ⟨w.heap.size, 3, none⟩ = some (.string body) := fun wS h => cell wS h 3
  have HW := Lib.hid (with_bytes ⟨kind, no, txn, body.data.toList⟩ (ba (beB sum 4 0)))
  simp only [ba_data, data_ba, Array.length_toList] at HW
  rw [show body.data.size = body.size from rfl, ← beB_zero 1, ← beB_zero 2] at HW
  obtain ⟨X, hX⟩ : ∃ X, ba (Page.withSum ⟨kind, no, txn, body.data.toList⟩ (beB sum 4 0)) = X := ⟨_, rfl⟩
  rw [hX] at HW ⊢
  have hcv : IntKind.i64.wrap (sum : Int) = (sum : Int) := IntWalk.i64_in _ (by omega)
  have z0 : (ba [82, 66]).size = 2 := by rw [ba_size]; rfl
  have C1 := fun w => Lib.hid (lay_ok (ba [82, 66]) kind 1 (by omega) (by omega) (by omega) (by omega) (by omega) w)
  have z1 : (ba [82, 66] ++ ba (beB kind 1 0)).size = 3 := by rw [ByteArray.size_append, z0, ba_size, beB_length]
  obtain ⟨S1, e1⟩ : ∃ S, ba [82, 66] ++ ba (beB kind 1 0) = S := ⟨_, rfl⟩
  rw [e1] at C1 z1 HW
  have C2 := fun w => Lib.hid (lay_ok (S1) 0 1 (by omega) (by omega) (by omega) (by omega) (by omega) w)
  have z2 : (S1 ++ ba (beB 0 1 0)).size = 4 := by rw [ByteArray.size_append, z1, ba_size, beB_length]
  obtain ⟨S2, e2⟩ : ∃ S, S1 ++ ba (beB 0 1 0) = S := ⟨_, rfl⟩
  rw [e2] at C2 z2 HW
  have C3 := fun w => Lib.hid (lay_ok (S2) body.size 2 (by omega) (by omega) (by omega) (by omega) (by omega) w)
  have z3 : (S2 ++ ba (beB body.size 2 0)).size = 6 := by rw [ByteArray.size_append, z2, ba_size, beB_length]
  obtain ⟨S3, e3⟩ : ∃ S, S2 ++ ba (beB body.size 2 0) = S := ⟨_, rfl⟩
  rw [e3] at C3 z3 HW
  have C4 := fun w => Lib.hid (lay_ok (S3) no 4 (by omega) (by omega) (by omega) (by omega) (by omega) w)
  have z4 : (S3 ++ ba (beB no 4 0)).size = 10 := by rw [ByteArray.size_append, z3, ba_size, beB_length]
  obtain ⟨S4, e4⟩ : ∃ S, S3 ++ ba (beB no 4 0) = S := ⟨_, rfl⟩
  rw [e4] at C4 z4 HW
  have C5 := fun w => Lib.hid (lay_ok (S4) txn 8 (by omega) (by omega) (by omega) (by omega) (by omega) w)
  have z5 : (S4 ++ ba (beB txn 8 0)).size = 18 := by rw [ByteArray.size_append, z4, ba_size, beB_length]
  obtain ⟨S5, e5⟩ : ∃ S, S4 ++ ba (beB txn 8 0) = S := ⟨_, rfl⟩
  rw [e5] at C5 z5 HW
  have C6 := fun w => Lib.hid (lay_ok (S5) sum 4 (by omega) (by omega) (by omega) (by omega) (by omega) w)
  have z6 : (S5 ++ ba (beB sum 4 0)).size = 22 := by rw [ByteArray.size_append, z5, ba_size, beB_length]
  obtain ⟨S6, e6⟩ : ∃ S, S5 ++ ba (beB sum 4 0) = S := ⟨_, rfl⟩
  rw [e6] at C6 z6 HW
  have C7 := fun w => Lib.hid (lay_ok (S6) 0 2 (by omega) (by omega) (by omega) (by omega) (by omega) w)
  have z7 : (S6 ++ ba (beB 0 2 0)).size = 24 := by rw [ByteArray.size_append, z6, ba_size, beB_length]
  obtain ⟨S7, e7⟩ : ∃ S, S6 ++ ba (beB 0 2 0) = S := ⟨_, rfl⟩
  rw [e7] at C7 z7 HW
  have z8 : (S7 ++ body).size = 24 + body.size := by rw [ByteArray.size_append, z7]
  have q8 : ¬ ((9223372036854775807 : Int) < (S7.size : Int) + (body.size : Int)) := by omega
  obtain ⟨S8, e8⟩ : ∃ S, S7 ++ body = S := ⟨_, rfl⟩
  rw [e8] at z8 HW

  have C9 := fun w => Lib.hid (fill_ok S8 512 (by omega) (by omega) w)
  rw [show 512 - S8.size = 488 - body.size by omega, ← HW.out] at C9
  clear hk hno ht hb hs cell HW hX
  clear e1 e2 e3 e4 e5 e6 e7 z0 z1 z2 z3 z4 z5 z6
  have c0 := K0 w1 (Below.refl _ _)
  go_enter Try.func55, Try.ntmps55
  go_wp2_with fail
  refine (C1 _).out.mono ?_
  rintro _ w2 ⟨rfl, hb2⟩
  go_wp2_with fail
  have B2 := hb2
  refine (C2 _).out.mono ?_
  rintro _ w3 ⟨rfl, hb3⟩
  have B3 := B2.trans (hb3.mono B2.size)
  have c12 := K3 w3 B3
  go_wp2_with fail
  refine (C3 _).out.mono ?_
  rintro _ w4 ⟨rfl, hb4⟩
  have B4 := B3.trans (hb4.mono B3.size)
  have c13 := K1 w4 B4
  go_wp2_with fail
  refine (C4 _).out.mono ?_
  rintro _ w5 ⟨rfl, hb5⟩
  have B5 := B4.trans (hb5.mono B4.size)
  have c14 := K2 w5 B5
  go_wp2_with fail
  refine (C5 _).out.mono ?_
  rintro _ w6 ⟨rfl, hb6⟩
  have B6 := B5.trans (hb6.mono B5.size)
  go_wp2_with fail
  refine (C6 _).out.mono ?_
  rintro _ w7 ⟨rfl, hb7⟩
  have B7 := B6.trans (hb7.mono B6.size)
  go_wp2_with fail
  refine (C7 _).out.mono ?_
  rintro _ w8 ⟨rfl, hb8⟩
  have B8 := B7.trans (hb8.mono B7.size)
  have c17 := K3 w8 B8
  go_wp2_with fail
  refine (C9 _).out.mono ?_
  rintro _ w9 ⟨rfl, hb9⟩
  have B9 := B8.trans (hb9.mono B8.size)
  go_wp2
  go_ret
  exact ⟨rfl, hbel.trans (B9.mono (by omega))⟩
end Go.Proofs.Ytjgmlpfallakmaa
end
section
namespace Go.Proofs.Ytjgmlpfallakmaa
open Go.RowKit
set_option maxRecDepth 4000 in
set_option maxHeartbeats 1600000 in
theorem pright_ok (w : World) (p : PV) : Calls Try.prog 54 #[p.val] w fun e w' => e = .returned (.bool p.right) ∧ Below w.heap.size w w' := by
  have hbl : Below w.heap.size w (w.alloc (.cells #[.int .i64 p.kind, .int .i64 p.no, .int .i64 p.txn, .string p.body] 51)) := (Below.refl _ w).alloc (Nat.le_refl _) _
  have HR : Hid (p.right = ((decide (1 ≤ p.kind) && decide (p.kind ≤ 4)) && (decide (1 ≤ p.no) && decide (p.no ≤ 511)) && (decide (0 ≤ p.txn) && decide (p.txn ≤ 1099511627776)) && decide ((p.body.size : Int) ≤ 488))) := Lib.hid (by
    rw [Bool.eq_iff_iff, PV.right_iff]
    simp only [Bool.and_eq_true, decide_eq_true_eq]
    omega)
  obtain ⟨kind, no, txn, body⟩ := p
  unfold PV.val
  simp only at hbl HR ⊢
  cases h1 : (decide (1 ≤ kind) && decide (kind ≤ 4)) with
  | false =>
    have C1 := fun w => Lib.hid (within_ok kind 1 4 _ h1 w)
    go_enter Try.func54, Try.ntmps54
    go_wp2_with fail
    refine (C1 _).out.mono ?_
    rintro _ _ ⟨rfl, rfl⟩
    go_wp2
    go_ret
    exact ⟨by rw [HR.out, h1]; rfl, hbl⟩
  | true =>
    have C1 := fun w => Lib.hid (within_ok kind 1 4 _ h1 w)
    cases h2 : (decide (1 ≤ no) && decide (no ≤ 511)) with
    | false =>
      have C2 := fun w => Lib.hid (within_ok no 1 511 _ h2 w)
      go_enter Try.func54, Try.ntmps54
      go_wp2_with fail
      refine (C1 _).out.mono ?_
      rintro _ _ ⟨rfl, rfl⟩
      go_wp2_with fail
      refine (C2 _).out.mono ?_
      rintro _ _ ⟨rfl, rfl⟩
      go_wp2
      go_ret
      exact ⟨by rw [HR.out, h1, h2]; rfl, hbl⟩
    | true =>
      have C2 := fun w => Lib.hid (within_ok no 1 511 _ h2 w)
      cases h3 : (decide (0 ≤ txn) && decide (txn ≤ 1099511627776)) with
      | false =>
        have C3 := fun w => Lib.hid (within_ok txn 0 1099511627776 _ h3 w)
        go_enter Try.func54, Try.ntmps54
        go_wp2_with fail
        refine (C1 _).out.mono ?_
        rintro _ _ ⟨rfl, rfl⟩
        go_wp2_with fail
        refine (C2 _).out.mono ?_
        rintro _ _ ⟨rfl, rfl⟩
        go_wp2_with fail
        refine (C3 _).out.mono ?_
        rintro _ _ ⟨rfl, rfl⟩
        go_wp2
        go_ret
        exact ⟨by rw [HR.out, h1, h2, h3]; rfl, hbl⟩
      | true =>
        have C3 := fun w => Lib.hid (within_ok txn 0 1099511627776 _ h3 w)
        by_cases h4 : (body.size : Int) ≤ 488
        · have d4 : decide ((body.size : Int) ≤ 488) = true := decide_eq_true h4
          go_enter Try.func54, Try.ntmps54
          go_wp2_with fail
          refine (C1 _).out.mono ?_
          rintro _ _ ⟨rfl, rfl⟩
          go_wp2_with fail
          refine (C2 _).out.mono ?_
          rintro _ _ ⟨rfl, rfl⟩
          go_wp2_with fail
          refine (C3 _).out.mono ?_
          rintro _ _ ⟨rfl, rfl⟩
          go_wp2
          go_ret
          exact ⟨by rw [HR.out, h1, h2, h3, d4]; rfl, hbl⟩
        · have d4 : decide ((body.size : Int) ≤ 488) = false := decide_eq_false h4
          go_enter Try.func54, Try.ntmps54
          go_wp2_with fail
          refine (C1 _).out.mono ?_
          rintro _ _ ⟨rfl, rfl⟩
          go_wp2_with fail
          refine (C2 _).out.mono ?_
          rintro _ _ ⟨rfl, rfl⟩
          go_wp2_with fail
          refine (C3 _).out.mono ?_
          rintro _ _ ⟨rfl, rfl⟩
          go_wp2
          go_ret
          exact ⟨by rw [HR.out, h1, h2, h3, d4]; rfl, hbl⟩
theorem sub_one (n : Int) (h : 1 ≤ n ∧ n ≤ 512) : IntKind.i64.wrap (n - 1) = n - 1 := IntWalk.i64_in _ (by omega)
set_option maxRecDepth 4000 in
set_option maxHeartbeats 1600000 in
theorem prightM_ok (w : World) (p : MV) : Calls Try.prog 33 #[p.val] w fun e w' => e = .returned (.bool p.right) ∧ Below w.heap.size w w' := by
  have hbl : Below w.heap.size w (w.alloc (.cells #[.int .i64 p.txn, .int .i64 p.root, .int .i64 p.free, .int .i64 p.pages, .int .i64 p.limit] 32)) := (Below.refl _ w).alloc (Nat.le_refl _) _
  have HR : Hid (p.right = ((decide (0 ≤ p.txn) && decide (p.txn ≤ 1099511627776)) && (decide (2 ≤ p.limit) && decide (p.limit ≤ 512)) && (decide (1 ≤ p.pages) && decide (p.pages ≤ p.limit)) && (decide (0 ≤ p.root) && decide (p.root ≤ p.pages - 1)) && (decide (0 ≤ p.free) && decide (p.free ≤ p.pages - 1)))) := Lib.hid (by
    rw [Bool.eq_iff_iff, MV.right_iff]
    simp only [Bool.and_eq_true, decide_eq_true_eq]
    omega)
  obtain ⟨txn, root, free, pages, limit⟩ := p
  unfold MV.val
  simp only at hbl HR ⊢
  cases h1 : (decide (0 ≤ txn) && decide (txn ≤ 1099511627776)) with
  | false =>
    have C1 := fun w => Lib.hid (within_ok txn 0 1099511627776 _ h1 w)
    go_enter Try.func33, Try.ntmps33
    go_wp2_with fail
    refine (C1 _).out.mono ?_
    rintro _ _ ⟨rfl, rfl⟩
    go_wp2
    go_ret
    exact ⟨by rw [HR.out, h1]; rfl, hbl⟩
  | true =>
    have C1 := fun w => Lib.hid (within_ok txn 0 1099511627776 _ h1 w)
    cases h2 : (decide (2 ≤ limit) && decide (limit ≤ 512)) with
    | false =>
      have C2 := fun w => Lib.hid (within_ok limit 2 512 _ h2 w)
      go_enter Try.func33, Try.ntmps33
      go_wp2_with fail
      refine (C1 _).out.mono ?_
      rintro _ _ ⟨rfl, rfl⟩
      go_wp2_with fail
      refine (C2 _).out.mono ?_
      rintro _ _ ⟨rfl, rfl⟩
      go_wp2
      go_ret
      exact ⟨by rw [HR.out, h1, h2]; rfl, hbl⟩
    | true =>
      have C2 := fun w => Lib.hid (within_ok limit 2 512 _ h2 w)
      have hl : 2 ≤ limit ∧ limit ≤ 512 := by simpa using h2
      cases h3 : (decide (1 ≤ pages) && decide (pages ≤ limit)) with
      | false =>
        have C3 := fun w => Lib.hid (within_ok pages 1 limit _ h3 w)
        clear hl
        go_enter Try.func33, Try.ntmps33
        go_wp2_with fail
        refine (C1 _).out.mono ?_
        rintro _ _ ⟨rfl, rfl⟩
        go_wp2_with fail
        refine (C2 _).out.mono ?_
        rintro _ _ ⟨rfl, rfl⟩
        go_wp2_with fail
        refine (C3 _).out.mono ?_
        rintro _ _ ⟨rfl, rfl⟩
        go_wp2
        go_ret
        exact ⟨by rw [HR.out, h1, h2, h3]; rfl, hbl⟩
      | true =>
        have C3 := fun w => Lib.hid (within_ok pages 1 limit _ h3 w)
        have hp : 1 ≤ pages ∧ pages ≤ limit := by simpa using h3
        have hw : wrap64 (pages - 1) = pages - 1 := IntWalk.wrap64_in _ (by omega)
        have hw2 := sub_one pages (by omega)
        cases h4 : (decide (0 ≤ root) && decide (root ≤ pages - 1)) with
        | false =>
          have C4 := fun w => Lib.hid (within_ok root 0 (pages - 1) _ h4 w)
          go_enter Try.func33, Try.ntmps33
          go_wp2_with fail
          refine (C1 _).out.mono ?_
          rintro _ _ ⟨rfl, rfl⟩
          go_wp2_with fail
          refine (C2 _).out.mono ?_
          rintro _ _ ⟨rfl, rfl⟩
          go_wp2_with fail
          refine (C3 _).out.mono ?_
          rintro _ _ ⟨rfl, rfl⟩
          go_wp2_with fail
          refine (C4 _).out.mono ?_
          rintro _ _ ⟨rfl, rfl⟩
          go_wp2
          go_ret
          exact ⟨by rw [HR.out, h1, h2, h3, h4]; rfl, hbl⟩
        | true =>
          have C4 := fun w => Lib.hid (within_ok root 0 (pages - 1) _ h4 w)
          have h5 : (decide (0 ≤ free) && decide (free ≤ pages - 1)) = (decide (0 ≤ free) && decide (free ≤ pages - 1)) := rfl
          obtain ⟨F, hF⟩ : ∃ F, (decide (0 ≤ free) && decide (free ≤ pages - 1)) = F := ⟨_, rfl⟩
          have C5 := fun w => Lib.hid (within_ok free 0 (pages - 1) _ hF w)
          clear h5
          go_enter Try.func33, Try.ntmps33
          go_wp2_with fail
          refine (C1 _).out.mono ?_
          rintro _ _ ⟨rfl, rfl⟩
          go_wp2_with fail
          refine (C2 _).out.mono ?_
          rintro _ _ ⟨rfl, rfl⟩
          go_wp2_with fail
          refine (C3 _).out.mono ?_
          rintro _ _ ⟨rfl, rfl⟩
          go_wp2_with fail
          refine (C4 _).out.mono ?_
          rintro _ _ ⟨rfl, rfl⟩
          go_wp2_with fail
          refine (C5 _).out.mono ?_
          rintro _ _ ⟨rfl, rfl⟩
          go_wp2
          go_ret
          exact ⟨by rw [HR.out, h1, h2, h3, h4, hF]; rfl, hbl⟩
end Go.Proofs.Ytjgmlpfallakmaa
end
section
namespace Go.Proofs.Ytjgmlpfallakmaa
open Go.RowKit
theorem step_ok (r : Nat) (h : r < 4294967296) (w : World) : Calls Try.prog 91 #[.int .u32 r] w fun e w' => e = .returned (.int .u32 (Crc.step r)) ∧ w = w' := by
  by_cases hr : r % 2 = 1
  · have d : ((r : Int) % 2 == 1) = true := by rw [beq_iff_eq]; omega
    have HS : Hid (Crc.step r = (r / 2) ^^^ 3988292384) := Lib.hid (by unfold Crc.step; rw [if_pos hr])
    have hb := bits_xor_u32_nat (r / 2) 3988292384 (by omega) (by omega)
    have HB := Lib.hid hb
    clear hb hr
    go_enter Try.func91, Try.ntmps91
    go_wp2
    go_ret
    refine ⟨?_, rfl⟩
    rw [HS.out, ← HB.out]
    rfl
  · have d : ((r : Int) % 2 == 1) = false := by rw [beq_eq_false_iff_ne]; omega
    have HS : Hid (Crc.step r = (r / 2)) := Lib.hid (by unfold Crc.step; rw [if_neg hr])
    clear hr
    go_enter Try.func91, Try.ntmps91
    go_wp2
    go_ret
    refine ⟨?_, rfl⟩
    rw [HS.out]
    rfl
theorem onByte_ok (r : Nat) (h : r < 4294967296) (b : UInt8) (w : World) : Calls Try.prog 78 #[.int .u32 r, .int .u8 b.toNat] w fun e w' => e = .returned (.int .u32 (Crc.byte r b)) ∧ w = w' := by
  have hb8 := b.toNat_lt
  have hx : r ^^^ b.toNat < 2 ^ 32 := Nat.xor_lt_two_pow (by omega) (by omega)
  have HX := Lib.hid (bits_xor_u32_nat r b.toNat (by omega) (by omega))
  have HC := Lib.hid (conv_u8_u32 b)
  have HL := Lib.hid (fun k => Crc.steps_lt k (r ^^^ b.toNat) hx)
  clear hx
  go_enter Try.func78, Try.ntmps78
  go_wp2
  go_loop [0, 9] (fun v i => ∃ k : Nat, k ≤ 8 ∧ i = .int .i64 k ∧ v = .int .u32 (Crc.steps k (r ^^^ b.toNat))) (fun _ i => 8 - (intOf i).toNat)
  case atStart =>
    refine ⟨0, by omega, rfl, ?_⟩
    first | (rw [HC.out, HX.out]; rfl) | (rw [HX.out]; rfl)
  case round =>
    obtain ⟨k, hk, rfl, rfl⟩ := hrel
    have hlt := HL.out k
    by_cases h8 : k < 8
    · have HS := Lib.hid (steps_snoc k (r ^^^ b.toNat))
      go_wp2_with (go_at_call 91; refine (step_ok _ (by omega) _).mono ?_; rintro e w' ⟨rfl, rfl⟩)
      go_round
      case rel => exact ⟨k + 1, by omega, by go_num, by rw [HS.out]⟩
      case measure => simp [intOf]; omega
    · obtain rfl : k = 8 := by omega
      go_wp2
      go_ret
      exact ⟨rfl, rfl⟩
theorem on_ok (c : Nat) (hc : c < 4294967296) (s : ByteArray) (hs : s.size ≤ 9223372036854775807) (w : World) : Calls Try.prog 63 #[.int .u32 c, .string s] w fun e w' => e = .returned (.int .u32 (Crc.on c s.data.toList)) ∧ w = w' := by
  have HN := Lib.hid (bits_not_u32 c hc)
  have HL := Lib.hid (fun l => Crc.reg_lt l (4294967295 - c) (by omega))
  go_enter Try.func63, Try.ntmps63
  go_wp2
  go_loop [5, 11] (fun v i => ∃ k : Nat, k ≤ s.size ∧ i = .int .i64 k ∧ v = .int .u32 (Crc.reg (4294967295 - c) (s.data.toList.take k))) (fun _ i => s.size - (intOf i).toNat)
  case atStart =>
    refine ⟨0, by omega, rfl, ?_⟩
    rw [HN.out]; rfl
  case round =>
    obtain ⟨k, hk, rfl, rfl⟩ := hrel
    have hlt := HL.out (s.data.toList.take k)
    by_cases h8 : k < s.size
    · have HS := Lib.hid (reg_take (4294967295 - c) s k h8)
      go_wp2_with (go_at_call 78; refine (onByte_ok _ (by omega) _ _).mono ?_; rintro e w' ⟨rfl, rfl⟩)
      go_round
      case rel => exact ⟨k + 1, by omega, by go_num, by rw [HS.out]⟩
      case measure => simp [intOf]; omega
    · obtain rfl : k = s.size := by omega
      have HE := Lib.hid (bits_not_u32 _ hlt)
      go_wp2
      go_ret
      refine ⟨?_, rfl⟩
      rw [HE.out, List.take_of_length_le (by simp)]
      rfl
theorem sum_ok (s : ByteArray) (hs : s.size ≤ 9223372036854775807) (w : World) : Calls Try.prog 56 #[.string s] w fun e w' => e = .returned (.int .u32 (Crc.on 0 s.data.toList)) ∧ w = w' := by
  go_enter Try.func56, Try.ntmps56
  go_wp2_with (go_at_call 63; refine (on_ok 0 (by omega) s hs _).mono ?_; rintro e w' ⟨rfl, rfl⟩)
  go_ret
  exact ⟨rfl, rfl⟩
end Go.Proofs.Ytjgmlpfallakmaa
end
section
namespace Go.Proofs.Ytjgmlpfallakmaa
open Go.RowKit
set_option maxRecDepth 4000 in
set_option maxHeartbeats 1600000 in
theorem ppack_ok (w : World) (p : PV) : Calls Try.prog 46 #[p.val] w fun e w' => e = .returned (.tuple #[.string p.packS, .int .i64 p.packE]) ∧ Below w.heap.size w w' := by
  have RR := fun w => Lib.hid (pright_ok w p)
  have hbl : Below w.heap.size w (w.alloc (.cells #[.int .i64 p.kind, .int .i64 p.no, .int .i64 p.txn, .string p.body] 51)) := (Below.refl _ w).alloc (Nat.le_refl _) _
  cases hr : p.right
  · have HP : Hid (p.packS = ⟨#[]⟩ ∧ p.packE = 4) := Lib.hid (by unfold PV.packS PV.packE; rw [hr]; exact ⟨rfl, rfl⟩)
    simp only [hr] at RR
    clear hr
    obtain ⟨kind, no, txn, body⟩ := p
    unfold PV.val at RR ⊢
    simp only at RR hbl ⊢
    go_enter Try.func46, Try.ntmps46
    go_wp2_with (go_at_call 54; refine (RR _).out.mono ?_; rintro _ w2 ⟨rfl, hb2⟩)
    go_ret2
    exact ⟨by rw [HP.out.1, HP.out.2]; rfl, hbl.trans (hb2.mono hbl.size)⟩
  · have hri := (PV.right_iff p).1 hr
    have HP : Hid (p.packS = ba (Page.withSum p.pg (beB (Page.sumOf p.pg) 4 0)) ∧ p.packE = 0) := Lib.hid (by unfold PV.packS PV.packE; rw [hr]; exact ⟨rfl, rfl⟩)
    simp only [hr] at RR
    clear hr
    obtain ⟨kind, no, txn, body⟩ := p
    unfold PV.val at RR ⊢
    simp only at RR hbl hri ⊢
    obtain ⟨h1, h2, h3, h4, h5, h6, h7⟩ := hri
    obtain ⟨kind, rfl⟩ := Int.eq_ofNat_of_zero_le (show 0 ≤ kind by omega)
    obtain ⟨no, rfl⟩ := Int.eq_ofNat_of_zero_le (show 0 ≤ no by omega)
    obtain ⟨txn, rfl⟩ := Int.eq_ofNat_of_zero_le h5
    unfold PV.pg at HP
    simp only [Int.toNat_natCast] at HP
    obtain ⟨pg, hpg⟩ : ∃ pg : Page.PG, (⟨kind, no, txn, body.data.toList⟩ : Page.PG) = pg := ⟨_, rfl⟩
    have E25 := func_enters Try.func55 (by kernel_rfl) rfl
    have E26 := func_enters Try.func56 (by kernel_rfl) rfl
    obtain ⟨w1, hw1⟩ : ∃ w1, w.alloc (.cells #[.int .i64 kind, .int .i64 no, .int .i64 txn, .string body] 51) = w1 := ⟨_, rfl⟩
    rw [hw1] at hbl
    have hsz : w1.heap.size = w.heap.size + 1 := by rw [← hw1]; simp
    have hnew : w1.heap[w.heap.size]? = some (.cells #[.int .i64 kind, .int .i64 no, .int .i64 txn, .string body] 51 (0, 0)) := by rw [← hw1]; exact heap_alloc_new w _
    have cell : ∀ wS, Below w1.heap.size w1 wS → ∀ i, wS.cell? ⟨w.heap.size, i, none⟩ = (#[.int .i64 kind, .int .i64 no, .int .i64 txn, .string body] : Array Value)[i]? := fun wS h i => by
      rw [cell_of_row wS w.heap.size i _ 51 (0, 0) ((h.block _ (by omega)).trans hnew)]
    have K0 : ∀ wS, Below w1.heap.size w1 wS → wS.cell? ⟨w.heap.size, 0, none⟩ = some (.int .i64 kind) := fun wS h => cell wS h 0
    have K1 : ∀ wS, Below w1.heap.size w1 wS → wS.cell? ⟨w.heap.size, 1, none⟩ = some (.int .i64 no) := fun wS h => cell wS h 1
    have K2 : ∀ wS, Below w1.heap.size w1 wS → wS.cell? ⟨w.heap.size, 2, none⟩ = some (.int .i64 txn) := fun wS h => cell wS h 2
    have K3 : ∀ wS, Below w1.heap.size w1 wS → wS.cell? ⟨w.heap.size, 3, none⟩ = some (.string body) := fun wS h => cell wS h 3
    have hb8 : pg.body.length = body.size := by rw [← hpg]; simp only [Array.length_toList]; rfl
    have WC : ∀ sum : Nat, sum < 2 ^ 32 → Hid (∀ wS, Below w1.heap.size w1 wS → Calls Try.prog 55 #[.agg #[.int .i64 kind, .int .i64 no, .int .i64 txn, .string body], .int .u32 sum] wS fun e w' => e = .returned (.string (ba (Page.withSum pg (beB sum 4 0)))) ∧ Below w1.heap.size w1 w') := fun sum hs =>
      Lib.hid (fun wS hS => (pwith_ok kind no txn body sum (by omega) (by omega) (by omega) h7 hs wS).mono fun _ _ ⟨e, hb⟩ => ⟨by rw [e, hpg], hS.trans (hb.mono hS.size)⟩)
    have WC0 := WC 0 (by omega)
    rw [beB_zero] at WC0
    obtain ⟨n, hn⟩ : ∃ n : Nat, Page.sumOf pg = n := ⟨_, rfl⟩
    have hn32 : n < 2 ^ 32 := by rw [← hn]; exact Page.on_lt _ _
    have SC : Hid (∀ wS, Below w1.heap.size w1 wS → Calls Try.prog 56 #[.string (ba (Page.withSum pg (Page.noughts 4)))] wS fun e w' => e = .returned (.int .u32 n) ∧ Below w1.heap.size w1 w') :=
      Lib.hid (fun wS hS => (sum_ok (ba (Page.withSum pg (Page.noughts 4))) (by rw [ba_size, Page.withSum_length _ _ (by simp [Page.noughts]) (by omega)]; omega) wS).mono fun _ _ ⟨e, hb⟩ => ⟨by rw [e, data_ba, ← hn]; rfl, hb ▸ hS⟩)
    have WC1 := WC n hn32
    rw [hpg, hn] at HP
    obtain ⟨A1, a1⟩ : ∃ A, ba (Page.withSum pg (Page.noughts 4)) = A := ⟨_, rfl⟩
    obtain ⟨A3, a3⟩ : ∃ A, ba (Page.withSum pg (beB n 4 0)) = A := ⟨_, rfl⟩
    rw [a1] at WC0 SC
    rw [a3] at WC1 HP
    have c0 := K0 w1 (Below.refl _ _)
    have c1 := K1 w1 (Below.refl _ _)
    have c2 := K2 w1 (Below.refl _ _)
    have c3 := K3 w1 (Below.refl _ _)
    clear WC a1 a3 hn hpg cell h1 h2 h3 h4 h5 h6
    go_enter Try.func46, Try.ntmps46
    go_wp2_with (go_at_call 54; refine (RR _).out.mono ?_; rintro _ w2 ⟨rfl, hb2⟩)
    refine region_q (C := fun w' => Below w1.heap.size w1 w') (by kernel_rfl) (by kernel_rfl) hb2.drew ?_
    refine q_op (.agg #[.int .i64 kind, .int .i64 no, .int .i64 txn, .string body]) rfl (fun wS hSw => by have k0 := K0 wS hSw; have k1 := K1 wS hSw; have k2 := K2 wS hSw; have k3 := K3 wS hSw; go_simp; try with_reducible rfl) ?_
    simp only [Act.put, List.setIfInBounds_toArray, List.set_cons_zero, List.set_cons_succ]
    refine q_op (.agg #[.int .i64 kind, .int .i64 no, .int .i64 txn, .string body]) rfl (fun wS hSw => by have k0 := K0 wS hSw; have k1 := K1 wS hSw; have k2 := K2 wS hSw; have k3 := K3 wS hSw; go_simp; try with_reducible rfl) ?_
    simp only [Act.put, List.setIfInBounds_toArray, List.set_cons_zero, List.set_cons_succ]
    refine q_call2 (.string A1) rfl 55 _ _ _ rfl (.agg #[.int .i64 kind, .int .i64 no, .int .i64 txn, .string body]) (.int .u32 (0 : Nat)) (by rfl) (by rfl) E25 (fun wS hSw => WC0.out wS hSw) ?_
    simp only [Act.put, List.setIfInBounds_toArray, List.set_cons_zero, List.set_cons_succ]
    refine q_call1 (.int .u32 n) rfl 56 _ _ rfl (.string A1) (by rfl) E26 (fun wS hSw => SC.out wS hSw) ?_
    simp only [Act.put, List.setIfInBounds_toArray, List.set_cons_zero, List.set_cons_succ]
    refine q_call2 (.string A3) rfl 55 _ _ _ rfl (.agg #[.int .i64 kind, .int .i64 no, .int .i64 txn, .string body]) (.int .u32 n) (by rfl) (by rfl) E25 (fun wS hSw => WC1.out wS hSw) ?_
    simp only [Act.put, List.setIfInBounds_toArray, List.set_cons_zero, List.set_cons_succ]
    refine q_op (.string A3) rfl (fun wS hSw => by go_simp; try with_reducible rfl) ?_
    simp only [Act.put, List.setIfInBounds_toArray, List.set_cons_zero, List.set_cons_succ]
    refine q_op (.int .i64 0) rfl (fun wS hSw => by go_simp; try with_reducible rfl) ?_
    simp only [Act.put, List.setIfInBounds_toArray, List.set_cons_zero, List.set_cons_succ]
    refine wpQuiet_nil ?_
    intro w4 hw4
    go_wp2
    go_ret2
    exact ⟨by rw [HP.out.1, HP.out.2]; rfl, hbl.trans (hw4.mono (by omega))⟩
end Go.Proofs.Ytjgmlpfallakmaa
end
section
namespace Go.Proofs.Ytjgmlpfallakmaa
open Go.RowKit
set_option maxRecDepth 4000 in
set_option maxHeartbeats 1600000 in
theorem ppackM_ok (w : World) (m : MV) : Calls Try.prog 48 #[m.val] w fun e w' => e = .returned (.tuple #[.string m.packS, .int .i64 m.packE]) ∧ Below w.heap.size w w' := by
  have RR := fun w => Lib.hid (prightM_ok w m)
  have hbl : Below w.heap.size w (w.alloc (.cells #[.int .i64 m.txn, .int .i64 m.root, .int .i64 m.free, .int .i64 m.pages, .int .i64 m.limit] 32)) := (Below.refl _ w).alloc (Nat.le_refl _) _
  cases hr : m.right
  · have HP : Hid (m.packS = ⟨#[]⟩ ∧ m.packE = 4) := Lib.hid (by unfold MV.packS MV.packE; rw [hr]; exact ⟨rfl, rfl⟩)
    simp only [hr] at RR
    clear hr
    obtain ⟨txn, root, free, pages, limit⟩ := m
    unfold MV.val at RR ⊢
    simp only at RR hbl ⊢
    go_enter Try.func48, Try.ntmps48
    go_wp2_with (go_at_call 33; refine (RR _).out.mono ?_; rintro _ w2 ⟨rfl, hb2⟩)
    go_ret2
    exact ⟨by rw [HP.out.1, HP.out.2]; rfl, hbl.trans (hb2.mono hbl.size)⟩
  · have hri := (MV.right_iff m).1 hr
    have HP : Hid (m.packS = ba (Page.headM m.me ++ (beB (Crc.on 0 (Page.headM m.me)) 4 0 ++ Page.noughts 92)) ∧ m.packE = 0) := Lib.hid (by unfold MV.packS MV.packE; rw [hr]; exact ⟨rfl, rfl⟩)
    simp only [hr] at RR
    clear hr
    obtain ⟨txn, root, free, pages, limit⟩ := m
    unfold MV.val at RR ⊢
    simp only at RR hbl hri ⊢
    obtain ⟨h1, h2, h3, h4, h5, h6, h7, h8, h9, h10⟩ := hri
    obtain ⟨txn, rfl⟩ := Int.eq_ofNat_of_zero_le (show 0 ≤ txn by omega)
    obtain ⟨root, rfl⟩ := Int.eq_ofNat_of_zero_le (show 0 ≤ root by omega)
    obtain ⟨free, rfl⟩ := Int.eq_ofNat_of_zero_le (show 0 ≤ free by omega)
    obtain ⟨pages, rfl⟩ := Int.eq_ofNat_of_zero_le (show 0 ≤ pages by omega)
    obtain ⟨limit, rfl⟩ := Int.eq_ofNat_of_zero_le (show 0 ≤ limit by omega)
    unfold MV.me at HP
    simp only [Int.toNat_natCast] at HP
    have HH := Lib.hid (head_bytes ⟨txn, root, free, pages, limit⟩)
    simp only at HH
    have hhl := Page.headM_length ⟨txn, root, free, pages, limit⟩
    obtain ⟨H, hH⟩ : ∃ H, Page.headM ⟨txn, root, free, pages, limit⟩ = H := ⟨_, rfl⟩
    rw [hH] at HP HH hhl
    obtain ⟨w1, hw1⟩ : ∃ w1, w.alloc (.cells #[.int .i64 txn, .int .i64 root, .int .i64 free, .int .i64 pages, .int .i64 limit] 32) = w1 := ⟨_, rfl⟩
    rw [hw1] at hbl
    have hsz : w1.heap.size = w.heap.size + 1 := by rw [← hw1]; simp
    have hnew : w1.heap[w.heap.size]? = some (.cells #[.int .i64 txn, .int .i64 root, .int .i64 free, .int .i64 pages, .int .i64 limit] 32 (0, 0)) := by rw [← hw1]; exact heap_alloc_new w _
    have cell : ∀ wS, Below w1.heap.size w1 wS → ∀ i, wS.cell? ⟨w.heap.size, i, none⟩ = (#[.int .i64 txn, .int .i64 root, .int .i64 free, .int .i64 pages, .int .i64 limit] : Array Value)[i]? := fun wS h i => by
      rw [cell_of_row wS w.heap.size i _ 32 (0, 0) ((h.block _ (by omega)).trans hnew)]
    have K0 : ∀ wS, Below w1.heap.size w1 wS → wS.cell? ⟨w.heap.size, 0, none⟩ = some (.int .i64 txn) := fun wS h => cell wS h 0
    have K1 : ∀ wS, Below w1.heap.size w1 wS → wS.cell? ⟨w.heap.size, 1, none⟩ = some (.int .i64 root) := fun wS h => cell wS h 1
    have K2 : ∀ wS, Below w1.heap.size w1 wS → wS.cell? ⟨w.heap.size, 2, none⟩ = some (.int .i64 free) := fun wS h => cell wS h 2
    have K3 : ∀ wS, Below w1.heap.size w1 wS → wS.cell? ⟨w.heap.size, 3, none⟩ = some (.int .i64 pages) := fun wS h => cell wS h 3
    have K4 : ∀ wS, Below w1.heap.size w1 wS → wS.cell? ⟨w.heap.size, 4, none⟩ = some (.int .i64 limit) := fun wS h => cell wS h 4
    have c0 := K0 w1 (Below.refl _ _)
    have c1 := K1 w1 (Below.refl _ _)
    have c2 := K2 w1 (Below.refl _ _)
    have c3 := K3 w1 (Below.refl _ _)
    have c4 := K4 w1 (Below.refl _ _)
    obtain ⟨n, hn⟩ : ∃ n : Nat, Crc.on 0 H = n := ⟨_, rfl⟩
    have hn32 : n < 2 ^ 32 := by rw [← hn]; exact Page.on_lt _ _
    rw [hn] at HP
    have HB : Hid (ba (H ++ (beB n 4 0 ++ Page.noughts 92)) = ba H ++ ba (beB n 4 0) ++ ba (Page.noughts 92)) := Lib.hid (by simp only [ba_append, List.append_assoc])
    rw [HB.out] at HP
    have SC : Hid (∀ wS, Calls Try.prog 56 #[.string (ba H)] wS fun e w' => e = .returned (.int .u32 n) ∧ wS = w') :=
      Lib.hid (fun wS => (sum_ok (ba H) (by rw [ba_size, hhl]; omega) wS).mono fun _ _ ⟨e, hb⟩ => ⟨by rw [e, data_ba, hn], hb⟩)
    obtain ⟨X, hX⟩ : ∃ X, ba H = X := ⟨_, rfl⟩
    rw [hX] at HH SC HP
    have hcv : IntKind.i64.wrap (n : Int) = (n : Int) := IntWalk.i64_in _ (by omega)
    obtain ⟨O, hO⟩ : ∃ O : ByteArray, ba [82, 79, 76, 76, 66, 79, 79, 75] = O := ⟨_, rfl⟩
    have z0 : (ba [82, 79, 76, 76, 66, 79, 79, 75]).size = 8 := by rw [ba_size]; rfl
    clear hO
    have C1 := fun w => Lib.hid (lay_ok (ba [82, 79, 76, 76, 66, 79, 79, 75]) txn 8 (by omega) (by omega) (by omega) (by omega) (by omega) w)
    have z1 : (ba [82, 79, 76, 76, 66, 79, 79, 75] ++ ba (beB txn 8 0)).size = 16 := by rw [ByteArray.size_append, z0, ba_size, beB_length]
    obtain ⟨S1, e1⟩ : ∃ S, ba [82, 79, 76, 76, 66, 79, 79, 75] ++ ba (beB txn 8 0) = S := ⟨_, rfl⟩
    rw [e1] at C1 z1 HH
    have C2 := fun w => Lib.hid (lay_ok (S1) root 4 (by omega) (by omega) (by omega) (by omega) (by omega) w)
    have z2 : (S1 ++ ba (beB root 4 0)).size = 20 := by rw [ByteArray.size_append, z1, ba_size, beB_length]
    obtain ⟨S2, e2⟩ : ∃ S, S1 ++ ba (beB root 4 0) = S := ⟨_, rfl⟩
    rw [e2] at C2 z2 HH
    have C3 := fun w => Lib.hid (lay_ok (S2) free 4 (by omega) (by omega) (by omega) (by omega) (by omega) w)
    have z3 : (S2 ++ ba (beB free 4 0)).size = 24 := by rw [ByteArray.size_append, z2, ba_size, beB_length]
    obtain ⟨S3, e3⟩ : ∃ S, S2 ++ ba (beB free 4 0) = S := ⟨_, rfl⟩
    rw [e3] at C3 z3 HH
    have C4 := fun w => Lib.hid (lay_ok (S3) pages 4 (by omega) (by omega) (by omega) (by omega) (by omega) w)
    have z4 : (S3 ++ ba (beB pages 4 0)).size = 28 := by rw [ByteArray.size_append, z3, ba_size, beB_length]
    obtain ⟨S4, e4⟩ : ∃ S, S3 ++ ba (beB pages 4 0) = S := ⟨_, rfl⟩
    rw [e4] at C4 z4 HH
    have C5 := fun w => Lib.hid (lay_ok (S4) limit 4 (by omega) (by omega) (by omega) (by omega) (by omega) w)
    have z5 : (S4 ++ ba (beB limit 4 0)).size = 32 := by rw [ByteArray.size_append, z4, ba_size, beB_length]
    obtain ⟨S5, e5⟩ : ∃ S, S4 ++ ba (beB limit 4 0) = S := ⟨_, rfl⟩
    rw [e5] at C5 z5 HH
    have HX := HH.out
    rw [HX] at SC HP
    have C6 := fun w => Lib.hid (lay_ok S5 n 4 (by omega) (by omega) (by omega) (by omega) (by omega) w)
    have z6 : (S5 ++ ba (beB n 4 0)).size = 36 := by rw [ByteArray.size_append, z5, ba_size, beB_length]
    obtain ⟨S6, e6⟩ : ∃ S, S5 ++ ba (beB n 4 0) = S := ⟨_, rfl⟩
    rw [e6] at C6 z6 HP
    have C7 := fun w => Lib.hid (fill_ok S6 128 (by omega) (by omega) w)
    rw [show 128 - S6.size = 92 by omega] at C7
    obtain ⟨S7, e7⟩ : ∃ S, S6 ++ ba (Page.noughts 92) = S := ⟨_, rfl⟩
    rw [e7] at C7 HP
    clear O h1 h2 h3 h4 h5 h6 h7 h8 h9 h10 hn32 hn hH hX HX HB HH hhl H X cell e1 e2 e3 e4 e5 e6 e7 z0 z1 z2 z3 z4 z5 z6
    go_enter Try.func48, Try.ntmps48
    go_wp2_with (go_at_call 33; refine (RR _).out.mono ?_; rintro _ w2 ⟨rfl, hb2⟩; have k0 := K0 _ hb2)
    refine (C1 _).out.mono ?_
    rintro _ v1 ⟨rfl, hv1⟩
    have B1 := hb2.trans (hv1.mono hb2.size)
    have k1 := K1 v1 B1
    go_wp2_with fail
    refine (C2 _).out.mono ?_
    rintro _ v2 ⟨rfl, hv2⟩
    have B2 := B1.trans (hv2.mono B1.size)
    have k2 := K2 v2 B2
    go_wp2_with fail
    refine (C3 _).out.mono ?_
    rintro _ v3 ⟨rfl, hv3⟩
    have B3 := B2.trans (hv3.mono B2.size)
    have k3 := K3 v3 B3
    go_wp2_with fail
    refine (C4 _).out.mono ?_
    rintro _ v4 ⟨rfl, hv4⟩
    have B4 := B3.trans (hv4.mono B3.size)
    have k4 := K4 v4 B4
    go_wp2_with fail
    refine (C5 _).out.mono ?_
    rintro _ v5 ⟨rfl, hv5⟩
    have B5 := B4.trans (hv5.mono B4.size)
    go_wp2_with fail
    refine (SC.out _).mono ?_
    rintro _ _ ⟨rfl, rfl⟩
    go_wp2_with fail
    refine (C6 _).out.mono ?_
    rintro _ v6 ⟨rfl, hv6⟩
    have B6 := B5.trans (hv6.mono B5.size)
    go_wp2_with fail
    refine (C7 _).out.mono ?_
    rintro _ v7 ⟨rfl, hv7⟩
    have B7 := B6.trans (hv7.mono B6.size)
    go_wp2
    go_ret2
    exact ⟨by rw [HP.out.1, HP.out.2]; rfl, hbl.trans (B7.mono (by omega))⟩
end Go.Proofs.Ytjgmlpfallakmaa
end
section
namespace Go.Proofs.Ytjgmlpfallakmaa
open Go.RowKit
/-- the meta of a text's numbers, as they come out -/
def metaOf (l : List UInt8) : MV := ⟨wrap64 (Page.at_ l 8 8 : Nat), (Page.at_ l 16 4 : Nat), (Page.at_ l 20 4 : Nat), (Page.at_ l 24 4 : Nat), (Page.at_ l 28 4 : Nat)⟩
theorem at_lt (l : List UInt8) (a k : Nat) : Page.at_ l a k < 2 ^ (8 * k) := Nat.lt_of_lt_of_le (beN_lt _) (Nat.pow_le_pow_right (by omega) (by have := List.length_take_le k (l.drop a); omega))
theorem metaOf_yes (s : ByteArray) (h : s.size = 128) (hr : (metaOf s.data.toList).right = true) (hp : (metaOf s.data.toList).packS = s) : unpackM s = metaOf s.data.toList ∧ unpackME s = 0 := by
  obtain ⟨l, hl⟩ : ∃ l, s.data.toList = l := ⟨_, rfl⟩
  have hll : l.length = 128 := by rw [← hl, list_size, h]
  rw [hl] at hr hp ⊢
  have h8 := at_lt l 8 8
  have ht : Page.at_ l 8 8 ≤ 1099511627776 := by
    have := ((MV.right_iff _).1 hr)
    unfold metaOf at this
    simp only at this
    unfold wrap64 at this
    omega
  have hm : metaOf l = ofME (Page.fieldsM l) := by
    unfold metaOf ofME Page.fieldsM
    rw [IntWalk.wrap64_in _ (by omega)]
  have hr2 : Page.rightM (Page.fieldsM l) = true := by rw [← right_ofME, ← hm]; exact hr
  have hp2 : Page.packedM (Page.fieldsM l) = l := by
    have : (metaOf l).packS = ba (Page.packedM (metaOf l).me) := by unfold MV.packS; rw [hr]; rfl
    rw [hp, hm, me_ofME] at this
    rw [← data_ba (Page.packedM (Page.fieldsM l)), ← this, hl]
  have hrd : Page.readM l = some (Page.fieldsM l) := by unfold Page.readM; rw [if_pos ⟨hll, ht, hr2, hp2⟩]
  unfold unpackM unpackME
  rw [hl, hrd, hm]
  exact ⟨rfl, rfl⟩
theorem metaOf_no (s : ByteArray) (h : ¬ ((metaOf s.data.toList).right = true ∧ (metaOf s.data.toList).packS = s)) : unpackM s = MV.none ∧ unpackME s = 4 := by
  refine runpackM_not s ?_
  obtain ⟨l, hl⟩ : ∃ l, s.data.toList = l := ⟨_, rfl⟩
  rw [hl] at h ⊢
  unfold Page.readM
  rw [if_neg]
  intro ⟨h1, h2, h3, h4⟩
  have hm : metaOf l = ofME (Page.fieldsM l) := by
    unfold metaOf ofME Page.fieldsM
    rw [IntWalk.wrap64_in _ (by omega)]
  have hr : (metaOf l).right = true := by rw [hm, right_ofME]; exact h3
  refine h ⟨hr, ?_⟩
  unfold MV.packS
  rw [hr, hm, me_ofME, h4, ← hl]
  exact ba_data s
theorem neq_toList {X s : ByteArray} (hne : X ≠ s) : (X.toList == s.toList) = false := by
  rw [beq_eq_false_iff_ne]
  intro e
  rw [ByteArray.toList_eq, ByteArray.toList_eq] at e
  exact hne (ByteArray.ext (Array.ext' e))
theorem ptake_in (s : ByteArray) (hs : s.size ≤ 2000) (a k : Nat) (hk : 1 ≤ k) (hk8 : k ≤ 7) (h2 : a + k ≤ s.size) (w : World) :
    Calls Try.prog 53 #[.string s, .int .i64 a, .int .i64 k] w fun e w' => e = .returned (.int .i64 (Page.at_ s.data.toList a k : Nat)) ∧ w = w' := by
  have h := ptake_ok s (by omega) a k hk (by omega) h2 w
  have hlt := at_lt s.data.toList a k
  have : 2 ^ (8 * k) ≤ 2 ^ 56 := Nat.pow_le_pow_right (by omega) (by omega)
  rwa [IntWalk.wrap64_in _ (by omega)] at h
set_option maxRecDepth 4000 in
set_option maxHeartbeats 1600000 in
theorem punpackM_ok (w : World) (s : ByteArray) (hs : s.size ≤ 2000) : Calls Try.prog 44 #[.string s] w fun e w' => e = .returned (.tuple #[(unpackM s).val, .int .i64 (unpackME s)]) ∧ Below w.heap.size w w' := by
  have hbl : Below w.heap.size w (w.alloc (.cells #[.int .i64 0, .int .i64 0, .int .i64 0, .int .i64 0, .int .i64 0] 32)) := (Below.refl _ w).alloc (Nat.le_refl _) _
  have hz : ∀ w, (zeroValue 32).run Try.prog w = .ok (.agg #[.int .i64 0, .int .i64 0, .int .i64 0, .int .i64 0, .int .i64 0]) w := fun w => by kernel_rfl
  have N0 : Hid (MV.none.val = .agg #[.int .i64 0, .int .i64 0, .int .i64 0, .int .i64 0, .int .i64 0]) := Lib.hid rfl
  by_cases h5 : s.size = 128
  · have d0 : ((s.size : Int) != 128) = false := by rw [h5]; rfl
    have T1 := fun w => Lib.hid (ptake_ok s (by omega) 8 8 (by omega) (by omega) (by omega) w)
    have T2 := fun w => Lib.hid (ptake_in s (by omega) 16 4 (by omega) (by omega) (by omega) w)
    have T3 := fun w => Lib.hid (ptake_in s (by omega) 20 4 (by omega) (by omega) (by omega) w)
    have T4 := fun w => Lib.hid (ptake_in s (by omega) 24 4 (by omega) (by omega) (by omega) w)
    have T5 := fun w => Lib.hid (ptake_in s (by omega) 28 4 (by omega) (by omega) (by omega) w)
    have HM : Hid (metaOf s.data.toList = ⟨wrap64 (Page.at_ s.data.toList 8 8 : Nat), (Page.at_ s.data.toList 16 4 : Nat), (Page.at_ s.data.toList 20 4 : Nat), (Page.at_ s.data.toList 24 4 : Nat), (Page.at_ s.data.toList 28 4 : Nat)⟩) := Lib.hid rfl
    obtain ⟨tn, htn⟩ : ∃ n : Int, wrap64 (Page.at_ s.data.toList 8 8 : Nat) = n := ⟨_, rfl⟩
    obtain ⟨rn, hrn⟩ : ∃ n : Int, (Page.at_ s.data.toList 16 4 : Nat) = n := ⟨_, rfl⟩
    obtain ⟨fn, hfn⟩ : ∃ n : Int, (Page.at_ s.data.toList 20 4 : Nat) = n := ⟨_, rfl⟩
    obtain ⟨pn, hpn⟩ : ∃ n : Int, (Page.at_ s.data.toList 24 4 : Nat) = n := ⟨_, rfl⟩
    obtain ⟨ln, hln⟩ : ∃ n : Int, (Page.at_ s.data.toList 28 4 : Nat) = n := ⟨_, rfl⟩
    rw [htn, hrn, hfn, hpn, hln] at HM
    simp only [htn] at T1
    simp only [hrn] at T2
    simp only [hfn] at T3
    simp only [hpn] at T4
    simp only [hln] at T5
    clear htn hrn hfn hpn hln
    obtain ⟨m, hm⟩ : ∃ m, metaOf s.data.toList = m := ⟨_, rfl⟩
    have Y := metaOf_yes s h5
    have Nn := metaOf_no s
    rw [hm] at HM Y Nn
    have PC := fun w => ppackM_ok w m
    have hmv : m.val = .agg #[.int .i64 tn, .int .i64 rn, .int .i64 fn, .int .i64 pn, .int .i64 ln] := by rw [HM.out]; rfl
    rw [hmv] at PC
    cases hr : m.right with
    | false =>
      have hE : m.packE = 4 := by unfold MV.packE; rw [hr]; rfl
      have HU := Lib.hid (Nn (by rw [hr]; simp))
      rw [hE] at PC
      obtain ⟨X, hX⟩ : ∃ X, m.packS = X := ⟨_, rfl⟩
      rw [hX] at PC
      have PC := fun w => Lib.hid (PC w)
      clear Y Nn hX hE hmv hr hm HM
      go_enter Try.func44, Try.ntmps44
      go_wp2_with fail
      refine (T1 _).out.mono ?_
      rintro _ _ ⟨rfl, rfl⟩
      go_wp2_with fail
      refine (T2 _).out.mono ?_
      rintro _ _ ⟨rfl, rfl⟩
      go_wp2_with fail
      refine (T3 _).out.mono ?_
      rintro _ _ ⟨rfl, rfl⟩
      go_wp2_with fail
      refine (T4 _).out.mono ?_
      rintro _ _ ⟨rfl, rfl⟩
      go_wp2_with fail
      refine (T5 _).out.mono ?_
      rintro _ _ ⟨rfl, rfl⟩
      go_wp2_with fail
      refine (PC _).out.mono ?_
      rintro _ w3 ⟨rfl, hb3⟩
      have hZ : Blk w3 w.heap.size #[.int .i64 0, .int .i64 0, .int .i64 0, .int .i64 0, .int .i64 0] 32 := (hb3.block _ (by simp; omega)).trans ((Below.heap_alloc _ _ _ (by simp)).trans (heap_alloc_new w _))
      have hP : Blk w3 (w.heap.size + 1) #[.int .i64 tn, .int .i64 rn, .int .i64 fn, .int .i64 pn, .int .i64 ln] 32 := (hb3.block _ (by simp)).trans (by have := heap_alloc_new (w.alloc (.cells #[.int .i64 0, .int .i64 0, .int .i64 0, .int .i64 0, .int .i64 0] 32)) (.cells #[.int .i64 tn, .int .i64 rn, .int .i64 fn, .int .i64 pn, .int .i64 ln] 32); simpa using this)
      have hB3 : Below w.heap.size w w3 := (hbl.alloc hbl.size (.cells #[.int .i64 tn, .int .i64 rn, .int .i64 fn, .int .i64 pn, .int .i64 ln] 32)).trans (hb3.mono (by simp; omega))
      have u0 : w3.cell? ⟨w.heap.size, 0, none⟩ = some (.int .i64 0) := hZ.cell 0
      have m0 := hZ.free 0
      have u1 : w3.cell? ⟨w.heap.size, 1, none⟩ = some (.int .i64 0) := hZ.cell 1
      have m1 := hZ.free 1
      have u2 : w3.cell? ⟨w.heap.size, 2, none⟩ = some (.int .i64 0) := hZ.cell 2
      have m2 := hZ.free 2
      have u3 : w3.cell? ⟨w.heap.size, 3, none⟩ = some (.int .i64 0) := hZ.cell 3
      have m3 := hZ.free 3
      have u4 : w3.cell? ⟨w.heap.size, 4, none⟩ = some (.int .i64 0) := hZ.cell 4
      have m4 := hZ.free 4
      have hlt := hZ.lt
      have HZ := Lib.hid hZ
      have HB3 := Lib.hid hB3
      clear hZ hP hB3 hb3
      go_wp2
      refine bodyPost_ret (results_cell2 rfl _ _ w.heap.size 32 _ (0, 0) _ rfl (((((HZ.out.set 0 _).set 1 _).set 2 _).set 3 _).set 4 _) Try.underlying32 rfl (by kernel_rfl)) rfl ⟨?_, (((((HB3.out.setCell (p := ⟨w.heap.size, 0, none⟩) (Nat.le_refl _) _).setCell (p := ⟨w.heap.size, 1, none⟩) (Nat.le_refl _) _).setCell (p := ⟨w.heap.size, 2, none⟩) (Nat.le_refl _) _).setCell (p := ⟨w.heap.size, 3, none⟩) (Nat.le_refl _) _).setCell (p := ⟨w.heap.size, 4, none⟩) (Nat.le_refl _) _)⟩
      rw [HU.out.1, HU.out.2, N0.out]
      rfl
    | true =>
      have hE : m.packE = 0 := by unfold MV.packE; rw [hr]; rfl
      rw [hE] at PC
      by_cases hp : m.packS = s
      · have HU := Lib.hid (Y hr hp)
        rw [hp] at PC
        have q1 : (s.toList == s.toList) = true := by simp
        have HV := Lib.hid hmv
        have PC := fun w => Lib.hid (PC w)
        clear Y Nn hE hmv hr hm HM hp
        go_enter Try.func44, Try.ntmps44
        go_wp2_with fail
        refine (T1 _).out.mono ?_
        rintro _ _ ⟨rfl, rfl⟩
        go_wp2_with fail
        refine (T2 _).out.mono ?_
        rintro _ _ ⟨rfl, rfl⟩
        go_wp2_with fail
        refine (T3 _).out.mono ?_
        rintro _ _ ⟨rfl, rfl⟩
        go_wp2_with fail
        refine (T4 _).out.mono ?_
        rintro _ _ ⟨rfl, rfl⟩
        go_wp2_with fail
        refine (T5 _).out.mono ?_
        rintro _ _ ⟨rfl, rfl⟩
        go_wp2_with fail
        refine (PC _).out.mono ?_
        rintro _ w3 ⟨rfl, hb3⟩
        have hZ : Blk w3 w.heap.size #[.int .i64 0, .int .i64 0, .int .i64 0, .int .i64 0, .int .i64 0] 32 := (hb3.block _ (by simp; omega)).trans ((Below.heap_alloc _ _ _ (by simp)).trans (heap_alloc_new w _))
        have hP : Blk w3 (w.heap.size + 1) #[.int .i64 tn, .int .i64 rn, .int .i64 fn, .int .i64 pn, .int .i64 ln] 32 := (hb3.block _ (by simp)).trans (by have := heap_alloc_new (w.alloc (.cells #[.int .i64 0, .int .i64 0, .int .i64 0, .int .i64 0, .int .i64 0] 32)) (.cells #[.int .i64 tn, .int .i64 rn, .int .i64 fn, .int .i64 pn, .int .i64 ln] 32); simpa using this)
        have hB3 : Below w.heap.size w w3 := (hbl.alloc hbl.size (.cells #[.int .i64 tn, .int .i64 rn, .int .i64 fn, .int .i64 pn, .int .i64 ln] 32)).trans (hb3.mono (by simp; omega))
        have u0 : w3.cell? ⟨w.heap.size, 0, none⟩ = some (.int .i64 0) := hZ.cell 0
        have v0 : w3.cell? ⟨w.heap.size + 1, 0, none⟩ = some (.int .i64 tn) := hP.cell 0
        have m0 := hZ.free 0
        have u1 : w3.cell? ⟨w.heap.size, 1, none⟩ = some (.int .i64 0) := hZ.cell 1
        have v1 : w3.cell? ⟨w.heap.size + 1, 1, none⟩ = some (.int .i64 rn) := hP.cell 1
        have m1 := hZ.free 1
        have u2 : w3.cell? ⟨w.heap.size, 2, none⟩ = some (.int .i64 0) := hZ.cell 2
        have v2 : w3.cell? ⟨w.heap.size + 1, 2, none⟩ = some (.int .i64 fn) := hP.cell 2
        have m2 := hZ.free 2
        have u3 : w3.cell? ⟨w.heap.size, 3, none⟩ = some (.int .i64 0) := hZ.cell 3
        have v3 : w3.cell? ⟨w.heap.size + 1, 3, none⟩ = some (.int .i64 pn) := hP.cell 3
        have m3 := hZ.free 3
        have u4 : w3.cell? ⟨w.heap.size, 4, none⟩ = some (.int .i64 0) := hZ.cell 4
        have v4 : w3.cell? ⟨w.heap.size + 1, 4, none⟩ = some (.int .i64 ln) := hP.cell 4
        have m4 := hZ.free 4
        have hlt := hZ.lt
        have HZ := Lib.hid hZ
        have HB3 := Lib.hid hB3
        clear hZ hP hB3 hb3
        go_wp2
        refine bodyPost_ret (results_cell2 rfl _ _ w.heap.size 32 _ (0, 0) _ rfl (((((HZ.out.set 0 _).set 1 _).set 2 _).set 3 _).set 4 _) Try.underlying32 rfl (by kernel_rfl)) rfl ⟨?_, (((((HB3.out.setCell (p := ⟨w.heap.size, 0, none⟩) (Nat.le_refl _) _).setCell (p := ⟨w.heap.size, 1, none⟩) (Nat.le_refl _) _).setCell (p := ⟨w.heap.size, 2, none⟩) (Nat.le_refl _) _).setCell (p := ⟨w.heap.size, 3, none⟩) (Nat.le_refl _) _).setCell (p := ⟨w.heap.size, 4, none⟩) (Nat.le_refl _) _)⟩
        rw [HU.out.1, HU.out.2, HV.out]
        rfl
      · have HU := Lib.hid (Nn (by intro h; exact hp h.2))
        have q1 := neq_toList hp
        obtain ⟨X, hX⟩ : ∃ X, m.packS = X := ⟨_, rfl⟩
        rw [hX] at PC q1
        have PC := fun w => Lib.hid (PC w)
        clear Y Nn hE hmv hr hm HM hp hX
        go_enter Try.func44, Try.ntmps44
        go_wp2_with fail
        refine (T1 _).out.mono ?_
        rintro _ _ ⟨rfl, rfl⟩
        go_wp2_with fail
        refine (T2 _).out.mono ?_
        rintro _ _ ⟨rfl, rfl⟩
        go_wp2_with fail
        refine (T3 _).out.mono ?_
        rintro _ _ ⟨rfl, rfl⟩
        go_wp2_with fail
        refine (T4 _).out.mono ?_
        rintro _ _ ⟨rfl, rfl⟩
        go_wp2_with fail
        refine (T5 _).out.mono ?_
        rintro _ _ ⟨rfl, rfl⟩
        go_wp2_with fail
        refine (PC _).out.mono ?_
        rintro _ w3 ⟨rfl, hb3⟩
        have hZ : Blk w3 w.heap.size #[.int .i64 0, .int .i64 0, .int .i64 0, .int .i64 0, .int .i64 0] 32 := (hb3.block _ (by simp; omega)).trans ((Below.heap_alloc _ _ _ (by simp)).trans (heap_alloc_new w _))
        have hP : Blk w3 (w.heap.size + 1) #[.int .i64 tn, .int .i64 rn, .int .i64 fn, .int .i64 pn, .int .i64 ln] 32 := (hb3.block _ (by simp)).trans (by have := heap_alloc_new (w.alloc (.cells #[.int .i64 0, .int .i64 0, .int .i64 0, .int .i64 0, .int .i64 0] 32)) (.cells #[.int .i64 tn, .int .i64 rn, .int .i64 fn, .int .i64 pn, .int .i64 ln] 32); simpa using this)
        have hB3 : Below w.heap.size w w3 := (hbl.alloc hbl.size (.cells #[.int .i64 tn, .int .i64 rn, .int .i64 fn, .int .i64 pn, .int .i64 ln] 32)).trans (hb3.mono (by simp; omega))
        have u0 : w3.cell? ⟨w.heap.size, 0, none⟩ = some (.int .i64 0) := hZ.cell 0
        have m0 := hZ.free 0
        have u1 : w3.cell? ⟨w.heap.size, 1, none⟩ = some (.int .i64 0) := hZ.cell 1
        have m1 := hZ.free 1
        have u2 : w3.cell? ⟨w.heap.size, 2, none⟩ = some (.int .i64 0) := hZ.cell 2
        have m2 := hZ.free 2
        have u3 : w3.cell? ⟨w.heap.size, 3, none⟩ = some (.int .i64 0) := hZ.cell 3
        have m3 := hZ.free 3
        have u4 : w3.cell? ⟨w.heap.size, 4, none⟩ = some (.int .i64 0) := hZ.cell 4
        have m4 := hZ.free 4
        have hlt := hZ.lt
        have HZ := Lib.hid hZ
        have HB3 := Lib.hid hB3
        clear hZ hP hB3 hb3
        go_wp2
        refine bodyPost_ret (results_cell2 rfl _ _ w.heap.size 32 _ (0, 0) _ rfl (((((HZ.out.set 0 _).set 1 _).set 2 _).set 3 _).set 4 _) Try.underlying32 rfl (by kernel_rfl)) rfl ⟨?_, (((((HB3.out.setCell (p := ⟨w.heap.size, 0, none⟩) (Nat.le_refl _) _).setCell (p := ⟨w.heap.size, 1, none⟩) (Nat.le_refl _) _).setCell (p := ⟨w.heap.size, 2, none⟩) (Nat.le_refl _) _).setCell (p := ⟨w.heap.size, 3, none⟩) (Nat.le_refl _) _).setCell (p := ⟨w.heap.size, 4, none⟩) (Nat.le_refl _) _)⟩
        rw [HU.out.1, HU.out.2, N0.out]
        rfl
  · have d0 : ((s.size : Int) != 128) = true := by simp; omega
    obtain ⟨U1, U2⟩ := runpackM_not s (Page.readM_long _ (by rw [list_size]; exact h5))
    have HU := Lib.hid (And.intro U1 U2)
    clear U1 U2 h5
    go_enter Try.func44, Try.ntmps44
    go_wp2
    refine bodyPost_ret (results_cell2 rfl _ _ w.heap.size 32 _ (0, 0) _ rfl (heap_alloc_new w _) Try.underlying32 rfl (by kernel_rfl)) rfl ⟨?_, hbl⟩
    rw [HU.out.1, HU.out.2, N0.out]
    rfl
end Go.Proofs.Ytjgmlpfallakmaa
end
section
namespace Go.Proofs.Ytjgmlpfallakmaa
open Go.RowKit
/-- the page of a text's numbers, as they come out -/
def pageOf (l : List UInt8) : PV := ⟨(Page.at_ l 2 1 : Nat), (Page.at_ l 6 4 : Nat), wrap64 (Page.at_ l 10 8 : Nat), ba ((l.drop 24).take (Page.at_ l 4 2))⟩
theorem pageOf_yes (s : ByteArray) (h : s.size = 512) (hn : Page.at_ s.data.toList 4 2 ≤ 488) (hr : (pageOf s.data.toList).right = true) (hp : (pageOf s.data.toList).packS = s) : unpackP s = pageOf s.data.toList ∧ unpackE s = 0 := by
  obtain ⟨l, hl⟩ : ∃ l, s.data.toList = l := ⟨_, rfl⟩
  have hll : l.length = 512 := by rw [← hl, list_size, h]
  rw [hl] at hr hp hn ⊢
  have h8 := at_lt l 10 8
  have ht : Page.at_ l 10 8 ≤ 1099511627776 := by
    have := ((PV.right_iff _).1 hr)
    unfold pageOf at this
    simp only at this
    unfold wrap64 at this
    omega
  have hm : pageOf l = ofPG (Page.fields l) := by
    unfold pageOf ofPG Page.fields
    rw [IntWalk.wrap64_in _ (by omega)]
  have hr2 : Page.right (Page.fields l) = true := by rw [← right_ofPG, ← hm]; exact hr
  have hp2 : Page.packed (Page.fields l) = l := by
    have : (pageOf l).packS = ba (Page.packed (pageOf l).pg) := by unfold PV.packS; rw [hr]; rfl
    rw [hp, hm, pg_ofPG] at this
    rw [← data_ba (Page.packed (Page.fields l)), ← this, hl]
  have hrd : Page.read l = some (Page.fields l) := by unfold Page.read; rw [if_pos ⟨hll, hn, ht, hr2, hp2⟩]
  unfold unpackP unpackE
  rw [hl, hrd, hm]
  exact ⟨rfl, rfl⟩
theorem pageOf_no (s : ByteArray) (h : ¬ (Page.at_ s.data.toList 4 2 ≤ 488 ∧ (pageOf s.data.toList).right = true ∧ (pageOf s.data.toList).packS = s)) : unpackP s = PV.none ∧ unpackE s = 4 := by
  refine runpack_not s ?_
  obtain ⟨l, hl⟩ : ∃ l, s.data.toList = l := ⟨_, rfl⟩
  rw [hl] at h ⊢
  unfold Page.read
  rw [if_neg]
  intro ⟨h1, h0, h2, h3, h4⟩
  have hm : pageOf l = ofPG (Page.fields l) := by
    unfold pageOf ofPG Page.fields
    rw [IntWalk.wrap64_in _ (by omega)]
  have hr : (pageOf l).right = true := by rw [hm, right_ofPG]; exact h3
  refine h ⟨h0, hr, ?_⟩
  unfold PV.packS
  rw [hr, hm, pg_ofPG, h4, ← hl]
  exact ba_data s
set_option maxRecDepth 4000 in
set_option maxHeartbeats 1600000 in
theorem punpack_ok (w : World) (s : ByteArray) (hs : s.size ≤ 2000) : Calls Try.prog 45 #[.string s] w fun e w' => e = .returned (.tuple #[(unpackP s).val, .int .i64 (unpackE s)]) ∧ Below w.heap.size w w' := by
  have hbl : Below w.heap.size w (w.alloc (.cells #[.int .i64 0, .int .i64 0, .int .i64 0, .string ⟨#[]⟩] 51)) := (Below.refl _ w).alloc (Nat.le_refl _) _
  have hz : ∀ w, (zeroValue 51).run Try.prog w = .ok (.agg #[.int .i64 0, .int .i64 0, .int .i64 0, .string ⟨#[]⟩]) w := fun w => by kernel_rfl
  have N0 : Hid (PV.none.val = .agg #[.int .i64 0, .int .i64 0, .int .i64 0, .string ⟨#[]⟩]) := Lib.hid rfl
  by_cases h5 : s.size = 512
  · have d0 : ((s.size : Int) != 512) = false := by rw [h5]; rfl
    have T0 := fun w => Lib.hid (ptake_in s (by omega) 4 2 (by omega) (by omega) (by omega) w)
    have T1 := fun w => Lib.hid (ptake_in s (by omega) 2 1 (by omega) (by omega) (by omega) w)
    have T2 := fun w => Lib.hid (ptake_in s (by omega) 6 4 (by omega) (by omega) (by omega) w)
    have T3 := fun w => Lib.hid (ptake_ok s (by omega) 10 8 (by omega) (by omega) (by omega) w)
    have HM : Hid (pageOf s.data.toList = ⟨(Page.at_ s.data.toList 2 1 : Nat), (Page.at_ s.data.toList 6 4 : Nat), wrap64 (Page.at_ s.data.toList 10 8 : Nat), ba ((s.data.toList.drop 24).take (Page.at_ s.data.toList 4 2))⟩) := Lib.hid rfl
    obtain ⟨kn, hkn⟩ : ∃ n : Int, (Page.at_ s.data.toList 2 1 : Nat) = n := ⟨_, rfl⟩
    obtain ⟨on, hon⟩ : ∃ n : Int, (Page.at_ s.data.toList 6 4 : Nat) = n := ⟨_, rfl⟩
    obtain ⟨tn, htn⟩ : ∃ n : Int, wrap64 (Page.at_ s.data.toList 10 8 : Nat) = n := ⟨_, rfl⟩
    rw [htn, hon, hkn] at HM
    simp only [hkn] at T1
    simp only [hon] at T2
    simp only [htn] at T3
    clear htn hon hkn
    obtain ⟨m, hm⟩ : ∃ m, pageOf s.data.toList = m := ⟨_, rfl⟩
    have Y := pageOf_yes s h5
    have Nn := pageOf_no s
    rw [hm] at HM Y Nn
    have hex : ∀ n : Nat, (s.extract 24 (24 + n)) = ba ((s.data.toList.drop 24).take n) := fun n => by rw [extract_ba]
    obtain ⟨nn, hnn⟩ : ∃ n : Nat, Page.at_ s.data.toList 4 2 = n := ⟨_, rfl⟩
    simp only [hnn] at T0 HM Y Nn
    obtain ⟨body, hbody⟩ : ∃ b, ba ((s.data.toList.drop 24).take nn) = b := ⟨_, rfl⟩
    rw [hbody] at HM
    by_cases k1 : nn ≤ 488
    · have d1 : decide (488 < (nn : Int)) = false := decide_eq_false (by omega)
      have hsl : ∀ w, (Instr.slice 9 (.string s) (some (.int .i64 24)) (some (.int .i64 (24 + (nn : Int)))) none).run Try.prog w = .ok (.string body) w := fun w => by
        rw [run_slice_string w 9 s .i64 .i64 24 (24 + (nn : Int)) Try.underlying9 (by omega) (by omega) (by omega), show (24 : Int).toNat = 24 from rfl, show (24 + (nn : Int)).toNat = 24 + nn by omega, hex, hbody]
      have hwr : IntKind.i64.wrap (24 + (nn : Int)) = 24 + (nn : Int) := IntWalk.i64_in _ (by omega)
      have i1 : (24 : Int) + (nn : Int) ≤ (s.size : Int) := by omega
      have i2 : (24 : Int) ≤ 24 + (nn : Int) := by omega
      have PC := fun w => ppack_ok w m
      have hmv : m.val = .agg #[.int .i64 kn, .int .i64 on, .int .i64 tn, .string body] := by rw [HM.out]; rfl
      rw [hmv] at PC
      cases hr : m.right with
      | false =>
        have hE : m.packE = 4 := by unfold PV.packE; rw [hr]; rfl
        have HU := Lib.hid (Nn (by rw [hr]; simp))
        rw [hE] at PC
        obtain ⟨X, hX⟩ : ∃ X, m.packS = X := ⟨_, rfl⟩
        rw [hX] at PC
        have PC := fun w => Lib.hid (PC w)
        clear Y Nn hX hE hmv hr hm HM hex hbody hnn
        go_enter Try.func45, Try.ntmps45
        go_wp2_with fail
        refine (T0 _).out.mono ?_
        rintro _ _ ⟨rfl, rfl⟩
        go_upto_region 6 with fail
        go_cut [5] from 17 to 28 (fun p wx => p = .pointer (some ⟨w.heap.size + 1, 0, none⟩) ∧ wx = ((w.alloc (.cells #[.int .i64 0, .int .i64 0, .int .i64 0, .string ⟨#[]⟩] 51)).alloc (.cells #[.int .i64 kn, .int .i64 on, .int .i64 tn, .string body] 51)).drew)
        case first =>
          go_region_with (go_at_call 53; first | (go_fit (T1 _).out; rintro _ _ ⟨rfl, rfl⟩) | (go_fit (T2 _).out; rintro _ _ ⟨rfl, rfl⟩) | (go_fit (T3 _).out; rintro _ _ ⟨rfl, rfl⟩))
          all_goals (go_wp2_with fail; go_meet; exact ⟨rfl, rfl⟩)
        case rest =>
          obtain ⟨rfl, rfl⟩ := hcut
          go_wp2_with fail
          refine (PC _).out.mono ?_
          rintro _ w3 ⟨rfl, hb3⟩
          have hZ : Blk w3 w.heap.size #[.int .i64 0, .int .i64 0, .int .i64 0, .string ⟨#[]⟩] 51 := (hb3.block _ (by simp; omega)).trans ((Below.heap_alloc _ _ _ (by simp)).trans (heap_alloc_new w _))
          have hP : Blk w3 (w.heap.size + 1) #[.int .i64 kn, .int .i64 on, .int .i64 tn, .string body] 51 := (hb3.block _ (by simp)).trans (Blk.drew (by have := heap_alloc_new (w.alloc (.cells #[.int .i64 0, .int .i64 0, .int .i64 0, .string ⟨#[]⟩] 51)) (.cells #[.int .i64 kn, .int .i64 on, .int .i64 tn, .string body] 51); unfold Blk; simpa using this))
          have hB3 : Below w.heap.size w w3 := (hbl.alloc hbl.size (.cells #[.int .i64 kn, .int .i64 on, .int .i64 tn, .string body] 51)).drew.trans (hb3.mono (by simp; omega))
          have u0 : w3.cell? ⟨w.heap.size, 0, none⟩ = some (.int .i64 0) := hZ.cell 0
          have m0 := hZ.free 0
          have u1 : w3.cell? ⟨w.heap.size, 1, none⟩ = some (.int .i64 0) := hZ.cell 1
          have m1 := hZ.free 1
          have u2 : w3.cell? ⟨w.heap.size, 2, none⟩ = some (.int .i64 0) := hZ.cell 2
          have m2 := hZ.free 2
          have u3 : w3.cell? ⟨w.heap.size, 3, none⟩ = some (.string ⟨#[]⟩) := hZ.cell 3
          have m3 := hZ.free 3
          have hlt := hZ.lt
          have HZ := Lib.hid hZ
          have HB3 := Lib.hid hB3
          clear hZ hP hB3 hb3
          go_wp2
          refine bodyPost_ret (results_cell2 rfl _ _ w.heap.size 51 _ (0, 0) _ rfl ((((HZ.out.set 0 _).set 1 _).set 2 _).set 3 _) Try.underlying51 rfl (by kernel_rfl)) rfl ⟨?_, ((((HB3.out.setCell (p := ⟨w.heap.size, 0, none⟩) (Nat.le_refl _) _).setCell (p := ⟨w.heap.size, 1, none⟩) (Nat.le_refl _) _).setCell (p := ⟨w.heap.size, 2, none⟩) (Nat.le_refl _) _).setCell (p := ⟨w.heap.size, 3, none⟩) (Nat.le_refl _) _)⟩
          rw [HU.out.1, HU.out.2, N0.out]
          rfl
      | true =>
        have hE : m.packE = 0 := by unfold PV.packE; rw [hr]; rfl
        rw [hE] at PC
        by_cases hp : m.packS = s
        · have HU := Lib.hid (Y k1 hr hp)
          rw [hp] at PC
          have q1 : (s.toList == s.toList) = true := by simp
          have HV := Lib.hid hmv
          have PC := fun w => Lib.hid (PC w)
          clear Y Nn hE hmv hr hm HM hp hex hbody hnn
          go_enter Try.func45, Try.ntmps45
          go_wp2_with fail
          refine (T0 _).out.mono ?_
          rintro _ _ ⟨rfl, rfl⟩
          go_upto_region 6 with fail
          go_cut [5] from 17 to 28 (fun p wx => p = .pointer (some ⟨w.heap.size + 1, 0, none⟩) ∧ wx = ((w.alloc (.cells #[.int .i64 0, .int .i64 0, .int .i64 0, .string ⟨#[]⟩] 51)).alloc (.cells #[.int .i64 kn, .int .i64 on, .int .i64 tn, .string body] 51)).drew)
          case first =>
            go_region_with (go_at_call 53; first | (go_fit (T1 _).out; rintro _ _ ⟨rfl, rfl⟩) | (go_fit (T2 _).out; rintro _ _ ⟨rfl, rfl⟩) | (go_fit (T3 _).out; rintro _ _ ⟨rfl, rfl⟩))
            all_goals (go_wp2_with fail; go_meet; exact ⟨rfl, rfl⟩)
          case rest =>
            obtain ⟨rfl, rfl⟩ := hcut
            go_wp2_with fail
            refine (PC _).out.mono ?_
            rintro _ w3 ⟨rfl, hb3⟩
            have hZ : Blk w3 w.heap.size #[.int .i64 0, .int .i64 0, .int .i64 0, .string ⟨#[]⟩] 51 := (hb3.block _ (by simp; omega)).trans ((Below.heap_alloc _ _ _ (by simp)).trans (heap_alloc_new w _))
            have hP : Blk w3 (w.heap.size + 1) #[.int .i64 kn, .int .i64 on, .int .i64 tn, .string body] 51 := (hb3.block _ (by simp)).trans (Blk.drew (by have := heap_alloc_new (w.alloc (.cells #[.int .i64 0, .int .i64 0, .int .i64 0, .string ⟨#[]⟩] 51)) (.cells #[.int .i64 kn, .int .i64 on, .int .i64 tn, .string body] 51); unfold Blk; simpa using this))
            have hB3 : Below w.heap.size w w3 := (hbl.alloc hbl.size (.cells #[.int .i64 kn, .int .i64 on, .int .i64 tn, .string body] 51)).drew.trans (hb3.mono (by simp; omega))
            have u0 : w3.cell? ⟨w.heap.size, 0, none⟩ = some (.int .i64 0) := hZ.cell 0
            have v0 : w3.cell? ⟨w.heap.size + 1, 0, none⟩ = some (.int .i64 kn) := hP.cell 0
            have m0 := hZ.free 0
            have u1 : w3.cell? ⟨w.heap.size, 1, none⟩ = some (.int .i64 0) := hZ.cell 1
            have v1 : w3.cell? ⟨w.heap.size + 1, 1, none⟩ = some (.int .i64 on) := hP.cell 1
            have m1 := hZ.free 1
            have u2 : w3.cell? ⟨w.heap.size, 2, none⟩ = some (.int .i64 0) := hZ.cell 2
            have v2 : w3.cell? ⟨w.heap.size + 1, 2, none⟩ = some (.int .i64 tn) := hP.cell 2
            have m2 := hZ.free 2
            have u3 : w3.cell? ⟨w.heap.size, 3, none⟩ = some (.string ⟨#[]⟩) := hZ.cell 3
            have v3 : w3.cell? ⟨w.heap.size + 1, 3, none⟩ = some (.string body) := hP.cell 3
            have m3 := hZ.free 3
            have hlt := hZ.lt
            have HZ := Lib.hid hZ
            have HB3 := Lib.hid hB3
            clear hZ hP hB3 hb3
            go_wp2
            refine bodyPost_ret (results_cell2 rfl _ _ w.heap.size 51 _ (0, 0) _ rfl ((((HZ.out.set 0 _).set 1 _).set 2 _).set 3 _) Try.underlying51 rfl (by kernel_rfl)) rfl ⟨?_, ((((HB3.out.setCell (p := ⟨w.heap.size, 0, none⟩) (Nat.le_refl _) _).setCell (p := ⟨w.heap.size, 1, none⟩) (Nat.le_refl _) _).setCell (p := ⟨w.heap.size, 2, none⟩) (Nat.le_refl _) _).setCell (p := ⟨w.heap.size, 3, none⟩) (Nat.le_refl _) _)⟩
            rw [HU.out.1, HU.out.2, HV.out]
            rfl
        · have HU := Lib.hid (Nn (by intro h; exact hp h.2.2))
          have q1 := neq_toList hp
          obtain ⟨X, hX⟩ : ∃ X, m.packS = X := ⟨_, rfl⟩
          rw [hX] at PC q1
          have PC := fun w => Lib.hid (PC w)
          clear Y Nn hE hmv hr hm HM hp hX hex hbody hnn
          go_enter Try.func45, Try.ntmps45
          go_wp2_with fail
          refine (T0 _).out.mono ?_
          rintro _ _ ⟨rfl, rfl⟩
          go_upto_region 6 with fail
          go_cut [5] from 17 to 28 (fun p wx => p = .pointer (some ⟨w.heap.size + 1, 0, none⟩) ∧ wx = ((w.alloc (.cells #[.int .i64 0, .int .i64 0, .int .i64 0, .string ⟨#[]⟩] 51)).alloc (.cells #[.int .i64 kn, .int .i64 on, .int .i64 tn, .string body] 51)).drew)
          case first =>
            go_region_with (go_at_call 53; first | (go_fit (T1 _).out; rintro _ _ ⟨rfl, rfl⟩) | (go_fit (T2 _).out; rintro _ _ ⟨rfl, rfl⟩) | (go_fit (T3 _).out; rintro _ _ ⟨rfl, rfl⟩))
            all_goals (go_wp2_with fail; go_meet; exact ⟨rfl, rfl⟩)
          case rest =>
            obtain ⟨rfl, rfl⟩ := hcut
            go_wp2_with fail
            refine (PC _).out.mono ?_
            rintro _ w3 ⟨rfl, hb3⟩
            have hZ : Blk w3 w.heap.size #[.int .i64 0, .int .i64 0, .int .i64 0, .string ⟨#[]⟩] 51 := (hb3.block _ (by simp; omega)).trans ((Below.heap_alloc _ _ _ (by simp)).trans (heap_alloc_new w _))
            have hP : Blk w3 (w.heap.size + 1) #[.int .i64 kn, .int .i64 on, .int .i64 tn, .string body] 51 := (hb3.block _ (by simp)).trans (Blk.drew (by have := heap_alloc_new (w.alloc (.cells #[.int .i64 0, .int .i64 0, .int .i64 0, .string ⟨#[]⟩] 51)) (.cells #[.int .i64 kn, .int .i64 on, .int .i64 tn, .string body] 51); unfold Blk; simpa using this))
            have hB3 : Below w.heap.size w w3 := (hbl.alloc hbl.size (.cells #[.int .i64 kn, .int .i64 on, .int .i64 tn, .string body] 51)).drew.trans (hb3.mono (by simp; omega))
            have u0 : w3.cell? ⟨w.heap.size, 0, none⟩ = some (.int .i64 0) := hZ.cell 0
            have m0 := hZ.free 0
            have u1 : w3.cell? ⟨w.heap.size, 1, none⟩ = some (.int .i64 0) := hZ.cell 1
            have m1 := hZ.free 1
            have u2 : w3.cell? ⟨w.heap.size, 2, none⟩ = some (.int .i64 0) := hZ.cell 2
            have m2 := hZ.free 2
            have u3 : w3.cell? ⟨w.heap.size, 3, none⟩ = some (.string ⟨#[]⟩) := hZ.cell 3
            have m3 := hZ.free 3
            have hlt := hZ.lt
            have HZ := Lib.hid hZ
            have HB3 := Lib.hid hB3
            clear hZ hP hB3 hb3
            go_wp2
            refine bodyPost_ret (results_cell2 rfl _ _ w.heap.size 51 _ (0, 0) _ rfl ((((HZ.out.set 0 _).set 1 _).set 2 _).set 3 _) Try.underlying51 rfl (by kernel_rfl)) rfl ⟨?_, ((((HB3.out.setCell (p := ⟨w.heap.size, 0, none⟩) (Nat.le_refl _) _).setCell (p := ⟨w.heap.size, 1, none⟩) (Nat.le_refl _) _).setCell (p := ⟨w.heap.size, 2, none⟩) (Nat.le_refl _) _).setCell (p := ⟨w.heap.size, 3, none⟩) (Nat.le_refl _) _)⟩
            rw [HU.out.1, HU.out.2, N0.out]
            rfl
    · have d1 : decide (488 < (nn : Int)) = true := decide_eq_true (by omega)
      have HU := Lib.hid (Nn (by intro h; exact k1 h.1))
      clear Y Nn hm HM hex hbody hnn
      go_enter Try.func45, Try.ntmps45
      go_wp2_with fail
      refine (T0 _).out.mono ?_
      rintro _ _ ⟨rfl, rfl⟩
      go_wp2
      refine bodyPost_ret (results_cell2 rfl _ _ w.heap.size 51 _ (0, 0) _ rfl (heap_alloc_new w _) Try.underlying51 rfl (by kernel_rfl)) rfl ⟨?_, hbl⟩
      rw [HU.out.1, HU.out.2, N0.out]
      rfl
  · have d0 : ((s.size : Int) != 512) = true := by simp; omega
    obtain ⟨U1, U2⟩ := runpack_not s (Page.read_long _ (by rw [list_size]; exact h5))
    have HU := Lib.hid (And.intro U1 U2)
    clear U1 U2 h5
    go_enter Try.func45, Try.ntmps45
    go_wp2
    refine bodyPost_ret (results_cell2 rfl _ _ w.heap.size 51 _ (0, 0) _ rfl (heap_alloc_new w _) Try.underlying51 rfl (by kernel_rfl)) rfl ⟨?_, hbl⟩
    rw [HU.out.1, HU.out.2, N0.out]
    rfl
end Go.Proofs.Ytjgmlpfallakmaa
end
section
namespace Go.Proofs.Ytjgmlpfallakmaa
open Go.RowKit
set_option maxRecDepth 4000 in
set_option maxHeartbeats 800000 in
theorem pnewest_f (w : World) (a b : ByteArray) (xt xr xf xp xl yt yr yf yp yl e f : Int)
    (XC : ∀ w, Hid (Calls Try.prog 44 #[.string a] w fun e' w' => e' = .returned (.tuple #[.agg #[.int .i64 xt, .int .i64 xr, .int .i64 xf, .int .i64 xp, .int .i64 xl], .int .i64 e]) ∧ Below w.heap.size w w'))
    (YC : ∀ w, Hid (Calls Try.prog 44 #[.string b] w fun e' w' => e' = .returned (.tuple #[.agg #[.int .i64 yt, .int .i64 yr, .int .i64 yf, .int .i64 yp, .int .i64 yl], .int .i64 f]) ∧ Below w.heap.size w w'))
    (d2 : (f != 0) = true) :
    Calls Try.prog 22 #[.string a, .string b] w fun e' w' => e' = .returned (.tuple #[.agg #[.int .i64 xt, .int .i64 xr, .int .i64 xf, .int .i64 xp, .int .i64 xl], .int .i64 0, .int .i64 e]) ∧ Below w.heap.size w w' := by
  have hz : ∀ w, (zeroValue 32).run Try.prog w = .ok (.agg #[.int .i64 0, .int .i64 0, .int .i64 0, .int .i64 0, .int .i64 0]) w := fun w => by kernel_rfl
  go_enter Try.func22, Try.ntmps22
  go_wp2_with fail
  refine (XC _).out.mono ?_
  rintro _ w2 ⟨rfl, hb2⟩
  go_wp2_with fail
  refine (YC _).out.mono ?_
  rintro _ w3 ⟨rfl, hb3⟩
  have n2 := hb2.size
  have n3 := hb3.size
  rw [show (w.alloc (.cells #[.int .i64 0, .int .i64 0, .int .i64 0, .int .i64 0, .int .i64 0] 32)).heap.size = w.heap.size + 1 by simp] at n2
  rw [show (w2.alloc (.cells #[.int .i64 xt, .int .i64 xr, .int .i64 xf, .int .i64 xp, .int .i64 xl] 32)).heap.size = w2.heap.size + 1 by simp] at n3
  have hZ2 : Blk w2 w.heap.size #[.int .i64 0, .int .i64 0, .int .i64 0, .int .i64 0, .int .i64 0] 32 := (hb2.block _ (by simp)).trans (heap_alloc_new w _)
  have hZ : Blk w3 w.heap.size #[.int .i64 0, .int .i64 0, .int .i64 0, .int .i64 0, .int .i64 0] 32 := (hb3.block _ (by simp; omega)).trans (hZ2.alloc (.cells #[.int .i64 xt, .int .i64 xr, .int .i64 xf, .int .i64 xp, .int .i64 xl] 32))
  have hX : Blk w3 w2.heap.size #[.int .i64 xt, .int .i64 xr, .int .i64 xf, .int .i64 xp, .int .i64 xl] 32 := (hb3.block _ (by simp)).trans (heap_alloc_new w2 _)
  have B2 : Below w.heap.size w w2 := ((Below.refl _ w).alloc (Nat.le_refl _) (.cells #[.int .i64 0, .int .i64 0, .int .i64 0, .int .i64 0, .int .i64 0] 32)).trans (hb2.mono (by simp))
  have B3 : Below w.heap.size w w3 := (B2.alloc B2.size (.cells #[.int .i64 xt, .int .i64 xr, .int .i64 xf, .int .i64 xp, .int .i64 xl] 32)).trans (hb3.mono (by simp; omega))
  have u0 : w3.cell? ⟨w.heap.size, 0, none⟩ = some (.int .i64 0) := hZ.cell 0
  have v0 : w3.cell? ⟨w2.heap.size, 0, none⟩ = some (.int .i64 xt) := hX.cell 0
  have m0 := hZ.free 0
  have u1 : w3.cell? ⟨w.heap.size, 1, none⟩ = some (.int .i64 0) := hZ.cell 1
  have v1 : w3.cell? ⟨w2.heap.size, 1, none⟩ = some (.int .i64 xr) := hX.cell 1
  have m1 := hZ.free 1
  have u2 : w3.cell? ⟨w.heap.size, 2, none⟩ = some (.int .i64 0) := hZ.cell 2
  have v2 : w3.cell? ⟨w2.heap.size, 2, none⟩ = some (.int .i64 xf) := hX.cell 2
  have m2 := hZ.free 2
  have u3 : w3.cell? ⟨w.heap.size, 3, none⟩ = some (.int .i64 0) := hZ.cell 3
  have v3 : w3.cell? ⟨w2.heap.size, 3, none⟩ = some (.int .i64 xp) := hX.cell 3
  have m3 := hZ.free 3
  have u4 : w3.cell? ⟨w.heap.size, 4, none⟩ = some (.int .i64 0) := hZ.cell 4
  have v4 : w3.cell? ⟨w2.heap.size, 4, none⟩ = some (.int .i64 xl) := hX.cell 4
  have m4 := hZ.free 4
  have l2 : w2.heap.size < w3.heap.size := by omega
  have l1 : w.heap.size < w3.heap.size := by omega
  have HB := Lib.hid B3
  have HZ := Lib.hid hZ
  have l3 : w.heap.size < w3.heap.size + 1 := by omega
  clear n2 n3 hZ2 hZ hX B2 B3 hb2 hb3
  go_wp2
  obtain ⟨hS, hB⟩ := stored5 HZ.out HB.out (.int .i64 xt) (.int .i64 xr) (.int .i64 xf) (.int .i64 xp) (.int .i64 xl)
  refine bodyPost_ret (results_cell3 rfl _ _ w.heap.size 32 _ (0, 0) _ rfl (hS.alloc (.cells #[.int .i64 yt, .int .i64 yr, .int .i64 yf, .int .i64 yp, .int .i64 yl] 32)) Try.underlying32 rfl (by kernel_rfl)) rfl ⟨by rfl, hB.alloc hB.size (.cells #[.int .i64 yt, .int .i64 yr, .int .i64 yf, .int .i64 yp, .int .i64 yl] 32)⟩
set_option maxRecDepth 4000 in
set_option maxHeartbeats 800000 in
theorem pnewest_e (w : World) (a b : ByteArray) (xt xr xf xp xl yt yr yf yp yl e f : Int)
    (XC : ∀ w, Hid (Calls Try.prog 44 #[.string a] w fun e' w' => e' = .returned (.tuple #[.agg #[.int .i64 xt, .int .i64 xr, .int .i64 xf, .int .i64 xp, .int .i64 xl], .int .i64 e]) ∧ Below w.heap.size w w'))
    (YC : ∀ w, Hid (Calls Try.prog 44 #[.string b] w fun e' w' => e' = .returned (.tuple #[.agg #[.int .i64 yt, .int .i64 yr, .int .i64 yf, .int .i64 yp, .int .i64 yl], .int .i64 f]) ∧ Below w.heap.size w w'))
    (d2 : (f != 0) = false) (d1 : (e != 0) = true) :
    Calls Try.prog 22 #[.string a, .string b] w fun e' w' => e' = .returned (.tuple #[.agg #[.int .i64 yt, .int .i64 yr, .int .i64 yf, .int .i64 yp, .int .i64 yl], .int .i64 1, .int .i64 0]) ∧ Below w.heap.size w w' := by
  have hz : ∀ w, (zeroValue 32).run Try.prog w = .ok (.agg #[.int .i64 0, .int .i64 0, .int .i64 0, .int .i64 0, .int .i64 0]) w := fun w => by kernel_rfl
  go_enter Try.func22, Try.ntmps22
  go_wp2_with fail
  refine (XC _).out.mono ?_
  rintro _ w2 ⟨rfl, hb2⟩
  go_wp2_with fail
  refine (YC _).out.mono ?_
  rintro _ w3 ⟨rfl, hb3⟩
  have n2 := hb2.size
  have n3 := hb3.size
  rw [show (w.alloc (.cells #[.int .i64 0, .int .i64 0, .int .i64 0, .int .i64 0, .int .i64 0] 32)).heap.size = w.heap.size + 1 by simp] at n2
  rw [show (w2.alloc (.cells #[.int .i64 xt, .int .i64 xr, .int .i64 xf, .int .i64 xp, .int .i64 xl] 32)).heap.size = w2.heap.size + 1 by simp] at n3
  have hZ2 : Blk w2 w.heap.size #[.int .i64 0, .int .i64 0, .int .i64 0, .int .i64 0, .int .i64 0] 32 := (hb2.block _ (by simp)).trans (heap_alloc_new w _)
  have hZ : Blk w3 w.heap.size #[.int .i64 0, .int .i64 0, .int .i64 0, .int .i64 0, .int .i64 0] 32 := (hb3.block _ (by simp; omega)).trans (hZ2.alloc (.cells #[.int .i64 xt, .int .i64 xr, .int .i64 xf, .int .i64 xp, .int .i64 xl] 32))
  have hX : Blk w3 w2.heap.size #[.int .i64 xt, .int .i64 xr, .int .i64 xf, .int .i64 xp, .int .i64 xl] 32 := (hb3.block _ (by simp)).trans (heap_alloc_new w2 _)
  have B2 : Below w.heap.size w w2 := ((Below.refl _ w).alloc (Nat.le_refl _) (.cells #[.int .i64 0, .int .i64 0, .int .i64 0, .int .i64 0, .int .i64 0] 32)).trans (hb2.mono (by simp))
  have B3 : Below w.heap.size w w3 := (B2.alloc B2.size (.cells #[.int .i64 xt, .int .i64 xr, .int .i64 xf, .int .i64 xp, .int .i64 xl] 32)).trans (hb3.mono (by simp; omega))
  have u0 : w3.cell? ⟨w.heap.size, 0, none⟩ = some (.int .i64 0) := hZ.cell 0
  have v0 : w3.cell? ⟨w2.heap.size, 0, none⟩ = some (.int .i64 xt) := hX.cell 0
  have m0 := hZ.free 0
  have u1 : w3.cell? ⟨w.heap.size, 1, none⟩ = some (.int .i64 0) := hZ.cell 1
  have v1 : w3.cell? ⟨w2.heap.size, 1, none⟩ = some (.int .i64 xr) := hX.cell 1
  have m1 := hZ.free 1
  have u2 : w3.cell? ⟨w.heap.size, 2, none⟩ = some (.int .i64 0) := hZ.cell 2
  have v2 : w3.cell? ⟨w2.heap.size, 2, none⟩ = some (.int .i64 xf) := hX.cell 2
  have m2 := hZ.free 2
  have u3 : w3.cell? ⟨w.heap.size, 3, none⟩ = some (.int .i64 0) := hZ.cell 3
  have v3 : w3.cell? ⟨w2.heap.size, 3, none⟩ = some (.int .i64 xp) := hX.cell 3
  have m3 := hZ.free 3
  have u4 : w3.cell? ⟨w.heap.size, 4, none⟩ = some (.int .i64 0) := hZ.cell 4
  have v4 : w3.cell? ⟨w2.heap.size, 4, none⟩ = some (.int .i64 xl) := hX.cell 4
  have m4 := hZ.free 4
  have l2 : w2.heap.size < w3.heap.size := by omega
  have l1 : w.heap.size < w3.heap.size := by omega
  have HB := Lib.hid B3
  have HZ := Lib.hid hZ
  have l3 : w.heap.size < w3.heap.size + 1 := by omega
  clear n2 n3 hZ2 hZ hX B2 B3 hb2 hb3
  go_wp2
  obtain ⟨hS, hB⟩ := stored5 HZ.out HB.out (.int .i64 yt) (.int .i64 yr) (.int .i64 yf) (.int .i64 yp) (.int .i64 yl)
  refine bodyPost_ret (results_cell3 rfl _ _ w.heap.size 32 _ (0, 0) _ rfl (hS.alloc (.cells #[.int .i64 yt, .int .i64 yr, .int .i64 yf, .int .i64 yp, .int .i64 yl] 32)) Try.underlying32 rfl (by kernel_rfl)) rfl ⟨by rfl, hB.alloc hB.size (.cells #[.int .i64 yt, .int .i64 yr, .int .i64 yf, .int .i64 yp, .int .i64 yl] 32)⟩
set_option maxRecDepth 4000 in
set_option maxHeartbeats 800000 in
theorem pnewest_gt (w : World) (a b : ByteArray) (xt xr xf xp xl yt yr yf yp yl e f : Int)
    (XC : ∀ w, Hid (Calls Try.prog 44 #[.string a] w fun e' w' => e' = .returned (.tuple #[.agg #[.int .i64 xt, .int .i64 xr, .int .i64 xf, .int .i64 xp, .int .i64 xl], .int .i64 e]) ∧ Below w.heap.size w w'))
    (YC : ∀ w, Hid (Calls Try.prog 44 #[.string b] w fun e' w' => e' = .returned (.tuple #[.agg #[.int .i64 yt, .int .i64 yr, .int .i64 yf, .int .i64 yp, .int .i64 yl], .int .i64 f]) ∧ Below w.heap.size w w'))
    (d2 : (f != 0) = false) (d1 : (e != 0) = false) (d3 : decide (xt < yt) = true) :
    Calls Try.prog 22 #[.string a, .string b] w fun e' w' => e' = .returned (.tuple #[.agg #[.int .i64 yt, .int .i64 yr, .int .i64 yf, .int .i64 yp, .int .i64 yl], .int .i64 1, .int .i64 0]) ∧ Below w.heap.size w w' := by
  have hz : ∀ w, (zeroValue 32).run Try.prog w = .ok (.agg #[.int .i64 0, .int .i64 0, .int .i64 0, .int .i64 0, .int .i64 0]) w := fun w => by kernel_rfl
  go_enter Try.func22, Try.ntmps22
  go_wp2_with fail
  refine (XC _).out.mono ?_
  rintro _ w2 ⟨rfl, hb2⟩
  go_wp2_with fail
  refine (YC _).out.mono ?_
  rintro _ w3 ⟨rfl, hb3⟩
  have n2 := hb2.size
  have n3 := hb3.size
  rw [show (w.alloc (.cells #[.int .i64 0, .int .i64 0, .int .i64 0, .int .i64 0, .int .i64 0] 32)).heap.size = w.heap.size + 1 by simp] at n2
  rw [show (w2.alloc (.cells #[.int .i64 xt, .int .i64 xr, .int .i64 xf, .int .i64 xp, .int .i64 xl] 32)).heap.size = w2.heap.size + 1 by simp] at n3
  have hZ2 : Blk w2 w.heap.size #[.int .i64 0, .int .i64 0, .int .i64 0, .int .i64 0, .int .i64 0] 32 := (hb2.block _ (by simp)).trans (heap_alloc_new w _)
  have hZ : Blk w3 w.heap.size #[.int .i64 0, .int .i64 0, .int .i64 0, .int .i64 0, .int .i64 0] 32 := (hb3.block _ (by simp; omega)).trans (hZ2.alloc (.cells #[.int .i64 xt, .int .i64 xr, .int .i64 xf, .int .i64 xp, .int .i64 xl] 32))
  have hX : Blk w3 w2.heap.size #[.int .i64 xt, .int .i64 xr, .int .i64 xf, .int .i64 xp, .int .i64 xl] 32 := (hb3.block _ (by simp)).trans (heap_alloc_new w2 _)
  have B2 : Below w.heap.size w w2 := ((Below.refl _ w).alloc (Nat.le_refl _) (.cells #[.int .i64 0, .int .i64 0, .int .i64 0, .int .i64 0, .int .i64 0] 32)).trans (hb2.mono (by simp))
  have B3 : Below w.heap.size w w3 := (B2.alloc B2.size (.cells #[.int .i64 xt, .int .i64 xr, .int .i64 xf, .int .i64 xp, .int .i64 xl] 32)).trans (hb3.mono (by simp; omega))
  have u0 : w3.cell? ⟨w.heap.size, 0, none⟩ = some (.int .i64 0) := hZ.cell 0
  have v0 : w3.cell? ⟨w2.heap.size, 0, none⟩ = some (.int .i64 xt) := hX.cell 0
  have m0 := hZ.free 0
  have u1 : w3.cell? ⟨w.heap.size, 1, none⟩ = some (.int .i64 0) := hZ.cell 1
  have v1 : w3.cell? ⟨w2.heap.size, 1, none⟩ = some (.int .i64 xr) := hX.cell 1
  have m1 := hZ.free 1
  have u2 : w3.cell? ⟨w.heap.size, 2, none⟩ = some (.int .i64 0) := hZ.cell 2
  have v2 : w3.cell? ⟨w2.heap.size, 2, none⟩ = some (.int .i64 xf) := hX.cell 2
  have m2 := hZ.free 2
  have u3 : w3.cell? ⟨w.heap.size, 3, none⟩ = some (.int .i64 0) := hZ.cell 3
  have v3 : w3.cell? ⟨w2.heap.size, 3, none⟩ = some (.int .i64 xp) := hX.cell 3
  have m3 := hZ.free 3
  have u4 : w3.cell? ⟨w.heap.size, 4, none⟩ = some (.int .i64 0) := hZ.cell 4
  have v4 : w3.cell? ⟨w2.heap.size, 4, none⟩ = some (.int .i64 xl) := hX.cell 4
  have m4 := hZ.free 4
  have l2 : w2.heap.size < w3.heap.size := by omega
  have l1 : w.heap.size < w3.heap.size := by omega
  have HB := Lib.hid B3
  have HZ := Lib.hid hZ
  have l3 : w.heap.size < w3.heap.size + 1 := by omega
  clear n2 n3 hZ2 hZ hX B2 B3 hb2 hb3
  go_wp2
  obtain ⟨hS, hB⟩ := stored5 HZ.out HB.out (.int .i64 yt) (.int .i64 yr) (.int .i64 yf) (.int .i64 yp) (.int .i64 yl)
  refine bodyPost_ret (results_cell3 rfl _ _ w.heap.size 32 _ (0, 0) _ rfl (hS.alloc (.cells #[.int .i64 yt, .int .i64 yr, .int .i64 yf, .int .i64 yp, .int .i64 yl] 32)) Try.underlying32 rfl (by kernel_rfl)) rfl ⟨by rfl, hB.alloc hB.size (.cells #[.int .i64 yt, .int .i64 yr, .int .i64 yf, .int .i64 yp, .int .i64 yl] 32)⟩
set_option maxRecDepth 4000 in
set_option maxHeartbeats 800000 in
theorem pnewest_le (w : World) (a b : ByteArray) (xt xr xf xp xl yt yr yf yp yl e f : Int)
    (XC : ∀ w, Hid (Calls Try.prog 44 #[.string a] w fun e' w' => e' = .returned (.tuple #[.agg #[.int .i64 xt, .int .i64 xr, .int .i64 xf, .int .i64 xp, .int .i64 xl], .int .i64 e]) ∧ Below w.heap.size w w'))
    (YC : ∀ w, Hid (Calls Try.prog 44 #[.string b] w fun e' w' => e' = .returned (.tuple #[.agg #[.int .i64 yt, .int .i64 yr, .int .i64 yf, .int .i64 yp, .int .i64 yl], .int .i64 f]) ∧ Below w.heap.size w w'))
    (d2 : (f != 0) = false) (d1 : (e != 0) = false) (d3 : decide (xt < yt) = false) :
    Calls Try.prog 22 #[.string a, .string b] w fun e' w' => e' = .returned (.tuple #[.agg #[.int .i64 xt, .int .i64 xr, .int .i64 xf, .int .i64 xp, .int .i64 xl], .int .i64 0, .int .i64 0]) ∧ Below w.heap.size w w' := by
  have hz : ∀ w, (zeroValue 32).run Try.prog w = .ok (.agg #[.int .i64 0, .int .i64 0, .int .i64 0, .int .i64 0, .int .i64 0]) w := fun w => by kernel_rfl
  go_enter Try.func22, Try.ntmps22
  go_wp2_with fail
  refine (XC _).out.mono ?_
  rintro _ w2 ⟨rfl, hb2⟩
  go_wp2_with fail
  refine (YC _).out.mono ?_
  rintro _ w3 ⟨rfl, hb3⟩
  have n2 := hb2.size
  have n3 := hb3.size
  rw [show (w.alloc (.cells #[.int .i64 0, .int .i64 0, .int .i64 0, .int .i64 0, .int .i64 0] 32)).heap.size = w.heap.size + 1 by simp] at n2
  rw [show (w2.alloc (.cells #[.int .i64 xt, .int .i64 xr, .int .i64 xf, .int .i64 xp, .int .i64 xl] 32)).heap.size = w2.heap.size + 1 by simp] at n3
  have hZ2 : Blk w2 w.heap.size #[.int .i64 0, .int .i64 0, .int .i64 0, .int .i64 0, .int .i64 0] 32 := (hb2.block _ (by simp)).trans (heap_alloc_new w _)
  have hZ : Blk w3 w.heap.size #[.int .i64 0, .int .i64 0, .int .i64 0, .int .i64 0, .int .i64 0] 32 := (hb3.block _ (by simp; omega)).trans (hZ2.alloc (.cells #[.int .i64 xt, .int .i64 xr, .int .i64 xf, .int .i64 xp, .int .i64 xl] 32))
  have hX : Blk w3 w2.heap.size #[.int .i64 xt, .int .i64 xr, .int .i64 xf, .int .i64 xp, .int .i64 xl] 32 := (hb3.block _ (by simp)).trans (heap_alloc_new w2 _)
  have B2 : Below w.heap.size w w2 := ((Below.refl _ w).alloc (Nat.le_refl _) (.cells #[.int .i64 0, .int .i64 0, .int .i64 0, .int .i64 0, .int .i64 0] 32)).trans (hb2.mono (by simp))
  have B3 : Below w.heap.size w w3 := (B2.alloc B2.size (.cells #[.int .i64 xt, .int .i64 xr, .int .i64 xf, .int .i64 xp, .int .i64 xl] 32)).trans (hb3.mono (by simp; omega))
  have u0 : w3.cell? ⟨w.heap.size, 0, none⟩ = some (.int .i64 0) := hZ.cell 0
  have v0 : w3.cell? ⟨w2.heap.size, 0, none⟩ = some (.int .i64 xt) := hX.cell 0
  have m0 := hZ.free 0
  have u1 : w3.cell? ⟨w.heap.size, 1, none⟩ = some (.int .i64 0) := hZ.cell 1
  have v1 : w3.cell? ⟨w2.heap.size, 1, none⟩ = some (.int .i64 xr) := hX.cell 1
  have m1 := hZ.free 1
  have u2 : w3.cell? ⟨w.heap.size, 2, none⟩ = some (.int .i64 0) := hZ.cell 2
  have v2 : w3.cell? ⟨w2.heap.size, 2, none⟩ = some (.int .i64 xf) := hX.cell 2
  have m2 := hZ.free 2
  have u3 : w3.cell? ⟨w.heap.size, 3, none⟩ = some (.int .i64 0) := hZ.cell 3
  have v3 : w3.cell? ⟨w2.heap.size, 3, none⟩ = some (.int .i64 xp) := hX.cell 3
  have m3 := hZ.free 3
  have u4 : w3.cell? ⟨w.heap.size, 4, none⟩ = some (.int .i64 0) := hZ.cell 4
  have v4 : w3.cell? ⟨w2.heap.size, 4, none⟩ = some (.int .i64 xl) := hX.cell 4
  have m4 := hZ.free 4
  have l2 : w2.heap.size < w3.heap.size := by omega
  have l1 : w.heap.size < w3.heap.size := by omega
  have HB := Lib.hid B3
  have HZ := Lib.hid hZ
  have l3 : w.heap.size < w3.heap.size + 1 := by omega
  clear n2 n3 hZ2 hZ hX B2 B3 hb2 hb3
  go_wp2
  obtain ⟨hS, hB⟩ := stored5 HZ.out HB.out (.int .i64 xt) (.int .i64 xr) (.int .i64 xf) (.int .i64 xp) (.int .i64 xl)
  refine bodyPost_ret (results_cell3 rfl _ _ w.heap.size 32 _ (0, 0) _ rfl (hS.alloc (.cells #[.int .i64 yt, .int .i64 yr, .int .i64 yf, .int .i64 yp, .int .i64 yl] 32)) Try.underlying32 rfl (by kernel_rfl)) rfl ⟨by rfl, hB.alloc hB.size (.cells #[.int .i64 yt, .int .i64 yr, .int .i64 yf, .int .i64 yp, .int .i64 yl] 32)⟩
theorem pnewest_ok (w : World) (a b : ByteArray) (ha2 : a.size ≤ 2000) (hb2 : b.size ≤ 2000) : Calls Try.prog 22 #[.string a, .string b] w fun e w' => e = .returned (.tuple #[(newestM a b).val, .int .i64 (newestI a b), .int .i64 (newestE a b)]) ∧ Below w.heap.size w w' := by
  have XC := fun w => Lib.hid (punpackM_ok w a ha2)
  have YC := fun w => Lib.hid (punpackM_ok w b hb2)
  cases ha : Page.readM a.data.toList with
  | none =>
    obtain ⟨x1, x2⟩ := runpackM_not a ha
    simp only [x1, x2] at XC
    cases hb : Page.readM b.data.toList with
    | none =>
      obtain ⟨y1, y2⟩ := runpackM_not b hb
      simp only [y1, y2] at YC
      have hn : Page.newest a.data.toList b.data.toList = none := by unfold Page.newest; rw [ha, hb]
      have e1 : newestM a b = MV.none ∧ newestI a b = 0 ∧ newestE a b = 4 := by unfold newestM newestI newestE; rw [hn]; exact ⟨rfl, rfl, rfl⟩
      rw [e1.1, e1.2.1, e1.2.2]
      exact pnewest_f w a b _ _ _ _ _ _ _ _ _ _ _ _ XC YC rfl
    | some q =>
      have y1 : unpackM b = ofME q ∧ unpackME b = 0 := by unfold unpackM unpackME; rw [hb]; exact ⟨rfl, rfl⟩
      simp only [y1.1, y1.2] at YC
      have hn : Page.newest a.data.toList b.data.toList = some (q, 1) := by unfold Page.newest; rw [ha, hb]
      have e1 : newestM a b = ofME q ∧ newestI a b = 1 ∧ newestE a b = 0 := by unfold newestM newestI newestE; rw [hn]; exact ⟨rfl, rfl, rfl⟩
      rw [e1.1, e1.2.1, e1.2.2]
      exact pnewest_e w a b _ _ _ _ _ _ _ _ _ _ _ _ XC YC rfl rfl
  | some p =>
    have x1 : unpackM a = ofME p ∧ unpackME a = 0 := by unfold unpackM unpackME; rw [ha]; exact ⟨rfl, rfl⟩
    simp only [x1.1, x1.2] at XC
    cases hb : Page.readM b.data.toList with
    | none =>
      obtain ⟨y1, y2⟩ := runpackM_not b hb
      simp only [y1, y2] at YC
      have hn : Page.newest a.data.toList b.data.toList = some (p, 0) := by unfold Page.newest; rw [ha, hb]
      have e1 : newestM a b = ofME p ∧ newestI a b = 0 ∧ newestE a b = 0 := by unfold newestM newestI newestE; rw [hn]; exact ⟨rfl, rfl, rfl⟩
      rw [e1.1, e1.2.1, e1.2.2]
      exact pnewest_f w a b _ _ _ _ _ _ _ _ _ _ _ _ XC YC rfl
    | some q =>
      have y1 : unpackM b = ofME q ∧ unpackME b = 0 := by unfold unpackM unpackME; rw [hb]; exact ⟨rfl, rfl⟩
      simp only [y1.1, y1.2] at YC
      by_cases hlt : p.txn < q.txn
      · have hn : Page.newest a.data.toList b.data.toList = some (q, 1) := by unfold Page.newest; rw [ha, hb]; simp only [if_pos hlt]
        have e1 : newestM a b = ofME q ∧ newestI a b = 1 ∧ newestE a b = 0 := by unfold newestM newestI newestE; rw [hn]; exact ⟨rfl, rfl, rfl⟩
        rw [e1.1, e1.2.1, e1.2.2]
        exact pnewest_gt w a b _ _ _ _ _ _ _ _ _ _ _ _ XC YC rfl rfl (decide_eq_true (by show (p.txn : Int) < q.txn; omega))
      · have hn : Page.newest a.data.toList b.data.toList = some (p, 0) := by unfold Page.newest; rw [ha, hb]; simp only [if_neg hlt]
        have e1 : newestM a b = ofME p ∧ newestI a b = 0 ∧ newestE a b = 0 := by unfold newestM newestI newestE; rw [hn]; exact ⟨rfl, rfl, rfl⟩
        rw [e1.1, e1.2.1, e1.2.2]
        exact pnewest_le w a b _ _ _ _ _ _ _ _ _ _ _ _ XC YC rfl rfl (decide_eq_false (by show ¬ (p.txn : Int) < q.txn; omega))
/-- the landed functions answer so -/
theorem thePage : PageKit 54 46 45 33 48 44 22 where
  right := pright_ok
  pack := fun w p _ => ppack_ok w p
  unpack := punpack_ok
  rightM := prightM_ok
  packM := ppackM_ok
  unpackM := punpackM_ok
  newest := pnewest_ok
end Go.Proofs.Ytjgmlpfallakmaa
end
