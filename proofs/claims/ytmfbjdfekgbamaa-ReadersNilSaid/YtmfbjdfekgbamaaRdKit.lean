/-
  What the statements of chapter 7 lean on, of any table in memory: a representation 'At', and what each call answers and leaves (a structure of contracts); a list of calls that came in; the chapter's example over any table. Conditions: those of the contracts.
-/
import Derived.Test.YtmfbjdfekgbamaaRdRef
namespace Go.Proofs.Ytmfbjdfekgbamaa
open Go.RowKit
/-- the slice v reads as the numbers L -/
def IntsAt (w : World) (v : Value) (L : List Int) : Prop :=
  ∃ A cap, v = .slice A L.length cap ∧ ∀ k (h : k < L.length), ∃ b off, A = some ⟨b, off, none⟩ ∧ b < w.heap.size ∧ w.cell? ⟨b, off + k, none⟩ = some (.int .i64 L[k])
theorem IntsAt.below {w w' : World} {v : Value} {L : List Int} (h : IntsAt w v L) (hb : Below w.heap.size w w') : IntsAt w' v L := by
  obtain ⟨A, cap, hv, hc⟩ := h
  refine ⟨A, cap, hv, fun k hk => ?_⟩
  obtain ⟨b, off, hA, hlt, hcell⟩ := hc k hk
  exact ⟨b, off, hA, Nat.lt_of_lt_of_le hlt hb.size, (hb.cell (p := ⟨b, off + k, none⟩) hlt).trans hcell⟩
theorem IntsAt.get {w : World} {A : Option Addr} {n cap : Nat} {L : List Int} (h : IntsAt w (.slice A n cap) L) (k : Nat) (hk : k < L.length) : ∃ b off, A = some ⟨b, off, none⟩ ∧ b < w.heap.size ∧ w.cell? ⟨b, off + k, none⟩ = some (.int .i64 L[k]) := by
  obtain ⟨A', cap', hv, hc⟩ := h
  injection hv with e1
  subst e1
  exact hc k hk
structure RdKit (At : World → Nat → List Int → List Nat → Prop) : Prop where
  lt : ∀ {w : World} {p : Nat} {l : List Int} {F : List Nat}, At w p l F → ∀ k ∈ F, k < w.heap.size
  touch : ∀ {w w' : World} {p : Nat} {l : List Int} {F S : List Nat}, At w p l F → Touch S w w' → (∀ k ∈ S, k ∉ F) → At w' p l F
  new : ∀ (w : World), Calls Try.prog 7 #[] w (RdMade At w)
  enter : ∀ (w : World) (p : Nat) (l : List Int) (F : List Nat) (n : Int), Rd.Ok l → At w p l F → Calls Try.prog 9 #[.pointer (some ⟨p, 0, none⟩), .int .i64 n] w (RdDid At w p F (Rd.enterL l n) (.returned (.tuple #[.int .i64 (Rd.enterI l n), .int .i64 (Rd.enterE l n)])))
  leave : ∀ (w : World) (p : Nat) (l : List Int) (F : List Nat) (i : Int), Rd.Ok l → At w p l F → Calls Try.prog 11 #[.pointer (some ⟨p, 0, none⟩), .int .i64 i] w (RdDid At w p F (Rd.leaveL l i) (.returned (.int .i64 (Rd.leaveE l i))))
  clear : ∀ (w : World) (p : Nat) (l : List Int) (F : List Nat), Rd.Ok l → At w p l F → Calls Try.prog 13 #[.pointer (some ⟨p, 0, none⟩)] w (RdDid At w p F Rd.none4 (.returned (.int .i64 (Rd.count l : Nat))))
  reads : ∀ (w : World) (p : Nat) (l : List Int) (F : List Nat) (i : Int), Rd.Ok l → At w p l F → Calls Try.prog 17 #[.pointer (some ⟨p, 0, none⟩), .int .i64 i] w fun e w' => e = .returned (.tuple #[.int .i64 (Rd.readN l i), .bool (Rd.there l i)]) ∧ Below w.heap.size w w'
  oldest : ∀ (w : World) (p : Nat) (l : List Int) (F : List Nat) (now : Int), Rd.Ok l → At w p l F → Calls Try.prog 15 #[.pointer (some ⟨p, 0, none⟩), .int .i64 now] w fun e w' => e = .returned (.int .i64 (Rd.oldest l now)) ∧ Below w.heap.size w w'
  live : ∀ (w : World) (p : Nat) (l : List Int) (F : List Nat), Rd.Ok l → At w p l F → Calls Try.prog 19 #[.pointer (some ⟨p, 0, none⟩)] w fun e w' => ∃ V L, e = .returned V ∧ IntsAt w' V L ∧ Rd.Live l L ∧ Below w.heap.size w w'
  nilEnter : ∀ (w : World) (n : Int), Calls Try.prog 9 #[.pointer none, .int .i64 n] w fun e w' => e = .returned (.tuple #[.int .i64 0, .int .i64 2]) ∧ Below w.heap.size w w'
  nilLeave : ∀ (w : World) (n : Int), Calls Try.prog 11 #[.pointer none, .int .i64 n] w fun e w' => e = .returned (.int .i64 2) ∧ Below w.heap.size w w'
  nilClear : ∀ (w : World), Calls Try.prog 13 #[.pointer none] w fun e w' => e = .returned (.int .i64 0) ∧ Below w.heap.size w w'
  nilReads : ∀ (w : World) (n : Int), Calls Try.prog 17 #[.pointer none, .int .i64 n] w fun e w' => e = .returned (.tuple #[.int .i64 0, .bool false]) ∧ Below w.heap.size w w'
  nilOldest : ∀ (w : World) (n : Int), Calls Try.prog 15 #[.pointer none, .int .i64 n] w fun e w' => e = .returned (.int .i64 n) ∧ Below w.heap.size w w'
  nilLive : ∀ (w : World), Calls Try.prog 19 #[.pointer none] w fun e w' => ∃ A cap, e = .returned (.slice A 0 cap) ∧ Below w.heap.size w w'
/-- the slice v reads as the calls xs, below block B -/
def PairsAt (w : World) (B : Nat) (v : Value) (xs : List (Int × Int)) : Prop :=
  ∃ A cap, v = .slice A xs.length cap ∧ xs.length ≤ cap ∧ cap ≤ 9223372036854775807 ∧ ∀ k (h : k < xs.length), ∃ b off, A = some ⟨b, off, none⟩ ∧ b < B ∧ w.cell? ⟨b, off + k * 2, none⟩ = some (.int .i64 xs[k].1) ∧ w.cell? ⟨b, off + k * 2 + 1, none⟩ = some (.int .i64 xs[k].2)
theorem PairsAt.below {w w' : World} {B : Nat} {v : Value} {xs : List (Int × Int)} (h : PairsAt w B v xs) (hb : Below B w w') : PairsAt w' B v xs := by
  obtain ⟨A, cap, hv, h1, h2, hc⟩ := h
  refine ⟨A, cap, hv, h1, h2, fun k hk => ?_⟩
  obtain ⟨b, off, hA, hlt, c0, c1⟩ := hc k hk
  exact ⟨b, off, hA, hlt, (hb.cell (p := ⟨b, off + k * 2, none⟩) hlt).trans c0, (hb.cell (p := ⟨b, off + k * 2 + 1, none⟩) hlt).trans c1⟩
theorem PairsAt.get {w : World} {B : Nat} {A : Option Addr} {n cap : Nat} {xs : List (Int × Int)} (h : PairsAt w B (.slice A n cap) xs) (k : Nat) (hk : k < xs.length) : ∃ b off, A = some ⟨b, off, none⟩ ∧ b < B ∧ w.cell? ⟨b, off + k * 2, none⟩ = some (.int .i64 xs[k].1) ∧ w.cell? ⟨b, off + k * 2 + 1, none⟩ = some (.int .i64 xs[k].2) := by
  obtain ⟨A', cap', hv, _, _, hc⟩ := h
  injection hv with e1
  subst e1
  exact hc k hk
/-- the table l lies at p, above block B -/
def RdHas (At : World → Nat → List Int → List Nat → Prop) (B : Nat) (p : Nat) (l : List Int) (w : World) : Prop := ∃ F, At w p l F ∧ (∀ k ∈ F, B ≤ k) ∧ Rd.Ok l
theorem RdHas.below {At : World → Nat → List Int → List Nat → Prop} (D : RdKit At) {B p : Nat} {l : List Int} {w w' : World} (h : RdHas At B p l w) (hb : Below w.heap.size w w') : RdHas At B p l w' := by
  obtain ⟨F, h1, h2, h3⟩ := h
  exact ⟨F, D.touch h1 (Touch.ofBelow hb) (by simp), h2, h3⟩
/-- a call on the table, as the walks take it -/
theorem RdKit.enters {At : World → Nat → List Int → List Nat → Prop} (D : RdKit At) {B p : Nat} {l : List Int} {w : World} (n : Int) (hB : B ≤ w.heap.size) (h : RdHas At B p l w) : Calls Try.prog 9 #[.pointer (some ⟨p, 0, none⟩), .int .i64 n] w fun e w' => e = .returned (.tuple #[.int .i64 (Rd.enterI l n), .int .i64 (Rd.enterE l n)]) ∧ RdHas At B p (Rd.enterL l n) w' ∧ Below B w w' := by
  obtain ⟨F, h1, h2, h3⟩ := h
  refine (D.enter w p l F n h3 h1).mono ?_
  rintro _ w' ⟨rfl, F', hA, hT, hG⟩
  exact ⟨rfl, ⟨F', hA, fun k hk => (hG k hk).elim (h2 k) (fun hx => Nat.le_trans hB hx), Rd.enterL_ok h3 n⟩, hT.below hB h2⟩
theorem RdKit.leaves {At : World → Nat → List Int → List Nat → Prop} (D : RdKit At) {B p : Nat} {l : List Int} {w : World} (n : Int) (hB : B ≤ w.heap.size) (h : RdHas At B p l w) : Calls Try.prog 11 #[.pointer (some ⟨p, 0, none⟩), .int .i64 n] w fun e w' => e = .returned (.int .i64 (Rd.leaveE l n)) ∧ RdHas At B p (Rd.leaveL l n) w' ∧ Below B w w' := by
  obtain ⟨F, h1, h2, h3⟩ := h
  refine (D.leave w p l F n h3 h1).mono ?_
  rintro _ w' ⟨rfl, F', hA, hT, hG⟩
  exact ⟨rfl, ⟨F', hA, fun k hk => (hG k hk).elim (h2 k) (fun hx => Nat.le_trans hB hx), Rd.leaveL_ok h3 n⟩, hT.below hB h2⟩
theorem RdKit.olds {At : World → Nat → List Int → List Nat → Prop} (D : RdKit At) {B p : Nat} {l : List Int} {w : World} (n : Int) (hB : B ≤ w.heap.size) (h : RdHas At B p l w) : Calls Try.prog 15 #[.pointer (some ⟨p, 0, none⟩), .int .i64 n] w fun e w' => e = .returned (.int .i64 (Rd.oldest l n)) ∧ RdHas At B p l w' ∧ Below B w w' := by
  obtain ⟨F, h1, h2, h3⟩ := h
  refine (D.oldest w p l F n h3 h1).mono ?_
  rintro _ w' ⟨rfl, hb⟩
  exact ⟨rfl, ⟨F, D.touch h1 (Touch.ofBelow hb) (by simp), h2, h3⟩, hb.mono hB⟩
theorem RdKit.news {At : World → Nat → List Int → List Nat → Prop} (D : RdKit At) (w : World) (B : Nat) (hB : B ≤ w.heap.size) : Calls Try.prog 7 #[] w fun e w' => ∃ p, e = .returned (.pointer (some ⟨p, 0, none⟩)) ∧ RdHas At B p Rd.none4 w' ∧ Below w.heap.size w w' := by
  refine (D.new w).mono ?_
  rintro _ w' ⟨p, F, rfl, hA, hF, hb⟩
  exact ⟨p, rfl, ⟨F, hA, fun k hk => Nat.le_trans hB (hF k hk), Rd.none4_ok⟩, hb⟩
theorem ex_rd : Rd.enterL Rd.none4 5 = [5, -1, -1, -1] ∧ Rd.enterI Rd.none4 5 = 0 ∧ Rd.enterE Rd.none4 5 = 0 ∧ Rd.enterL [5, -1, -1, -1] 3 = [5, 3, -1, -1] ∧ Rd.enterI [5, -1, -1, -1] 3 = 1 ∧ Rd.enterE [5, -1, -1, -1] 3 = 0 ∧ Rd.oldest [5, 3, -1, -1] 9 = 3 ∧ Rd.leaveL [5, 3, -1, -1] 1 = [5, -1, -1, -1] ∧ Rd.leaveE [5, 3, -1, -1] 1 = 0 ∧ Rd.oldest [5, -1, -1, -1] 9 = 5 := by decide +kernel
set_option maxRecDepth 100000 in
set_option maxHeartbeats 1600000 in
theorem rawake_ok (At : World → Nat → List Int → List Nat → Prop) (D : RdKit At) (w : World) : Calls Try.prog 6 #[] w fun e w' => e = .returned (.bool true) ∧ Below w.heap.size w w' := by
  obtain ⟨x1, x2, x3, x4, x5, x6, x7, x8, x9, x10⟩ := ex_rd
  have E1 : Hid (∀ (p : Nat) w', w.heap.size ≤ w'.heap.size → RdHas At w.heap.size p Rd.none4 w' → Calls Try.prog 9 #[.pointer (some ⟨p, 0, none⟩), .int .i64 5] w' fun e w2 => e = .returned (.tuple #[.int .i64 0, .int .i64 0]) ∧ RdHas At w.heap.size p [5, -1, -1, -1] w2 ∧ Below w.heap.size w' w2) := Lib.hid (fun p w' hB h => by have := D.enters 5 hB h; rwa [x1, x2, x3] at this)
  have E2 : Hid (∀ (p : Nat) w', w.heap.size ≤ w'.heap.size → RdHas At w.heap.size p [5, -1, -1, -1] w' → Calls Try.prog 9 #[.pointer (some ⟨p, 0, none⟩), .int .i64 3] w' fun e w2 => e = .returned (.tuple #[.int .i64 1, .int .i64 0]) ∧ RdHas At w.heap.size p [5, 3, -1, -1] w2 ∧ Below w.heap.size w' w2) := Lib.hid (fun p w' hB h => by have := D.enters 3 hB h; rwa [x4, x5, x6] at this)
  have E3 : Hid (∀ (p : Nat) w', w.heap.size ≤ w'.heap.size → RdHas At w.heap.size p [5, 3, -1, -1] w' → Calls Try.prog 15 #[.pointer (some ⟨p, 0, none⟩), .int .i64 9] w' fun e w2 => e = .returned (.int .i64 3) ∧ RdHas At w.heap.size p [5, 3, -1, -1] w2 ∧ Below w.heap.size w' w2) := Lib.hid (fun p w' hB h => by have := D.olds 9 hB h; rwa [x7] at this)
  have E4 : Hid (∀ (p : Nat) w', w.heap.size ≤ w'.heap.size → RdHas At w.heap.size p [5, 3, -1, -1] w' → Calls Try.prog 11 #[.pointer (some ⟨p, 0, none⟩), .int .i64 1] w' fun e w2 => e = .returned (.int .i64 0) ∧ RdHas At w.heap.size p [5, -1, -1, -1] w2 ∧ Below w.heap.size w' w2) := Lib.hid (fun p w' hB h => by have := D.leaves 1 hB h; rwa [x8, x9] at this)
  have E5 : Hid (∀ (p : Nat) w', w.heap.size ≤ w'.heap.size → RdHas At w.heap.size p [5, -1, -1, -1] w' → Calls Try.prog 15 #[.pointer (some ⟨p, 0, none⟩), .int .i64 9] w' fun e w2 => e = .returned (.int .i64 5) ∧ RdHas At w.heap.size p [5, -1, -1, -1] w2 ∧ Below w.heap.size w' w2) := Lib.hid (fun p w' hB h => by have := D.olds 9 hB h; rwa [x10] at this)
  clear x1 x2 x3 x4 x5 x6 x7 x8 x9 x10
  go_enter Try.func6, Try.ntmps6
  go_wp2_with fail
  refine (D.news w w.heap.size (Nat.le_refl _)).mono ?_
  rintro _ w1 ⟨p, rfl, hH1, hb1⟩
  go_wp2_with fail
  refine (E1.out p _ hb1.size hH1).mono ?_
  rintro _ w2 ⟨rfl, hH2, hb2⟩
  have hc2 := hb1.trans hb2
  go_wp2_with fail
  refine (E2.out p _ hc2.size hH2).mono ?_
  rintro _ w3 ⟨rfl, hH3, hb3⟩
  have hc3 := hc2.trans hb3
  go_wp2_with fail
  refine (E3.out p _ hc3.size hH3).mono ?_
  rintro _ w4 ⟨rfl, hH4, hb4⟩
  have hc4 := hc3.trans hb4
  go_wp2_with fail
  refine (E4.out p _ hc4.size hH4).mono ?_
  rintro _ w5 ⟨rfl, hH5, hb5⟩
  have hc5 := hc4.trans hb5
  go_wp2_with fail
  refine (E5.out p _ hc5.size hH5).mono ?_
  rintro _ w6 ⟨rfl, hH6, hb6⟩
  go_wp2
  go_ret
  exact ⟨rfl, hc5.trans hb6⟩
set_option maxRecDepth 100000 in
set_option maxHeartbeats 1600000 in
theorem rdnil_any (At : World → Nat → List Int → List Nat → Prop) (D : RdKit At) (w : World) (n : Int) : Calls Try.prog 5 #[.int .i64 n] w fun e w' => e = .returned (.bool true) ∧ Below w.heap.size w w' := by
  go_enter Try.func5, Try.ntmps5
  go_wp2_with fail
  refine (rawake_ok At D _).mono ?_
  rintro _ w1 ⟨rfl, hb1⟩
  go_wp2_with fail
  refine (D.nilEnter _ n).mono ?_
  rintro _ w2 ⟨rfl, hb2⟩
  have hc2 := hb1.trans (hb2.mono hb1.size)
  go_wp2_with fail
  refine (D.nilReads _ n).mono ?_
  rintro _ w3 ⟨rfl, hb3⟩
  have hc3 := hc2.trans (hb3.mono hc2.size)
  go_wp2_with fail
  refine (D.nilLeave _ n).mono ?_
  rintro _ w4 ⟨rfl, hb4⟩
  have hc4 := hc3.trans (hb4.mono hc3.size)
  go_wp2_with fail
  refine (D.nilOldest _ n).mono ?_
  rintro _ w5 ⟨rfl, hb5⟩
  have hc5 := hc4.trans (hb5.mono hc4.size)
  go_wp2_with fail
  refine (D.nilLive _).mono ?_
  rintro _ w6 ⟨A, cap, rfl, hb6⟩
  have hc6 := hc5.trans (hb6.mono hc5.size)
  go_wp2_with fail
  refine (D.nilClear _).mono ?_
  rintro _ w7 ⟨rfl, hb7⟩
  go_wp2
  go_ret
  exact ⟨rfl, hc6.trans (hb7.mono hc6.size)⟩
end Go.Proofs.Ytmfbjdfekgbamaa
