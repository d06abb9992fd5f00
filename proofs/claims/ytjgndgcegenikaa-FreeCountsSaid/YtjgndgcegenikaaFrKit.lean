/-
  What the statements of chapter 8 lean on, of any list of free pages in memory: a representation 'At', and what each call answers and leaves (a structure of contracts); the chapter's example over any list. Conditions: those of the contracts.
-/
import Derived.Test.YtjgndgcegenikaaFrRefD
import Derived.Test.YtjgndgcegenikaaFrRefE
namespace Go.Proofs.Ytjgndgcegenikaa
open Go.RowKit
/-- what New leaves -/
def FrMade (At : World → Nat → List FP → List Nat → Prop) (l : List FP) (w : World) (e : Ending) (w' : World) : Prop :=
  ∃ p F, e = .returned (.pointer (some ⟨p, 0, none⟩)) ∧ At w' p l F ∧ (∀ k ∈ F, w.heap.size ≤ k) ∧ Below w.heap.size w w'
/-- functions on pieces -/
structure FrBytes : Prop where
  enc : ∀ (w : World) (next : Int) (v : Value) (l : List FP), FreesAt w v l → l.length ≤ 600 → Calls Try.prog 22 #[.int .i64 next, v] w fun e w' => e = .returned (.tuple #[.string (Fr.encS next l), .int .i64 (Fr.encE next l)]) ∧ Below w.heap.size w w'
  dec : ∀ (w : World) (s : ByteArray), s.size ≤ 2000 → Calls Try.prog 24 #[.string s] w (FrDecoded w s)
  pieces : ∀ (w : World) (n : Int), n ≤ 1000000 → Calls Try.prog 26 #[.int .i64 n] w fun e w' => e = .returned (.int .i64 (Fr.pieces n : Nat)) ∧ Below w.heap.size w w'
/-- the program's list -/
structure FrKit (At : World → Nat → List FP → List Nat → Prop) : Prop where
  lt : ∀ {w : World} {p : Nat} {l : List FP} {F : List Nat}, At w p l F → ∀ k ∈ F, k < w.heap.size
  touch : ∀ {w w' : World} {p : Nat} {l : List FP} {F S : List Nat}, At w p l F → Touch S w w' → (∀ k ∈ S, k ∉ F) → At w' p l F
  new : ∀ (w : World), Calls Try.prog 10 #[] w (FrMade At [] w)
  add : ∀ (w : World) (p : Nat) (l : List FP) (F : List Nat) (f : FP), Fr.Ok l → l.length ≤ 511 → At w p l F → Calls Try.prog 11 #[.pointer (some ⟨p, 0, none⟩), fv f] w (FrDid At w p F (Fr.addL l f) (.returned (.int .i64 (Fr.addE l f))))
  take : ∀ (w : World) (p : Nat) (l : List FP) (F : List Nat) (u : Int), Fr.Ok l → l.length ≤ 511 → At w p l F → Calls Try.prog 13 #[.pointer (some ⟨p, 0, none⟩), .int .i64 u] w (FrDid At w p F (Fr.takeL l u) (.returned (.tuple #[.int .i64 (Fr.takeP l u), .bool (Fr.takeB l u)])))
  has : ∀ (w : World) (p : Nat) (l : List FP) (F : List Nat) (n : Int), Fr.Ok l → l.length ≤ 511 → At w p l F → Calls Try.prog 16 #[.pointer (some ⟨p, 0, none⟩), .int .i64 n] w fun e w' => e = .returned (.bool (Fr.has l n)) ∧ Below w.heap.size w w'
  count : ∀ (w : World) (p : Nat) (l : List FP) (F : List Nat), Fr.Ok l → l.length ≤ 511 → At w p l F → Calls Try.prog 18 #[.pointer (some ⟨p, 0, none⟩)] w fun e w' => e = .returned (.int .i64 (l.length : Nat)) ∧ Below w.heap.size w w'
  all : ∀ (w : World) (p : Nat) (l : List FP) (F : List Nat), Fr.Ok l → l.length ≤ 511 → At w p l F → Calls Try.prog 20 #[.pointer (some ⟨p, 0, none⟩)] w fun e w' => ∃ V, e = .returned V ∧ FreesAt w' V (Fr.sorted l) ∧ Below w.heap.size w w'
  copy : ∀ (w : World) (p : Nat) (l : List FP) (F : List Nat), Fr.Ok l → l.length ≤ 511 → At w p l F → Calls Try.prog 15 #[.pointer (some ⟨p, 0, none⟩)] w (FrMade At l w)
  nilAdd : ∀ (w : World) (f : FP), Calls Try.prog 11 #[.pointer none, fv f] w fun e w' => e = .returned (.int .i64 2) ∧ Below w.heap.size w w'
  nilTake : ∀ (w : World) (u : Int), Calls Try.prog 13 #[.pointer none, .int .i64 u] w fun e w' => e = .returned (.tuple #[.int .i64 0, .bool false]) ∧ Below w.heap.size w w'
  nilHas : ∀ (w : World) (n : Int), Calls Try.prog 16 #[.pointer none, .int .i64 n] w fun e w' => e = .returned (.bool false) ∧ Below w.heap.size w w'
  nilCount : ∀ (w : World), Calls Try.prog 18 #[.pointer none] w fun e w' => e = .returned (.int .i64 0) ∧ Below w.heap.size w w'
  nilAll : ∀ (w : World), Calls Try.prog 20 #[.pointer none] w fun e w' => ∃ A cap, e = .returned (.slice A 0 cap) ∧ Below w.heap.size w w'
  nilCopy : ∀ (w : World), Calls Try.prog 15 #[.pointer none] w fun e w' => e = .returned (.pointer none) ∧ Below w.heap.size w w'
/-- the list l lies at p, above block B -/
def FrHas (At : World → Nat → List FP → List Nat → Prop) (B : Nat) (p : Nat) (l : List FP) (w : World) : Prop := ∃ F, At w p l F ∧ (∀ k ∈ F, B ≤ k) ∧ Fr.Ok l ∧ l.length ≤ 511
namespace Fr
theorem addL_len (l : List FP) (f : FP) : (addL l f).length ≤ l.length + 1 := by
  unfold addL
  split
  · rw [List.length_append]; exact Nat.le_refl _
  · omega
theorem takeL_len (l : List FP) (u : Int) : (takeL l u).length ≤ l.length := by
  unfold takeL
  split
  · exact Nat.le_refl _
  · exact List.length_filter_le _ _
theorem few_below (n : Nat) : ∀ l : List Nat, l.Nodup → (∀ x ∈ l, x < n) → l.length ≤ n := by
  induction n with
  | zero =>
    intro l _ h
    cases l with
    | nil => exact Nat.le_refl _
    | cons x l => exact absurd (h x (List.mem_cons_self ..)) (by omega)
  | succ n ih =>
    intro l hn h
    by_cases hm : n ∈ l
    · have h1 := ih (l.erase n) (hn.erase n) (fun x hx => by
        have h2 := (List.Nodup.mem_erase_iff hn).1 hx
        have := h x h2.2
        have := h2.1
        omega)
      rw [List.length_erase_of_mem hm] at h1
      omega
    · have := ih l hn (fun x hx => by
        have h2 := h x hx
        have : x ≠ n := fun e => hm (e ▸ hx)
        omega)
      omega
/-- pages are few -/
theorem Ok.len {l : List FP} (h : Ok l) : l.length ≤ 511 := by
  have h1 : (l.map (fun f => f.2.toNat - 1)).Nodup := by
    rw [List.nodup_iff_pairwise_ne, List.pairwise_map]
    refine h.once.imp_of_mem (fun {a b} ha hb hab e => ?_)
    have h2 := (right_iff a).1 (h.right a ha)
    have h3 := (right_iff b).1 (h.right b hb)
    exact hab (by omega)
  have h2 := few_below 511 _ h1 (fun x hx => by
    rw [List.mem_map] at hx
    obtain ⟨f, hf, rfl⟩ := hx
    have h3 := (right_iff f).1 (h.right f hf)
    omega)
  simpa using h2
end Fr
section
variable {At : World → Nat → List FP → List Nat → Prop} (D : FrKit At) {B p : Nat} {l : List FP} {w : World}
include D
theorem FrKit.adds (f : FP) (hB : B ≤ w.heap.size) (h : FrHas At B p l w) : Calls Try.prog 11 #[.pointer (some ⟨p, 0, none⟩), fv f] w fun e w' => e = .returned (.int .i64 (Fr.addE l f)) ∧ FrHas At B p (Fr.addL l f) w' ∧ Below B w w' := by
  obtain ⟨F, h1, h2, h3, h4⟩ := h
  refine (D.add w p l F f h3 h4 h1).mono ?_
  rintro _ w' ⟨rfl, F', hA, hT, hG⟩
  have ho := Fr.addL_ok h3 f
  exact ⟨rfl, ⟨F', hA, fun k hk => (hG k hk).elim (h2 k) (fun hx => Nat.le_trans hB hx), ho, ho.len⟩, hT.below hB h2⟩
theorem FrKit.takes (u : Int) (hB : B ≤ w.heap.size) (h : FrHas At B p l w) : Calls Try.prog 13 #[.pointer (some ⟨p, 0, none⟩), .int .i64 u] w fun e w' => e = .returned (.tuple #[.int .i64 (Fr.takeP l u), .bool (Fr.takeB l u)]) ∧ FrHas At B p (Fr.takeL l u) w' ∧ Below B w w' := by
  obtain ⟨F, h1, h2, h3, h4⟩ := h
  refine (D.take w p l F u h3 h4 h1).mono ?_
  rintro _ w' ⟨rfl, F', hA, hT, hG⟩
  have ho := Fr.takeL_ok h3 u
  exact ⟨rfl, ⟨F', hA, fun k hk => (hG k hk).elim (h2 k) (fun hx => Nat.le_trans hB hx), ho, ho.len⟩, hT.below hB h2⟩
theorem FrKit.news (w : World) (B : Nat) (hB : B ≤ w.heap.size) : Calls Try.prog 10 #[] w fun e w' => ∃ p, e = .returned (.pointer (some ⟨p, 0, none⟩)) ∧ FrHas At B p [] w' ∧ Below w.heap.size w w' := by
  refine (D.new w).mono ?_
  rintro _ w' ⟨p, F, rfl, hA, hF, hb⟩
  exact ⟨p, rfl, ⟨F, hA, fun k hk => Nat.le_trans hB (hF k hk), Fr.Ok.nil, by simp⟩, hb⟩
theorem FrHas.below {w' : World} (h : FrHas At B p l w) (hb : Below w.heap.size w w') : FrHas At B p l w' := by
  obtain ⟨F, h1, h2, h3⟩ := h
  exact ⟨F, D.touch h1 (Touch.ofBelow hb) (by simp), h2, h3⟩
end
theorem ex_fr : Fr.addL [] (7, 3) = [(7, 3)] ∧ Fr.addE [] (7, 3) = 0 ∧ Fr.addL [(7, 3)] (5, 9) = [(7, 3), (5, 9)] ∧ Fr.addE [(7, 3)] (5, 9) = 0 ∧ Fr.takeL [(7, 3), (5, 9)] 6 = [(7, 3)] ∧ Fr.takeP [(7, 3), (5, 9)] 6 = 9 ∧ Fr.takeB [(7, 3), (5, 9)] 6 = true ∧ Fr.takeL [(7, 3)] 6 = [(7, 3)] ∧ Fr.takeP [(7, 3)] 6 = 0 ∧ Fr.takeB [(7, 3)] 6 = false ∧ Fr.takeP [(7, 3)] 7 = 3 ∧ Fr.takeB [(7, 3)] 7 = true := by decide +kernel
set_option maxRecDepth 100000 in
set_option maxHeartbeats 1600000 in
theorem frawake_ok (At : World → Nat → List FP → List Nat → Prop) (D : FrKit At) (w : World) : Calls Try.prog 9 #[] w fun e w' => e = .returned (.bool true) ∧ Below w.heap.size w w' := by
  obtain ⟨x1, x2, x3, x4, x5, x6, x7, x8, x9, x10, x11, x12⟩ := ex_fr
  have E1 : Hid (∀ (p : Nat) w', w.heap.size ≤ w'.heap.size → FrHas At w.heap.size p [] w' → Calls Try.prog 11 #[.pointer (some ⟨p, 0, none⟩), .agg #[.int .i64 7, .int .i64 3]] w' fun e w2 => e = .returned (.int .i64 0) ∧ FrHas At w.heap.size p [(7, 3)] w2 ∧ Below w.heap.size w' w2) := Lib.hid (fun p w' hB h => by have := D.adds (7, 3) hB h; rwa [x1, x2] at this)
  have E2 : Hid (∀ (p : Nat) w', w.heap.size ≤ w'.heap.size → FrHas At w.heap.size p [(7, 3)] w' → Calls Try.prog 11 #[.pointer (some ⟨p, 0, none⟩), .agg #[.int .i64 5, .int .i64 9]] w' fun e w2 => e = .returned (.int .i64 0) ∧ FrHas At w.heap.size p [(7, 3), (5, 9)] w2 ∧ Below w.heap.size w' w2) := Lib.hid (fun p w' hB h => by have := D.adds (5, 9) hB h; rwa [x3, x4] at this)
  have E3 : Hid (∀ (p : Nat) w', w.heap.size ≤ w'.heap.size → FrHas At w.heap.size p [(7, 3), (5, 9)] w' → Calls Try.prog 13 #[.pointer (some ⟨p, 0, none⟩), .int .i64 6] w' fun e w2 => e = .returned (.tuple #[.int .i64 9, .bool true]) ∧ FrHas At w.heap.size p [(7, 3)] w2 ∧ Below w.heap.size w' w2) := Lib.hid (fun p w' hB h => by have := D.takes 6 hB h; rwa [x5, x6, x7] at this)
  have E4 : Hid (∀ (p : Nat) w', w.heap.size ≤ w'.heap.size → FrHas At w.heap.size p [(7, 3)] w' → Calls Try.prog 13 #[.pointer (some ⟨p, 0, none⟩), .int .i64 6] w' fun e w2 => e = .returned (.tuple #[.int .i64 0, .bool false]) ∧ FrHas At w.heap.size p [(7, 3)] w2 ∧ Below w.heap.size w' w2) := Lib.hid (fun p w' hB h => by have := D.takes 6 hB h; rwa [x8, x9, x10] at this)
  have E5 : Hid (∀ (p : Nat) w', w.heap.size ≤ w'.heap.size → FrHas At w.heap.size p [(7, 3)] w' → Calls Try.prog 13 #[.pointer (some ⟨p, 0, none⟩), .int .i64 7] w' fun e w2 => e = .returned (.tuple #[.int .i64 3, .bool true]) ∧ Below w.heap.size w' w2) := Lib.hid (fun p w' hB h => by
    have := D.takes 7 hB h
    rw [x11, x12] at this
    exact this.mono fun _ _ ⟨a, _, b⟩ => ⟨a, b⟩)
  clear x1 x2 x3 x4 x5 x6 x7 x8 x9 x10 x11 x12
  go_enter Try.func9, Try.ntmps9
  have hz : ∀ w, (zeroValue 31).run Try.prog w = .ok (.agg #[.int .i64 0, .int .i64 0]) w := fun w => by kernel_rfl
  go_wp2_with fail
  refine (D.news w w.heap.size (Nat.le_refl _)).mono ?_
  rintro _ w1 ⟨p, rfl, hH1, hb1⟩
  go_wp2_with fail
  refine (E1.out p _ hb1.size hH1).mono ?_
  rintro _ w2 ⟨rfl, hH2, hb2⟩
  have hc2 := hb1.trans hb2
  go_wp2_with fail
  refine (E2.out p _ hc2.size hH2).mono ?_
  rintro _ w3 ⟨rfl, hH3, hb3⟩
  have hc3 := hc2.trans hb3
  go_wp2_with fail
  refine (E3.out p _ hc3.size hH3).mono ?_
  rintro _ w4 ⟨rfl, hH4, hb4⟩
  have hc4 := hc3.trans hb4
  go_wp2_with fail
  refine (E4.out p _ hc4.size hH4).mono ?_
  rintro _ w5 ⟨rfl, hH5, hb5⟩
  have hc5 := hc4.trans hb5
  go_wp2_with fail
  refine (E5.out p _ hc5.size hH5).mono ?_
  rintro _ w6 ⟨rfl, hb6⟩
  go_wp2
  go_ret
  exact ⟨rfl, hc5.trans hb6⟩
set_option maxRecDepth 100000 in
set_option maxHeartbeats 1600000 in
theorem frnil_any (At : World → Nat → List FP → List Nat → Prop) (D : FrKit At) (w : World) (f : FP) (n : Int) : Calls Try.prog 8 #[fv f, .int .i64 n] w fun e w' => e = .returned (.bool true) ∧ Below w.heap.size w w' := by
  have NA := fun w => Lib.hid (D.nilAdd w f)
  obtain ⟨t, q⟩ := f
  unfold fv at NA ⊢
  simp only at NA ⊢
  obtain ⟨wA, hwA⟩ : ∃ wA, w.alloc (.cells #[.int .i64 t, .int .i64 q] 31) = wA := ⟨_, rfl⟩
  have HX : Hid (Blk wA w.heap.size #[.int .i64 t, .int .i64 q] 31) := Lib.hid (hwA ▸ Blk.new w _ _)
  have HBA : Hid (Below w.heap.size w wA) := Lib.hid (hwA ▸ (Below.refl _ w).alloc (Nat.le_refl _) _)
  have AW := Lib.hid (frawake_ok At D wA)
  go_enter Try.func8, Try.ntmps8
  go_wp2_with fail
  refine AW.out.mono ?_
  rintro _ w1 ⟨rfl, hb1⟩
  have hc1 := HBA.out.trans (hb1.mono HBA.out.size)
  go_wp2_with fail
  refine (D.nilTake _ n).mono ?_
  rintro _ w2 ⟨rfl, hb2⟩
  have hc2 := hc1.trans (hb2.mono hc1.size)
  have hX2 : Blk w2 w.heap.size #[.int .i64 t, .int .i64 q] 31 := (hb2.block _ (Nat.lt_of_lt_of_le HX.out.lt hb1.size)).trans ((hb1.block _ HX.out.lt).trans HX.out)
  have y0 : w2.cell? ⟨w.heap.size, 0, none⟩ = some (.int .i64 t) := hX2.cell 0
  have y1 : w2.cell? ⟨w.heap.size, 1, none⟩ = some (.int .i64 q) := hX2.cell 1
  clear hX2 hwA
  go_wp2_with fail
  refine (NA _).out.mono ?_
  rintro _ w3 ⟨rfl, hb3⟩
  have hc3 := hc2.trans (hb3.mono hc2.size)
  clear y0 y1
  go_wp2_with fail
  refine (D.nilHas _ n).mono ?_
  rintro _ w4 ⟨rfl, hb4⟩
  have hc4 := hc3.trans (hb4.mono hc3.size)
  go_wp2_with fail
  refine (D.nilCount _).mono ?_
  rintro _ w5 ⟨rfl, hb5⟩
  have hc5 := hc4.trans (hb5.mono hc4.size)
  go_wp2_with fail
  refine (D.nilAll _).mono ?_
  rintro _ w6 ⟨A, cap, rfl, hb6⟩
  have hc6 := hc5.trans (hb6.mono hc5.size)
  go_wp2_with fail
  refine (D.nilCopy _).mono ?_
  rintro _ w7 ⟨rfl, hb7⟩
  go_wp2
  go_ret
  exact ⟨rfl, hc6.trans (hb7.mono hc6.size)⟩
set_option maxRecDepth 100000 in
set_option maxHeartbeats 1600000 in
theorem frcounts_any (At : World → Nat → List FP → List Nat → Prop) (D : FrKit At) (E : FrBytes) (w : World) (n : Int) : Calls Try.prog 7 #[.int .i64 n] w fun e w' => e = .returned (.bool true) ∧ Below w.heap.size w w' := by
  by_cases hn : 1000000 < n
  · have d1 : decide ((1000000 : Int) < n) = true := decide_eq_true hn
    clear hn
    go_enter Try.func7, Try.ntmps7
    go_wp2_with fail
    refine (frawake_ok At D _).mono ?_
    rintro _ w1 ⟨rfl, hb1⟩
    go_wp2
    go_ret
    exact ⟨rfl, hb1⟩
  · have d1 : decide ((1000000 : Int) < n) = false := decide_eq_false hn
    have PC0 := fun w => E.pieces w n (by omega)
    have QC0 := fun w => frpieces_ok w n (by omega)
    have hsp := Fr.pieces_spec n
    obtain ⟨k, hk⟩ : ∃ k, Fr.pieces n = k := ⟨_, rfl⟩
    simp only [hk] at PC0 QC0
    rw [hk] at hsp
    have PC := fun w => Lib.hid (PC0 w)
    have QC := fun w => Lib.hid (QC0 w)
    clear PC0 QC0 hk
    rcases hsp with ⟨h1, rfl⟩ | ⟨h1, h2, h3⟩
    · have e1 : decide (n ≤ 0) = true := decide_eq_true h1
      clear h1 hn
      go_enter Try.func7, Try.ntmps7
      go_wp2_with fail
      refine (frawake_ok At D _).mono ?_
      rintro _ w1 ⟨rfl, hb1⟩
      go_wp2_with fail
      refine (PC _).out.mono ?_
      rintro _ w2 ⟨rfl, hb2⟩
      go_wp2_with fail
      refine (QC _).out.mono ?_
      rintro _ _ ⟨rfl, rfl⟩
      go_wp2
      go_ret
      exact ⟨rfl, hb1.trans (hb2.mono hb1.size)⟩
    · have e1 : decide (n ≤ 0) = false := decide_eq_false (by omega)
      have e2 : decide (0 < n) = true := decide_eq_true h1
      have m1 : IntKind.i64.wrap (40 * (k : Int)) = 40 * k := IntWalk.i64_in _ (by omega)
      have m2 : IntKind.i64.wrap ((k : Int) - 1) = (k : Int) - 1 := IntWalk.i64_in _ (by omega)
      have m3 : IntKind.i64.wrap (40 * ((k : Int) - 1)) = 40 * ((k : Int) - 1) := IntWalk.i64_in _ (by omega)
      have e3 : decide (n ≤ 40 * (k : Int)) = true := decide_eq_true h2
      have e4 : decide (40 * ((k : Int) - 1) < n) = true := decide_eq_true h3
      clear h1 h2 h3 hn
      go_enter Try.func7, Try.ntmps7
      go_wp2_with fail
      refine (frawake_ok At D _).mono ?_
      rintro _ w1 ⟨rfl, hb1⟩
      go_wp2_with fail
      refine (PC _).out.mono ?_
      rintro _ w2 ⟨rfl, hb2⟩
      go_wp2_with fail
      refine (QC _).out.mono ?_
      rintro _ _ ⟨rfl, rfl⟩
      go_wp2
      go_ret
      exact ⟨rfl, hb1.trans (hb2.mono hb1.size)⟩
set_option maxRecDepth 100000 in
set_option maxHeartbeats 1600000 in
theorem frreads_any (At : World → Nat → List FP → List Nat → Prop) (D : FrKit At) (E : FrBytes) (w : World) (s : ByteArray) : Calls Try.prog 6 #[.string s] w fun e w' => e = .returned (.bool true) ∧ Below w.heap.size w w' := by
  by_cases hs : 2000 < s.size
  · have d1 : decide ((2000 : Int) < (s.size : Int)) = true := decide_eq_true (by omega)
    clear hs
    go_enter Try.func6, Try.ntmps6
    go_wp2_with fail
    refine (frawake_ok At D _).mono ?_
    rintro _ w1 ⟨rfl, hb1⟩
    go_wp2
    go_ret
    exact ⟨rfl, hb1⟩
  · have d1 : decide ((2000 : Int) < (s.size : Int)) = false := decide_eq_false (by omega)
    have DC := fun w => Lib.hid (E.dec w s (by omega))
    have RC := fun w => Lib.hid (frdec_ok w s (by omega))
    clear hs
    obtain ⟨n, hn⟩ : ∃ n, Fr.decN s = n := ⟨_, rfl⟩
    obtain ⟨e, he⟩ : ∃ n, Fr.decE s = n := ⟨_, rfl⟩
    unfold FrDecoded at DC RC
    simp only [hn, he] at DC RC
    clear hn he
    go_enter Try.func6, Try.ntmps6
    go_wp2_with fail
    refine (frawake_ok At D _).mono ?_
    rintro _ w1 ⟨rfl, hb1⟩
    go_wp2_with fail
    refine (DC _).out.mono ?_
    rintro _ w2 ⟨V, rfl, hV, hb2⟩
    have hc2 := hb1.trans (hb2.mono hb1.size)
    go_wp2_with fail
    refine (RC _).out.mono ?_
    rintro _ w3 ⟨V2, rfl, hV2, hb3⟩
    have hc3 := hc2.trans (hb3.mono hc2.size)
    have SC := Lib.hid (frsame_yes w3 V V2 _ (hV.below hb3) hV2)
    go_wp2_with fail
    refine SC.out.mono ?_
    rintro _ w4 ⟨rfl, hb4⟩
    go_wp2
    go_ret
    exact ⟨rfl, hc3.trans (hb4.mono hc3.size)⟩
set_option maxRecDepth 100000 in
set_option maxHeartbeats 1600000 in
theorem frpiecesw_any (At : World → Nat → List FP → List Nat → Prop) (D : FrKit At) (E : FrBytes) (w : World) (next : Int) (v : Value) (l : List FP) (hc : FreesAt w v l) : Calls Try.prog 5 #[.int .i64 next, v] w fun e w' => e = .returned (.bool true) ∧ Below w.heap.size w w' := by
  have HC := Lib.hid hc
  obtain ⟨A, cap, rfl, _, _⟩ := hc.form
  clear hc
  by_cases hl : 100 < l.length
  · have d1 : decide ((100 : Int) < (l.length : Int)) = true := decide_eq_true (by omega)
    clear hl
    go_enter Try.func5, Try.ntmps5
    go_wp2_with fail
    refine (frawake_ok At D _).mono ?_
    rintro _ w1 ⟨rfl, hb1⟩
    go_wp2
    go_ret
    exact ⟨rfl, hb1⟩
  · have d1 : decide ((100 : Int) < (l.length : Int)) = false := decide_eq_false (by omega)
    have EC := Lib.hid (fun w1 (h : Below w.heap.size w w1) => E.enc w1 next _ l (HC.out.below h) (by omega))
    have RC := Lib.hid (fun w1 (h : Below w.heap.size w w1) => frenc_ok w1 next _ l (HC.out.below h))
    obtain ⟨S, hS⟩ : ∃ S, Fr.encS next l = S := ⟨_, rfl⟩
    obtain ⟨e, he⟩ : ∃ S, Fr.encE next l = S := ⟨_, rfl⟩
    simp only [hS, he] at EC RC
    have q1 : (!(S.toList == S.toList)) = false := by simp
    by_cases hok : Fr.okP next l = true
    · have he0 : e = 0 := by rw [← he]; unfold Fr.encE; rw [if_pos hok]
      subst he0
      have hp := (Fr.okP_iff next l).1 hok
      have hsz : S.size = 6 + 12 * l.length := by
        rw [← hS]
        unfold Fr.encS
        rw [if_pos hok, ba_size, Fr.bytes_length]
      have hfew := hp.few
      have hd := Fr.dec_enc next l hok
      rw [hS] at hd
      have hdn : Fr.decN S = next ∧ Fr.decE S = 0 ∧ Fr.decL S = l := by
        unfold Fr.decN Fr.decE Fr.decL
        rw [hd]
        exact ⟨rfl, rfl, rfl⟩
      obtain ⟨x1, x2, x3⟩ := hdn
      have DC := fun w => E.dec w S (by omega)
      unfold FrDecoded at DC
      rw [x1, x2, x3] at DC
      have DC := fun w => Lib.hid (DC w)
      have d2 : decide ((S.size : Int) ≤ 488) = true := decide_eq_true (by omega)
      clear hl hS he hok hp hsz hfew hd x1 x2 x3
      go_enter Try.func5, Try.ntmps5
      go_wp2_with fail
      refine (frawake_ok At D _).mono ?_
      rintro _ w1 ⟨rfl, hb1⟩
      go_wp2_with fail
      refine (EC.out _ hb1).mono ?_
      rintro _ w2 ⟨rfl, hb2⟩
      have hc2 := hb1.trans (hb2.mono hb1.size)
      go_wp2_with fail
      refine (RC.out _ hc2).mono ?_
      rintro _ w3 ⟨rfl, hb3⟩
      have hc3 := hc2.trans (hb3.mono hc2.size)
      go_wp2_with fail
      refine (DC _).out.mono ?_
      rintro _ w4 ⟨V, rfl, hV, hb4⟩
      have hc4 := hc3.trans (hb4.mono hc3.size)
      have SC := Lib.hid (frsame_yes w4 V _ l hV (HC.out.below hc4))
      go_wp2_with fail
      refine SC.out.mono ?_
      rintro _ w5 ⟨rfl, hb5⟩
      go_wp2
      go_ret
      exact ⟨rfl, hc4.trans (hb5.mono hc4.size)⟩
    · have he4 : e = 4 := by rw [← he]; unfold Fr.encE; rw [if_neg hok]
      subst he4
      have hs0 : S = ⟨#[]⟩ := by rw [← hS]; unfold Fr.encS; rw [if_neg hok]; rfl
      subst hs0
      clear hl hS he hok
      go_enter Try.func5, Try.ntmps5
      go_wp2_with fail
      refine (frawake_ok At D _).mono ?_
      rintro _ w1 ⟨rfl, hb1⟩
      go_wp2_with fail
      refine (EC.out _ hb1).mono ?_
      rintro _ w2 ⟨rfl, hb2⟩
      have hc2 := hb1.trans (hb2.mono hb1.size)
      go_wp2_with fail
      refine (RC.out _ hc2).mono ?_
      rintro _ w3 ⟨rfl, hb3⟩
      go_wp2
      go_ret
      exact ⟨rfl, hc2.trans (hb3.mono hc2.size)⟩
end Go.Proofs.Ytjgndgcegenikaa
