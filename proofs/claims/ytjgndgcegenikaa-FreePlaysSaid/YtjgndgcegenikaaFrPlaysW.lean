/-
  P8.1 (plays), of any list that meets the kit: the statement's function returns true, whatever it is handed. No conditions but those typed.
-/
import Derived.Test.YtjgndgcegenikaaFrKit
namespace Go.Proofs.Ytjgndgcegenikaa
open Go.RowKit
/-- a call: its kind, its free page, its number -/
abbrev FQ := Int × FP × Int
/-- the slice v reads as the calls xs, below block B -/
def QuadsAt (w : World) (B : Nat) (v : Value) (xs : List FQ) : Prop :=
  ∃ A cap, v = .slice A xs.length cap ∧ xs.length ≤ cap ∧ cap ≤ 9223372036854775807 ∧ ∀ k (h : k < xs.length), ∃ b off, A = some ⟨b, off, none⟩ ∧ b < B ∧ w.cell? ⟨b, off + k * 4, none⟩ = some (.int .i64 xs[k].1) ∧ w.cell? ⟨b, off + k * 4 + 1, none⟩ = some (.int .i64 xs[k].2.1.1) ∧ w.cell? ⟨b, off + k * 4 + 2, none⟩ = some (.int .i64 xs[k].2.1.2) ∧ w.cell? ⟨b, off + k * 4 + 3, none⟩ = some (.int .i64 xs[k].2.2)
theorem QuadsAt.below {w w' : World} {B : Nat} {v : Value} {xs : List FQ} (h : QuadsAt w B v xs) (hb : Below B w w') : QuadsAt w' B v xs := by
  obtain ⟨A, cap, hv, h1, h2, hc⟩ := h
  refine ⟨A, cap, hv, h1, h2, fun k hk => ?_⟩
  obtain ⟨b, off, hA, hlt, c0, c1, c2, c3⟩ := hc k hk
  exact ⟨b, off, hA, hlt, (hb.cell (p := ⟨b, off + k * 4, none⟩) hlt).trans c0, (hb.cell (p := ⟨b, off + k * 4 + 1, none⟩) hlt).trans c1, (hb.cell (p := ⟨b, off + k * 4 + 2, none⟩) hlt).trans c2, (hb.cell (p := ⟨b, off + k * 4 + 3, none⟩) hlt).trans c3⟩
theorem QuadsAt.get {w : World} {B : Nat} {A : Option Addr} {n cap : Nat} {xs : List FQ} (h : QuadsAt w B (.slice A n cap) xs) (k : Nat) (hk : k < xs.length) : ∃ b off, A = some ⟨b, off, none⟩ ∧ b < B ∧ w.cell? ⟨b, off + k * 4, none⟩ = some (.int .i64 xs[k].1) ∧ w.cell? ⟨b, off + k * 4 + 1, none⟩ = some (.int .i64 xs[k].2.1.1) ∧ w.cell? ⟨b, off + k * 4 + 2, none⟩ = some (.int .i64 xs[k].2.1.2) ∧ w.cell? ⟨b, off + k * 4 + 3, none⟩ = some (.int .i64 xs[k].2.2) := by
  obtain ⟨A', cap', hv, _, _, hc⟩ := h
  injection hv with e1
  subst e1
  exact hc k hk
/-- the program's list l at p and the reference's m at q, apart, above block B -/
def FrTwo (At : World → Nat → List FP → List Nat → Prop) (B p q : Nat) (l m : List FP) (w : World) : Prop :=
  ∃ F G, At w p l F ∧ FRefAt w q m G ∧ (∀ k ∈ F, k ∉ G) ∧ (∀ k ∈ F, B ≤ k) ∧ (∀ k ∈ G, B ≤ k) ∧ Fr.Ok l ∧ Fr.Ok m
/-- the same, with another list of the program's beside -/
def FrThree (At : World → Nat → List FP → List Nat → Prop) (B p p' q : Nat) (l m : List FP) (w : World) : Prop :=
  ∃ F F' G, At w p l F ∧ At w p' l F' ∧ FRefAt w q m G ∧ (∀ k ∈ F, k ∉ F') ∧ (∀ k ∈ F, k ∉ G) ∧ (∀ k ∈ F', k ∉ G) ∧ (∀ k ∈ F, B ≤ k) ∧ (∀ k ∈ F', B ≤ k) ∧ (∀ k ∈ G, B ≤ k) ∧ Fr.Ok l ∧ Fr.Ok m
section
variable {At : World → Nat → List FP → List Nat → Prop} (D : FrKit At) {B p q : Nat} {l m : List FP} {w : World}
theorem FrTwo.oks (h : FrTwo At B p q l m w) : Fr.Ok l ∧ Fr.Ok m := by
  obtain ⟨_, _, _, _, _, _, _, h6, h7⟩ := h
  exact ⟨h6, h7⟩
theorem FrTwo.call1 (h : FrTwo At B p q l m w) (hB : B ≤ w.heap.size) {f : FuncId} {args : Array Value} {l' : List FP} {e0 : Ending} (hl : Fr.Ok l') (hc : ∀ F, At w p l F → Calls Try.prog f args w (FrDid At w p F l' e0)) : Calls Try.prog f args w fun e w' => e = e0 ∧ FrTwo At B p q l' m w' ∧ Below B w w' := by
  obtain ⟨F, G, h1, h2, h3, h4, h5, h6, h7⟩ := h
  refine (hc F h1).mono ?_
  rintro e w' ⟨rfl, F', hA, hT, hG⟩
  refine ⟨rfl, ⟨F', G, hA, h2.touch hT h3, fun k hk hg => ?_, fun k hk => (hG k hk).elim (h4 k) (fun hx => Nat.le_trans hB hx), h5, hl, h7⟩, hT.below hB h4⟩
  rcases hG k hk with hx | hx
  · exact h3 k hx hg
  · have := h2.lt k hg
    omega
theorem FrTwo.look2 (h : FrTwo At B p q l m w) {f : FuncId} {args : Array Value} {e0 : Ending} (hc : ∀ G, FRefAt w q m G → Calls Try.prog f args w fun e w' => e = e0 ∧ w = w') : Calls Try.prog f args w fun e w' => e = e0 ∧ w = w' := by
  obtain ⟨F, G, _, h2, _⟩ := h
  exact hc G h2
include D
theorem FrTwo.below {w' : World} (h : FrTwo At B p q l m w) (hb : Below w.heap.size w w') : FrTwo At B p q l m w' := by
  obtain ⟨F, G, h1, h2, h3, h4, h5, h6, h7⟩ := h
  exact ⟨F, G, D.touch h1 (Touch.ofBelow hb) (by simp), h2.touch (Touch.ofBelow hb) (by simp), h3, h4, h5, h6, h7⟩
theorem FrTwo.call2 (h : FrTwo At B p q l m w) (hB : B ≤ w.heap.size) {f : FuncId} {args : Array Value} {m' : List FP} {e0 : Ending} (hm : Fr.Ok m') (hc : ∀ G, FRefAt w q m G → Calls Try.prog f args w (FrDid FRefAt w q G m' e0)) : Calls Try.prog f args w fun e w' => e = e0 ∧ FrTwo At B p q l m' w' ∧ Below B w w' := by
  obtain ⟨F, G, h1, h2, h3, h4, h5, h6, h7⟩ := h
  refine (hc G h2).mono ?_
  rintro e w' ⟨rfl, G', hA, hT, hG⟩
  refine ⟨rfl, ⟨F, G', D.touch h1 hT (fun k hk hf => h3 k hf hk), hA, fun k hk hg => ?_, h4, fun k hk => (hG k hk).elim (h5 k) (fun hx => Nat.le_trans hB hx), h6, hm⟩, hT.below hB h5⟩
  rcases hG k hg with hx | hx
  · exact h3 k hk hx
  · have := D.lt h1 k hk
    omega
theorem FrTwo.copied (h : FrTwo At B p q l m w) (hB : B ≤ w.heap.size) : Calls Try.prog 15 #[.pointer (some ⟨p, 0, none⟩)] w fun e w' => ∃ p', e = .returned (.pointer (some ⟨p', 0, none⟩)) ∧ FrThree At B p p' q l m w' ∧ Below B w w' := by
  obtain ⟨F, G, h1, h2, h3, h4, h5, h6, h7⟩ := h
  refine (D.copy w p l F h6 h6.len h1).mono ?_
  rintro e w' ⟨p', F', rfl, hA, hF, hb⟩
  refine ⟨p', rfl, ⟨F, F', G, D.touch h1 (Touch.ofBelow hb) (by simp), hA, h2.touch (Touch.ofBelow hb) (by simp), fun k hk hf => ?_, h3, fun k hk hg => ?_, h4, fun k hk => Nat.le_trans hB (hF k hk), h5, h6, h7⟩, hb.mono hB⟩
  · have e1 := D.lt h1 k hk
    have e2 := hF k hf
    omega
  · have e1 := h2.lt k hg
    have e2 := hF k hk
    omega
theorem FrThree.taken {p' : Nat} (h : FrThree At B p p' q l m w) (hB : B ≤ w.heap.size) (u : Int) : Calls Try.prog 13 #[.pointer (some ⟨p, 0, none⟩), .int .i64 u] w fun e w' => e = .returned (.tuple #[.int .i64 (Fr.takeP l u), .bool (Fr.takeB l u)]) ∧ FrTwo At B p' q l m w' ∧ Below B w w' := by
  obtain ⟨F, F', G, h1, h1', h2, h3, h3', h3'', h4, h4', h5, h6, h7⟩ := h
  refine (D.take w p l F u h6 h6.len h1).mono ?_
  rintro e w' ⟨rfl, F2, hA, hT, hG⟩
  exact ⟨rfl, ⟨F', G, D.touch h1' hT h3, h2.touch hT h3', h3'', h4', h5, h6, h7⟩, hT.below hB h4⟩
end
set_option maxRecDepth 100000 in
set_option maxHeartbeats 12800000 in
theorem frplays_any (At : World → Nat → List FP → List Nat → Prop) (D : FrKit At) (w : World) (v : Value) (xs : List FQ) (hx : QuadsAt w w.heap.size v xs) : Calls Try.prog 3 #[v] w fun e w' => e = .returned (.bool true) ∧ Below w.heap.size w w' := by
  have HX := Lib.hid hx
  obtain ⟨A, capA, rfl, _, _⟩ := hx
  have hzl : ∀ w, (zeroValue 29).run Try.prog w = .ok (.agg #[.slice none 0 0]) w := fun w => by kernel_rfl
  go_enter Try.func3, Try.ntmps3
  go_wp2_with fail
  refine (frawake_ok At D _).mono ?_
  rintro _ w1 ⟨rfl, hb1⟩
  go_wp2_with fail
  refine (D.new w1).mono ?_
  rintro _ w2 ⟨p0, F, rfl, hA, hF, hb2⟩
  have hc2 := hb1.trans (hb2.mono hb1.size)
  have hq := Blk.new w2 #[.slice none 0 0] 29
  have hb3 : Below w2.heap.size w2 (w2.alloc (.cells #[.slice none 0 0] 29)) := (Below.refl _ w2).alloc (Nat.le_refl _) _
  obtain ⟨w3, hw3⟩ : ∃ w3, w2.alloc (.cells #[.slice none 0 0] 29) = w3 := ⟨_, rfl⟩
  rw [hw3] at hq hb3
  obtain ⟨q, hqe⟩ : ∃ q, w2.heap.size = q := ⟨_, rfl⟩
  have HB3 : Hid (Below w.heap.size w w3) := Lib.hid (hc2.trans (hb3.mono hc2.size))
  have HT3 : Hid (FrTwo At w.heap.size p0 q [] [] w3) := Lib.hid ⟨F, [q], D.touch hA (Touch.ofBelow hb3) (by simp), ⟨.slice none 0 0, by rw [← hqe]; exact hq, ⟨rfl, .inl ⟨rfl, rfl⟩⟩, rfl, by simp⟩, fun k hk hg => by
    have e1 := D.lt hA k hk
    rw [List.mem_singleton] at hg
    omega, fun k hk => Nat.le_trans hb1.size (hF k hk), fun k hk => by
    rw [List.mem_singleton] at hk
    have := hc2.size
    omega, Fr.Ok.nil, Fr.Ok.nil⟩
  clear hA hF hb2 hq hb3 hc2 hb1
  go_wp2
  go_loopw [3, 5] (fun pp ii wr => ∃ (i : Nat) (l : List FP) (p : Nat), i ≤ xs.length ∧ pp = .pointer (some ⟨p, 0, none⟩) ∧ ii = .int .i64 i ∧ Hid (FrTwo At w.heap.size p q l l wr) ∧ Below w.heap.size w wr) (fun _ ii _ => xs.length - (intOf ii).toNat)
  case atStart => exact ⟨0, _, p0, by omega, rfl, rfl, HT3, HB3.out⟩
  case round =>
    obtain ⟨i, l, p, hi, rfl, rfl, HH, hBr⟩ := hrel
    have hger := hBr.size
    clear hw3 hqe
    by_cases hlt : i < xs.length ∧ i < 80
    · obtain ⟨hlt, hl6⟩ := hlt
      have t1 : decide (i < xs.length) = true := decide_eq_true hlt
      have t2 : decide ((i : Int) < 80) = true := decide_eq_true (by omega)
      obtain ⟨bA, offA, hA, hbl, c0, c1, c2, c3⟩ := (HX.out.below hBr).get i hlt
      have HCS0 : Hid (∀ wx, Below w.heap.size w wx → wx.cell? ⟨bA, offA + i * 4 + 1, none⟩ = some (.int .i64 xs[i].2.1.1) ∧ wx.cell? ⟨bA, offA + i * 4 + 2, none⟩ = some (.int .i64 xs[i].2.1.2) ∧ wx.cell? ⟨bA, offA + i * 4 + 3, none⟩ = some (.int .i64 xs[i].2.2)) := Lib.hid (fun wx hwx => by
        obtain ⟨b', off', hA', _, _, d1, d2, d3⟩ := (HX.out.below hwx).get i hlt
        rw [hA] at hA'
        injection hA' with h
        injection h with h1 h2
        subst h1 h2
        exact ⟨d1, d2, d3⟩)
      obtain ⟨⟨kind, ⟨ft, fp⟩, n⟩, hxi⟩ : ∃ x, xs[i] = x := ⟨_, rfl⟩
      rw [hxi] at c0 c1 c2 c3 HCS0
      have HCS := HCS0
      simp only at c0 c1 c2 c3 HCS
      have i0 : (0 : Int) ≤ (i : Int) := by omega
      have i1 : (i : Int) < (xs.length : Int) := by omega
      have hbw : bA < wr.heap.size := Nat.lt_of_lt_of_le hbl hger
      have HBr := Lib.hid hBr
      have HOK := Lib.hid (FrTwo.oks HH.out).1
      subst hA
      clear hxi hBr HCS0
      by_cases k1 : kind = 1
      · have d1 : (kind == 1) = true := by rw [beq_iff_eq]; exact k1
        clear k1
        obtain ⟨l', hl'⟩ : ∃ x, Fr.addL l (ft, fp) = x := ⟨_, rfl⟩
        obtain ⟨E, hE⟩ : ∃ x, Fr.addE l (ft, fp) = x := ⟨_, rfl⟩
        have hol : Fr.Ok l' := hl' ▸ Fr.addL_ok HOK.out (ft, fp)
        have C1 : Hid (∀ wx, Below wr.heap.size wr wx → Calls Try.prog 11 #[.pointer (some ⟨p, 0, none⟩), .agg #[.int .i64 ft, .int .i64 fp]] wx fun e w' => e = .returned (.int .i64 E) ∧ FrTwo At w.heap.size p q l' l w' ∧ Below w.heap.size wx w') := Lib.hid (fun wx hwx => by
          rw [← hE, ← hl']
          exact FrTwo.call1 (FrTwo.below D HH.out hwx) (Nat.le_trans hger hwx.size) (Fr.addL_ok HOK.out (ft, fp)) (fun F hF => D.add _ _ _ F (ft, fp) HOK.out HOK.out.len hF))
        have C2 : Hid (∀ w4, w.heap.size ≤ w4.heap.size → FrTwo At w.heap.size p q l' l w4 → Calls Try.prog 12 #[.pointer (some ⟨q, 0, none⟩), .agg #[.int .i64 ft, .int .i64 fp]] w4 fun e w' => e = .returned (.int .i64 E) ∧ FrTwo At w.heap.size p q l' l' w' ∧ Below w.heap.size w4 w') := Lib.hid (fun w4 hg h4 => by
          have := FrTwo.call2 D h4 hg (m' := Fr.addL l (ft, fp)) (Fr.addL_ok HOK.out (ft, fp)) (fun G hG => fradd_ok _ _ _ G (ft, fp) (by have := HOK.out.len; omega) hG)
          rw [hE, hl'] at this
          exact this)
        clear hl' hE c3
        go_wp2
        go_region_held3 (fun w' => w'.cell? ⟨bA, offA + i * 4 + 1, none⟩ = some (.int .i64 ft) ∧ w'.cell? ⟨bA, offA + i * 4 + 2, none⟩ = some (.int .i64 fp))
          (first | (go_keep; done) | exact KK.out | exact KK2.out)
          (first
            | (go_at_call 11; refine (C1.out _ ((Below.refl _ wr).drew)).mono ?_; rintro e w4 ⟨rfl, hT4, hb4⟩; have HC4 := Lib.hid (HBr.out.drew.trans hb4); have KK : Hid (w4.cell? ⟨bA, offA + i * 4 + 1, none⟩ = some (.int .i64 ft) ∧ w4.cell? ⟨bA, offA + i * 4 + 2, none⟩ = some (.int .i64 fp)) := Lib.hid ⟨(HCS.out _ HC4.out).1, (HCS.out _ HC4.out).2.1⟩)
            | (go_at_call 12; refine (C2.out _ HC4.out.size hT4).mono ?_; rintro e w5 ⟨rfl, hT5, hb5⟩; have HC5 := Lib.hid (HC4.out.trans hb5); have KK2 : Hid (w5.cell? ⟨bA, offA + i * 4 + 1, none⟩ = some (.int .i64 ft) ∧ w5.cell? ⟨bA, offA + i * 4 + 2, none⟩ = some (.int .i64 fp)) := Lib.hid ⟨(HCS.out _ HC5.out).1, (HCS.out _ HC5.out).2.1⟩))
        have HT := Lib.hid hT5
        have HB5 := HC5
        obtain ⟨wo, hwo⟩ : ∃ wo : World, wo = w5 := ⟨_, rfl⟩
        have HTo : Hid (FrTwo At w.heap.size p q l' l' wo) := Lib.hid (hwo ▸ HT.out)
        have HBo : Hid (Below w.heap.size w wo) := Lib.hid (hwo ▸ HB5.out)
        rw [← hwo]
        clear hwo
        obtain ⟨h1, hh1⟩ : ∃ h, Fr.has l' n = h := ⟨_, rfl⟩
        obtain ⟨h2, hh2⟩ : ∃ h, Fr.has l' fp = h := ⟨_, rfl⟩
        obtain ⟨cn, hcn⟩ : ∃ h, l'.length = h := ⟨_, rfl⟩
        have HOL := Lib.hid (FrTwo.oks HTo.out).1
        have KCA : Hid (∀ wS, Below wo.heap.size wo wS → wS.cell? ⟨bA, offA + i * 4 + 1, none⟩ = some (.int .i64 ft) ∧ wS.cell? ⟨bA, offA + i * 4 + 2, none⟩ = some (.int .i64 fp) ∧ wS.cell? ⟨bA, offA + i * 4 + 3, none⟩ = some (.int .i64 n)) := Lib.hid (fun wS hS => HCS.out wS (HBo.out.trans (hS.mono HBo.out.size)))
        obtain ⟨Aq, cq, KCQ⟩ : ∃ Aq cq, Hid (∀ wS, Below wo.heap.size wo wS → wS.cell? ⟨q, 0, none⟩ = some (.slice Aq cn cq)) := by
          obtain ⟨F, G, _, hr, _⟩ := HTo.out
          obtain ⟨Aq, cq, cp, _, hlt⟩ := hr.head (Nat.le_trans HOL.out.len (by omega))
          rw [hcn] at cp
          exact ⟨Aq, cq, Lib.hid (fun wS hS => (hS.cell (p := ⟨q, 0, none⟩) hlt).trans cp)⟩
        have CH : Hid (∀ k wS, Below wo.heap.size wo wS → Calls Try.prog 16 #[.pointer (some ⟨p, 0, none⟩), .int .i64 k] wS fun e w' => e = .returned (.bool (Fr.has l' k)) ∧ Below wo.heap.size wo w') := Lib.hid (fun k wS hS => by
          obtain ⟨F, G, ha, _⟩ := FrTwo.below D HTo.out hS
          exact (D.has wS p l' F k HOL.out HOL.out.len ha).mono fun _ _ ⟨e, hb⟩ => ⟨e, hS.trans (hb.mono hS.size)⟩)
        have CR : Hid (∀ k wS, Below wo.heap.size wo wS → Calls Try.prog 17 #[.pointer (some ⟨q, 0, none⟩), .int .i64 k] wS fun e w' => e = .returned (.bool (Fr.has l' k)) ∧ Below wo.heap.size wo w') := Lib.hid (fun k wS hS => by
          obtain ⟨F, G, _, hr, _⟩ := FrTwo.below D HTo.out hS
          exact (frhas_ok wS q l' G k (Nat.le_trans HOL.out.len (by omega)) hr).mono fun _ _ ⟨e, hw⟩ => ⟨e, hw ▸ hS⟩)
        have CH1 : Hid (∀ wS, Below wo.heap.size wo wS → Calls Try.prog 16 #[.pointer (some ⟨p, 0, none⟩), .int .i64 n] wS fun e w' => e = .returned (.bool h1) ∧ Below wo.heap.size wo w') := Lib.hid (fun wS hS => by have := CH.out n wS hS; rwa [hh1] at this)
        have CH2 : Hid (∀ wS, Below wo.heap.size wo wS → Calls Try.prog 16 #[.pointer (some ⟨p, 0, none⟩), .int .i64 fp] wS fun e w' => e = .returned (.bool h2) ∧ Below wo.heap.size wo w') := Lib.hid (fun wS hS => by have := CH.out fp wS hS; rwa [hh2] at this)
        have CR1 : Hid (∀ wS, Below wo.heap.size wo wS → Calls Try.prog 17 #[.pointer (some ⟨q, 0, none⟩), .int .i64 n] wS fun e w' => e = .returned (.bool h1) ∧ Below wo.heap.size wo w') := Lib.hid (fun wS hS => by have := CR.out n wS hS; rwa [hh1] at this)
        have CR2 : Hid (∀ wS, Below wo.heap.size wo wS → Calls Try.prog 17 #[.pointer (some ⟨q, 0, none⟩), .int .i64 fp] wS fun e w' => e = .returned (.bool h2) ∧ Below wo.heap.size wo w') := Lib.hid (fun wS hS => by have := CR.out fp wS hS; rwa [hh2] at this)
        have CC1 : Hid (∀ wS, Below wo.heap.size wo wS → Calls Try.prog 18 #[.pointer (some ⟨p, 0, none⟩)] wS fun e w' => e = .returned (.int .i64 (cn : Nat)) ∧ Below wo.heap.size wo w') := Lib.hid (fun wS hS => by
          obtain ⟨F, G, ha, _⟩ := FrTwo.below D HTo.out hS
          have := D.count wS p l' F HOL.out HOL.out.len ha
          rw [hcn] at this
          exact this.mono fun _ _ ⟨e, hb⟩ => ⟨e, hS.trans (hb.mono hS.size)⟩)
        have EHL : ∀ args w, (callFunc 16 args).run Try.prog w = .ok (.enter 16 args) w := fun args w => by kernel_rfl
        have EHR : ∀ args w, (callFunc 17 args).run Try.prog w = .ok (.enter 17 args) w := fun args w => by kernel_rfl
        have ECL : ∀ args w, (callFunc 18 args).run Try.prog w = .ok (.enter 18 args) w := fun args w => by kernel_rfl
        clear hh1 hh2 hcn
        go_upto_region 21 with fail
        refine region_qh (C := fun w' => Below wo.heap.size wo w') (by kernel_rfl) (by kernel_rfl) ((Below.refl _ wo).drew) ?_
        refine qh_op (.pointer (some ⟨p, 0, none⟩)) rfl (fun wS hSw => by go_simp; try with_reducible rfl) ?_
        simp only [Act.put, List.setIfInBounds_toArray, List.set_cons_zero, List.set_cons_succ]
        refine qh_op (.slice (some ⟨bA, offA, none⟩) xs.length capA) rfl (fun wS hSw => by go_simp; try with_reducible rfl) ?_
        simp only [Act.put, List.setIfInBounds_toArray, List.set_cons_zero, List.set_cons_succ]
        refine qh_op (.int .i64 i) rfl (fun wS hSw => by go_simp; try with_reducible rfl) ?_
        simp only [Act.put, List.setIfInBounds_toArray, List.set_cons_zero, List.set_cons_succ]
        refine qh_op (.pointer (some ⟨bA, offA + i * 4, none⟩)) rfl (fun wS hSw => by go_simp; try with_reducible rfl) ?_
        simp only [Act.put, List.setIfInBounds_toArray, List.set_cons_zero, List.set_cons_succ]
        refine qh_op (.pointer (some ⟨bA, offA + i * 4 + 3, none⟩)) rfl (fun wS hSw => by go_simp; try with_reducible rfl) ?_
        simp only [Act.put, List.setIfInBounds_toArray, List.set_cons_zero, List.set_cons_succ]
        refine qh_op (.int .i64 n) rfl (fun wS hSw => by obtain ⟨ka1, ka2, ka3⟩ := KCA.out wS hSw; go_simp; try with_reducible rfl) ?_
        simp only [Act.put, List.setIfInBounds_toArray, List.set_cons_zero, List.set_cons_succ]
        refine qh_call2 (.bool h1) rfl 16 _ _ _ rfl (.pointer (some ⟨p, 0, none⟩)) (.int .i64 n) (by rfl) (by rfl) EHL (fun wS hSw => CH1.out wS hSw) ?_
        simp only [Act.put, List.setIfInBounds_toArray, List.set_cons_zero, List.set_cons_succ]
        refine qh_op (.pointer (some ⟨q, 0, none⟩)) rfl (fun wS hSw => by go_simp; try with_reducible rfl) ?_
        simp only [Act.put, List.setIfInBounds_toArray, List.set_cons_zero, List.set_cons_succ]
        refine qh_op (.slice (some ⟨bA, offA, none⟩) xs.length capA) rfl (fun wS hSw => by go_simp; try with_reducible rfl) ?_
        simp only [Act.put, List.setIfInBounds_toArray, List.set_cons_zero, List.set_cons_succ]
        refine qh_op (.int .i64 i) rfl (fun wS hSw => by go_simp; try with_reducible rfl) ?_
        simp only [Act.put, List.setIfInBounds_toArray, List.set_cons_zero, List.set_cons_succ]
        refine qh_op (.pointer (some ⟨bA, offA + i * 4, none⟩)) rfl (fun wS hSw => by go_simp; try with_reducible rfl) ?_
        simp only [Act.put, List.setIfInBounds_toArray, List.set_cons_zero, List.set_cons_succ]
        refine qh_op (.pointer (some ⟨bA, offA + i * 4 + 3, none⟩)) rfl (fun wS hSw => by go_simp; try with_reducible rfl) ?_
        simp only [Act.put, List.setIfInBounds_toArray, List.set_cons_zero, List.set_cons_succ]
        refine qh_op (.int .i64 n) rfl (fun wS hSw => by obtain ⟨ka1, ka2, ka3⟩ := KCA.out wS hSw; go_simp; try with_reducible rfl) ?_
        simp only [Act.put, List.setIfInBounds_toArray, List.set_cons_zero, List.set_cons_succ]
        refine qh_call2 (.bool h1) rfl 17 _ _ _ rfl (.pointer (some ⟨q, 0, none⟩)) (.int .i64 n) (by rfl) (by rfl) EHR (fun wS hSw => CR1.out wS hSw) ?_
        simp only [Act.put, List.setIfInBounds_toArray, List.set_cons_zero, List.set_cons_succ]
        refine qh_op (.bool false) rfl (fun wS hSw => by go_simp; try with_reducible rfl) ?_
        simp only [Act.put, List.setIfInBounds_toArray, List.set_cons_zero, List.set_cons_succ]
        refine qh_op (.bool false) rfl (fun wS hSw => by go_simp; try with_reducible rfl) ?_
        simp only [Act.put, List.setIfInBounds_toArray, List.set_cons_zero, List.set_cons_succ]
        refine qh_opw (.pointer (some ⟨p, 0, none⟩)) (by rfl) (fun wS hSw => by go_simp; try with_reducible rfl) ?_
        simp only [Act.put, List.setIfInBounds_toArray, List.set_cons_zero, List.set_cons_succ]
        refine qh_opw (.slice (some ⟨bA, offA, none⟩) xs.length capA) (by rfl) (fun wS hSw => by go_simp; try with_reducible rfl) ?_
        simp only [Act.put, List.setIfInBounds_toArray, List.set_cons_zero, List.set_cons_succ]
        refine qh_opw (.int .i64 i) (by rfl) (fun wS hSw => by go_simp; try with_reducible rfl) ?_
        simp only [Act.put, List.setIfInBounds_toArray, List.set_cons_zero, List.set_cons_succ]
        refine qh_opw (.pointer (some ⟨bA, offA + i * 4, none⟩)) (by rfl) (fun wS hSw => by go_simp; try with_reducible rfl) ?_
        simp only [Act.put, List.setIfInBounds_toArray, List.set_cons_zero, List.set_cons_succ]
        refine qh_opw (.pointer (some ⟨bA, offA + i * 4 + 1, none⟩)) (by rfl) (fun wS hSw => by go_simp; try with_reducible rfl) ?_
        simp only [Act.put, List.setIfInBounds_toArray, List.set_cons_zero, List.set_cons_succ]
        refine qh_opw (.pointer (some ⟨bA, offA + i * 4 + 2, none⟩)) (by rfl) (fun wS hSw => by go_simp; try with_reducible rfl) ?_
        simp only [Act.put, List.setIfInBounds_toArray, List.set_cons_zero, List.set_cons_succ]
        refine qh_opw (.int .i64 fp) (by rfl) (fun wS hSw => by obtain ⟨ka1, ka2, ka3⟩ := KCA.out wS hSw; go_simp; try with_reducible rfl) ?_
        simp only [Act.put, List.setIfInBounds_toArray, List.set_cons_zero, List.set_cons_succ]
        refine qh_call2w (.bool h2) (by rfl) 16 _ _ _ rfl (.pointer (some ⟨p, 0, none⟩)) (.int .i64 fp) (by rfl) (by rfl) EHL (fun wS hSw => CH2.out wS hSw) ?_
        simp only [Act.put, List.setIfInBounds_toArray, List.set_cons_zero, List.set_cons_succ]
        refine qh_opw (.pointer (some ⟨q, 0, none⟩)) (by rfl) (fun wS hSw => by go_simp; try with_reducible rfl) ?_
        simp only [Act.put, List.setIfInBounds_toArray, List.set_cons_zero, List.set_cons_succ]
        refine qh_opw (.slice (some ⟨bA, offA, none⟩) xs.length capA) (by rfl) (fun wS hSw => by go_simp; try with_reducible rfl) ?_
        simp only [Act.put, List.setIfInBounds_toArray, List.set_cons_zero, List.set_cons_succ]
        refine qh_opw (.int .i64 i) (by rfl) (fun wS hSw => by go_simp; try with_reducible rfl) ?_
        simp only [Act.put, List.setIfInBounds_toArray, List.set_cons_zero, List.set_cons_succ]
        refine qh_opw (.pointer (some ⟨bA, offA + i * 4, none⟩)) (by rfl) (fun wS hSw => by go_simp; try with_reducible rfl) ?_
        simp only [Act.put, List.setIfInBounds_toArray, List.set_cons_zero, List.set_cons_succ]
        refine qh_opw (.pointer (some ⟨bA, offA + i * 4 + 1, none⟩)) (by rfl) (fun wS hSw => by go_simp; try with_reducible rfl) ?_
        simp only [Act.put, List.setIfInBounds_toArray, List.set_cons_zero, List.set_cons_succ]
        refine qh_opw (.pointer (some ⟨bA, offA + i * 4 + 2, none⟩)) (by rfl) (fun wS hSw => by go_simp; try with_reducible rfl) ?_
        simp only [Act.put, List.setIfInBounds_toArray, List.set_cons_zero, List.set_cons_succ]
        refine qh_opw (.int .i64 fp) (by rfl) (fun wS hSw => by obtain ⟨ka1, ka2, ka3⟩ := KCA.out wS hSw; go_simp; try with_reducible rfl) ?_
        simp only [Act.put, List.setIfInBounds_toArray, List.set_cons_zero, List.set_cons_succ]
        refine qh_call2w (.bool h2) (by rfl) 17 _ _ _ rfl (.pointer (some ⟨q, 0, none⟩)) (.int .i64 fp) (by rfl) (by rfl) EHR (fun wS hSw => CR2.out wS hSw) ?_
        simp only [Act.put, List.setIfInBounds_toArray, List.set_cons_zero, List.set_cons_succ]
        refine qh_opw (.bool false) (by rfl) (fun wS hSw => by go_simp; try with_reducible rfl) ?_
        simp only [Act.put, List.setIfInBounds_toArray, List.set_cons_zero, List.set_cons_succ]
        refine qh_op (.bool false) rfl (fun wS hSw => by go_simp; try with_reducible rfl) ?_
        simp only [Act.put, List.setIfInBounds_toArray, List.set_cons_zero, List.set_cons_succ]
        refine qh_op (.bool false) rfl (fun wS hSw => by go_simp; try with_reducible rfl) ?_
        simp only [Act.put, List.setIfInBounds_toArray, List.set_cons_zero, List.set_cons_succ]
        refine qh_opw (.pointer (some ⟨p, 0, none⟩)) (by rfl) (fun wS hSw => by go_simp; try with_reducible rfl) ?_
        simp only [Act.put, List.setIfInBounds_toArray, List.set_cons_zero, List.set_cons_succ]
        refine qh_call1w (.int .i64 cn) (by rfl) 18 _ _ rfl (.pointer (some ⟨p, 0, none⟩)) (by rfl) ECL (fun wS hSw => CC1.out wS hSw) ?_
        simp only [Act.put, List.setIfInBounds_toArray, List.set_cons_zero, List.set_cons_succ]
        refine qh_opw (.pointer (some ⟨q, 0, none⟩)) (by rfl) (fun wS hSw => by go_simp; try with_reducible rfl) ?_
        simp only [Act.put, List.setIfInBounds_toArray, List.set_cons_zero, List.set_cons_succ]
        refine qh_opw (.pointer (some ⟨q, 0, none⟩)) (by rfl) (fun wS hSw => by go_simp; try with_reducible rfl) ?_
        simp only [Act.put, List.setIfInBounds_toArray, List.set_cons_zero, List.set_cons_succ]
        refine qh_opw (.pointer (some ⟨q, 0, none⟩)) (by rfl) (fun wS hSw => by go_simp; try with_reducible rfl) ?_
        simp only [Act.put, List.setIfInBounds_toArray, List.set_cons_zero, List.set_cons_succ]
        refine qh_opw (.slice Aq cn cq) (by rfl) (fun wS hSw => by have kq := KCQ.out wS hSw; go_simp; try with_reducible rfl) ?_
        simp only [Act.put, List.setIfInBounds_toArray, List.set_cons_zero, List.set_cons_succ]
        refine qh_opw (.int .i64 cn) (by rfl) (fun wS hSw => by go_simp; try with_reducible rfl) ?_
        simp only [Act.put, List.setIfInBounds_toArray, List.set_cons_zero, List.set_cons_succ]
        refine qh_opw (.bool false) (by rfl) (fun wS hSw => by go_simp; try with_reducible rfl) ?_
        simp only [Act.put, List.setIfInBounds_toArray, List.set_cons_zero, List.set_cons_succ]
        refine qh_op (.bool false) rfl (fun wS hSw => by go_simp; try with_reducible rfl) ?_
        simp only [Act.put, List.setIfInBounds_toArray, List.set_cons_zero, List.set_cons_succ]
        refine qh_nil ⟨?_⟩
        intro wE hE
        go_wp2
        go_roundw
        case rel => exact ⟨i + 1, l', p, by omega, rfl, by go_num, Lib.hid (FrTwo.below D HTo.out hE), HBo.out.trans (hE.mono HBo.out.size)⟩
        case measure => simp [intOf]; omega
      · have d1 : (kind == 1) = false := by rw [beq_eq_false_iff_ne]; exact k1
        clear k1
        by_cases k2 : kind = 2
        · have d2 : (kind == 2) = true := by rw [beq_iff_eq]; exact k2
          clear k2
          obtain ⟨l', hl'⟩ : ∃ x, Fr.takeL l n = x := ⟨_, rfl⟩
          obtain ⟨E, hE⟩ : ∃ x, Fr.takeP l n = x := ⟨_, rfl⟩
          obtain ⟨K, hK⟩ : ∃ x, Fr.takeB l n = x := ⟨_, rfl⟩
          have C1 : Hid (Calls Try.prog 13 #[.pointer (some ⟨p, 0, none⟩), .int .i64 n] wr fun e w' => e = .returned (.tuple #[.int .i64 E, .bool K]) ∧ FrTwo At w.heap.size p q l' l w' ∧ Below w.heap.size wr w') := Lib.hid (by
            rw [← hE, ← hl', ← hK]
            exact FrTwo.call1 HH.out hger (Fr.takeL_ok HOK.out n) (fun F hF => D.take _ _ _ F n HOK.out HOK.out.len hF))
          have C2 : Hid (∀ w4, w.heap.size ≤ w4.heap.size → FrTwo At w.heap.size p q l' l w4 → Calls Try.prog 14 #[.pointer (some ⟨q, 0, none⟩), .int .i64 n] w4 fun e w' => e = .returned (.tuple #[.int .i64 E, .bool K]) ∧ FrTwo At w.heap.size p q l' l' w' ∧ Below w.heap.size w4 w') := Lib.hid (fun w4 hg h4 => by
            have := FrTwo.call2 D h4 hg (m' := Fr.takeL l n) (Fr.takeL_ok HOK.out n) (fun G hG => frtake_ok _ _ _ G n HOK.out (by have := HOK.out.len; omega) hG)
            rwa [hE, hl', hK] at this)
          clear hl' hE hK
          go_wp2_with fail
          refine C1.out.mono ?_
          rintro _ w4 ⟨rfl, hT4, hb4⟩
          have hc4 := HBr.out.trans hb4
          have k3 := (HCS.out _ hc4).2.2
          have hb4w : bA < w4.heap.size := Nat.lt_of_lt_of_le hbl hc4.size
          go_wp2_with fail
          refine (C2.out _ hc4.size hT4).mono ?_
          rintro _ w5 ⟨rfl, hT5, hb5⟩
          have HT := Lib.hid hT5
          have HB5 := Lib.hid (hc4.trans hb5)
          clear hT4 hb4 hc4 hT5 hb5 k3 hb4w
          obtain ⟨wo, hwo⟩ : ∃ wo : World, wo = w5 := ⟨_, rfl⟩
          have HTo : Hid (FrTwo At w.heap.size p q l' l' wo) := Lib.hid (hwo ▸ HT.out)
          have HBo : Hid (Below w.heap.size w wo) := Lib.hid (hwo ▸ HB5.out)
          rw [← hwo]
          clear hwo
          obtain ⟨h1, hh1⟩ : ∃ h, Fr.has l' n = h := ⟨_, rfl⟩
          obtain ⟨h2, hh2⟩ : ∃ h, Fr.has l' fp = h := ⟨_, rfl⟩
          obtain ⟨cn, hcn⟩ : ∃ h, l'.length = h := ⟨_, rfl⟩
          have HOL := Lib.hid (FrTwo.oks HTo.out).1
          have KCA : Hid (∀ wS, Below wo.heap.size wo wS → wS.cell? ⟨bA, offA + i * 4 + 1, none⟩ = some (.int .i64 ft) ∧ wS.cell? ⟨bA, offA + i * 4 + 2, none⟩ = some (.int .i64 fp) ∧ wS.cell? ⟨bA, offA + i * 4 + 3, none⟩ = some (.int .i64 n)) := Lib.hid (fun wS hS => HCS.out wS (HBo.out.trans (hS.mono HBo.out.size)))
          obtain ⟨Aq, cq, KCQ⟩ : ∃ Aq cq, Hid (∀ wS, Below wo.heap.size wo wS → wS.cell? ⟨q, 0, none⟩ = some (.slice Aq cn cq)) := by
            obtain ⟨F, G, _, hr, _⟩ := HTo.out
            obtain ⟨Aq, cq, cp, _, hlt⟩ := hr.head (Nat.le_trans HOL.out.len (by omega))
            rw [hcn] at cp
            exact ⟨Aq, cq, Lib.hid (fun wS hS => (hS.cell (p := ⟨q, 0, none⟩) hlt).trans cp)⟩
          have CH : Hid (∀ k wS, Below wo.heap.size wo wS → Calls Try.prog 16 #[.pointer (some ⟨p, 0, none⟩), .int .i64 k] wS fun e w' => e = .returned (.bool (Fr.has l' k)) ∧ Below wo.heap.size wo w') := Lib.hid (fun k wS hS => by
            obtain ⟨F, G, ha, _⟩ := FrTwo.below D HTo.out hS
            exact (D.has wS p l' F k HOL.out HOL.out.len ha).mono fun _ _ ⟨e, hb⟩ => ⟨e, hS.trans (hb.mono hS.size)⟩)
          have CR : Hid (∀ k wS, Below wo.heap.size wo wS → Calls Try.prog 17 #[.pointer (some ⟨q, 0, none⟩), .int .i64 k] wS fun e w' => e = .returned (.bool (Fr.has l' k)) ∧ Below wo.heap.size wo w') := Lib.hid (fun k wS hS => by
            obtain ⟨F, G, _, hr, _⟩ := FrTwo.below D HTo.out hS
            exact (frhas_ok wS q l' G k (Nat.le_trans HOL.out.len (by omega)) hr).mono fun _ _ ⟨e, hw⟩ => ⟨e, hw ▸ hS⟩)
          have CH1 : Hid (∀ wS, Below wo.heap.size wo wS → Calls Try.prog 16 #[.pointer (some ⟨p, 0, none⟩), .int .i64 n] wS fun e w' => e = .returned (.bool h1) ∧ Below wo.heap.size wo w') := Lib.hid (fun wS hS => by have := CH.out n wS hS; rwa [hh1] at this)
          have CH2 : Hid (∀ wS, Below wo.heap.size wo wS → Calls Try.prog 16 #[.pointer (some ⟨p, 0, none⟩), .int .i64 fp] wS fun e w' => e = .returned (.bool h2) ∧ Below wo.heap.size wo w') := Lib.hid (fun wS hS => by have := CH.out fp wS hS; rwa [hh2] at this)
          have CR1 : Hid (∀ wS, Below wo.heap.size wo wS → Calls Try.prog 17 #[.pointer (some ⟨q, 0, none⟩), .int .i64 n] wS fun e w' => e = .returned (.bool h1) ∧ Below wo.heap.size wo w') := Lib.hid (fun wS hS => by have := CR.out n wS hS; rwa [hh1] at this)
          have CR2 : Hid (∀ wS, Below wo.heap.size wo wS → Calls Try.prog 17 #[.pointer (some ⟨q, 0, none⟩), .int .i64 fp] wS fun e w' => e = .returned (.bool h2) ∧ Below wo.heap.size wo w') := Lib.hid (fun wS hS => by have := CR.out fp wS hS; rwa [hh2] at this)
          have CC1 : Hid (∀ wS, Below wo.heap.size wo wS → Calls Try.prog 18 #[.pointer (some ⟨p, 0, none⟩)] wS fun e w' => e = .returned (.int .i64 (cn : Nat)) ∧ Below wo.heap.size wo w') := Lib.hid (fun wS hS => by
            obtain ⟨F, G, ha, _⟩ := FrTwo.below D HTo.out hS
            have := D.count wS p l' F HOL.out HOL.out.len ha
            rw [hcn] at this
            exact this.mono fun _ _ ⟨e, hb⟩ => ⟨e, hS.trans (hb.mono hS.size)⟩)
          have EHL : ∀ args w, (callFunc 16 args).run Try.prog w = .ok (.enter 16 args) w := fun args w => by kernel_rfl
          have EHR : ∀ args w, (callFunc 17 args).run Try.prog w = .ok (.enter 17 args) w := fun args w => by kernel_rfl
          have ECL : ∀ args w, (callFunc 18 args).run Try.prog w = .ok (.enter 18 args) w := fun args w => by kernel_rfl
          clear hh1 hh2 hcn
          go_upto_region 21 with fail
          refine region_qh (C := fun w' => Below wo.heap.size wo w') (by kernel_rfl) (by kernel_rfl) ((Below.refl _ wo).drew) ?_
          refine qh_op (.pointer (some ⟨p, 0, none⟩)) rfl (fun wS hSw => by go_simp; try with_reducible rfl) ?_
          simp only [Act.put, List.setIfInBounds_toArray, List.set_cons_zero, List.set_cons_succ]
          refine qh_op (.slice (some ⟨bA, offA, none⟩) xs.length capA) rfl (fun wS hSw => by go_simp; try with_reducible rfl) ?_
          simp only [Act.put, List.setIfInBounds_toArray, List.set_cons_zero, List.set_cons_succ]
          refine qh_op (.int .i64 i) rfl (fun wS hSw => by go_simp; try with_reducible rfl) ?_
          simp only [Act.put, List.setIfInBounds_toArray, List.set_cons_zero, List.set_cons_succ]
          refine qh_op (.pointer (some ⟨bA, offA + i * 4, none⟩)) rfl (fun wS hSw => by go_simp; try with_reducible rfl) ?_
          simp only [Act.put, List.setIfInBounds_toArray, List.set_cons_zero, List.set_cons_succ]
          refine qh_op (.pointer (some ⟨bA, offA + i * 4 + 3, none⟩)) rfl (fun wS hSw => by go_simp; try with_reducible rfl) ?_
          simp only [Act.put, List.setIfInBounds_toArray, List.set_cons_zero, List.set_cons_succ]
          refine qh_op (.int .i64 n) rfl (fun wS hSw => by obtain ⟨ka1, ka2, ka3⟩ := KCA.out wS hSw; go_simp; try with_reducible rfl) ?_
          simp only [Act.put, List.setIfInBounds_toArray, List.set_cons_zero, List.set_cons_succ]
          refine qh_call2 (.bool h1) rfl 16 _ _ _ rfl (.pointer (some ⟨p, 0, none⟩)) (.int .i64 n) (by rfl) (by rfl) EHL (fun wS hSw => CH1.out wS hSw) ?_
          simp only [Act.put, List.setIfInBounds_toArray, List.set_cons_zero, List.set_cons_succ]
          refine qh_op (.pointer (some ⟨q, 0, none⟩)) rfl (fun wS hSw => by go_simp; try with_reducible rfl) ?_
          simp only [Act.put, List.setIfInBounds_toArray, List.set_cons_zero, List.set_cons_succ]
          refine qh_op (.slice (some ⟨bA, offA, none⟩) xs.length capA) rfl (fun wS hSw => by go_simp; try with_reducible rfl) ?_
          simp only [Act.put, List.setIfInBounds_toArray, List.set_cons_zero, List.set_cons_succ]
          refine qh_op (.int .i64 i) rfl (fun wS hSw => by go_simp; try with_reducible rfl) ?_
          simp only [Act.put, List.setIfInBounds_toArray, List.set_cons_zero, List.set_cons_succ]
          refine qh_op (.pointer (some ⟨bA, offA + i * 4, none⟩)) rfl (fun wS hSw => by go_simp; try with_reducible rfl) ?_
          simp only [Act.put, List.setIfInBounds_toArray, List.set_cons_zero, List.set_cons_succ]
          refine qh_op (.pointer (some ⟨bA, offA + i * 4 + 3, none⟩)) rfl (fun wS hSw => by go_simp; try with_reducible rfl) ?_
          simp only [Act.put, List.setIfInBounds_toArray, List.set_cons_zero, List.set_cons_succ]
          refine qh_op (.int .i64 n) rfl (fun wS hSw => by obtain ⟨ka1, ka2, ka3⟩ := KCA.out wS hSw; go_simp; try with_reducible rfl) ?_
          simp only [Act.put, List.setIfInBounds_toArray, List.set_cons_zero, List.set_cons_succ]
          refine qh_call2 (.bool h1) rfl 17 _ _ _ rfl (.pointer (some ⟨q, 0, none⟩)) (.int .i64 n) (by rfl) (by rfl) EHR (fun wS hSw => CR1.out wS hSw) ?_
          simp only [Act.put, List.setIfInBounds_toArray, List.set_cons_zero, List.set_cons_succ]
          refine qh_op (.bool false) rfl (fun wS hSw => by go_simp; try with_reducible rfl) ?_
          simp only [Act.put, List.setIfInBounds_toArray, List.set_cons_zero, List.set_cons_succ]
          refine qh_op (.bool false) rfl (fun wS hSw => by go_simp; try with_reducible rfl) ?_
          simp only [Act.put, List.setIfInBounds_toArray, List.set_cons_zero, List.set_cons_succ]
          refine qh_opw (.pointer (some ⟨p, 0, none⟩)) (by rfl) (fun wS hSw => by go_simp; try with_reducible rfl) ?_
          simp only [Act.put, List.setIfInBounds_toArray, List.set_cons_zero, List.set_cons_succ]
          refine qh_opw (.slice (some ⟨bA, offA, none⟩) xs.length capA) (by rfl) (fun wS hSw => by go_simp; try with_reducible rfl) ?_
          simp only [Act.put, List.setIfInBounds_toArray, List.set_cons_zero, List.set_cons_succ]
          refine qh_opw (.int .i64 i) (by rfl) (fun wS hSw => by go_simp; try with_reducible rfl) ?_
          simp only [Act.put, List.setIfInBounds_toArray, List.set_cons_zero, List.set_cons_succ]
          refine qh_opw (.pointer (some ⟨bA, offA + i * 4, none⟩)) (by rfl) (fun wS hSw => by go_simp; try with_reducible rfl) ?_
          simp only [Act.put, List.setIfInBounds_toArray, List.set_cons_zero, List.set_cons_succ]
          refine qh_opw (.pointer (some ⟨bA, offA + i * 4 + 1, none⟩)) (by rfl) (fun wS hSw => by go_simp; try with_reducible rfl) ?_
          simp only [Act.put, List.setIfInBounds_toArray, List.set_cons_zero, List.set_cons_succ]
          refine qh_opw (.pointer (some ⟨bA, offA + i * 4 + 2, none⟩)) (by rfl) (fun wS hSw => by go_simp; try with_reducible rfl) ?_
          simp only [Act.put, List.setIfInBounds_toArray, List.set_cons_zero, List.set_cons_succ]
          refine qh_opw (.int .i64 fp) (by rfl) (fun wS hSw => by obtain ⟨ka1, ka2, ka3⟩ := KCA.out wS hSw; go_simp; try with_reducible rfl) ?_
          simp only [Act.put, List.setIfInBounds_toArray, List.set_cons_zero, List.set_cons_succ]
          refine qh_call2w (.bool h2) (by rfl) 16 _ _ _ rfl (.pointer (some ⟨p, 0, none⟩)) (.int .i64 fp) (by rfl) (by rfl) EHL (fun wS hSw => CH2.out wS hSw) ?_
          simp only [Act.put, List.setIfInBounds_toArray, List.set_cons_zero, List.set_cons_succ]
          refine qh_opw (.pointer (some ⟨q, 0, none⟩)) (by rfl) (fun wS hSw => by go_simp; try with_reducible rfl) ?_
          simp only [Act.put, List.setIfInBounds_toArray, List.set_cons_zero, List.set_cons_succ]
          refine qh_opw (.slice (some ⟨bA, offA, none⟩) xs.length capA) (by rfl) (fun wS hSw => by go_simp; try with_reducible rfl) ?_
          simp only [Act.put, List.setIfInBounds_toArray, List.set_cons_zero, List.set_cons_succ]
          refine qh_opw (.int .i64 i) (by rfl) (fun wS hSw => by go_simp; try with_reducible rfl) ?_
          simp only [Act.put, List.setIfInBounds_toArray, List.set_cons_zero, List.set_cons_succ]
          refine qh_opw (.pointer (some ⟨bA, offA + i * 4, none⟩)) (by rfl) (fun wS hSw => by go_simp; try with_reducible rfl) ?_
          simp only [Act.put, List.setIfInBounds_toArray, List.set_cons_zero, List.set_cons_succ]
          refine qh_opw (.pointer (some ⟨bA, offA + i * 4 + 1, none⟩)) (by rfl) (fun wS hSw => by go_simp; try with_reducible rfl) ?_
          simp only [Act.put, List.setIfInBounds_toArray, List.set_cons_zero, List.set_cons_succ]
          refine qh_opw (.pointer (some ⟨bA, offA + i * 4 + 2, none⟩)) (by rfl) (fun wS hSw => by go_simp; try with_reducible rfl) ?_
          simp only [Act.put, List.setIfInBounds_toArray, List.set_cons_zero, List.set_cons_succ]
          refine qh_opw (.int .i64 fp) (by rfl) (fun wS hSw => by obtain ⟨ka1, ka2, ka3⟩ := KCA.out wS hSw; go_simp; try with_reducible rfl) ?_
          simp only [Act.put, List.setIfInBounds_toArray, List.set_cons_zero, List.set_cons_succ]
          refine qh_call2w (.bool h2) (by rfl) 17 _ _ _ rfl (.pointer (some ⟨q, 0, none⟩)) (.int .i64 fp) (by rfl) (by rfl) EHR (fun wS hSw => CR2.out wS hSw) ?_
          simp only [Act.put, List.setIfInBounds_toArray, List.set_cons_zero, List.set_cons_succ]
          refine qh_opw (.bool false) (by rfl) (fun wS hSw => by go_simp; try with_reducible rfl) ?_
          simp only [Act.put, List.setIfInBounds_toArray, List.set_cons_zero, List.set_cons_succ]
          refine qh_op (.bool false) rfl (fun wS hSw => by go_simp; try with_reducible rfl) ?_
          simp only [Act.put, List.setIfInBounds_toArray, List.set_cons_zero, List.set_cons_succ]
          refine qh_op (.bool false) rfl (fun wS hSw => by go_simp; try with_reducible rfl) ?_
          simp only [Act.put, List.setIfInBounds_toArray, List.set_cons_zero, List.set_cons_succ]
          refine qh_opw (.pointer (some ⟨p, 0, none⟩)) (by rfl) (fun wS hSw => by go_simp; try with_reducible rfl) ?_
          simp only [Act.put, List.setIfInBounds_toArray, List.set_cons_zero, List.set_cons_succ]
          refine qh_call1w (.int .i64 cn) (by rfl) 18 _ _ rfl (.pointer (some ⟨p, 0, none⟩)) (by rfl) ECL (fun wS hSw => CC1.out wS hSw) ?_
          simp only [Act.put, List.setIfInBounds_toArray, List.set_cons_zero, List.set_cons_succ]
          refine qh_opw (.pointer (some ⟨q, 0, none⟩)) (by rfl) (fun wS hSw => by go_simp; try with_reducible rfl) ?_
          simp only [Act.put, List.setIfInBounds_toArray, List.set_cons_zero, List.set_cons_succ]
          refine qh_opw (.pointer (some ⟨q, 0, none⟩)) (by rfl) (fun wS hSw => by go_simp; try with_reducible rfl) ?_
          simp only [Act.put, List.setIfInBounds_toArray, List.set_cons_zero, List.set_cons_succ]
          refine qh_opw (.pointer (some ⟨q, 0, none⟩)) (by rfl) (fun wS hSw => by go_simp; try with_reducible rfl) ?_
          simp only [Act.put, List.setIfInBounds_toArray, List.set_cons_zero, List.set_cons_succ]
          refine qh_opw (.slice Aq cn cq) (by rfl) (fun wS hSw => by have kq := KCQ.out wS hSw; go_simp; try with_reducible rfl) ?_
          simp only [Act.put, List.setIfInBounds_toArray, List.set_cons_zero, List.set_cons_succ]
          refine qh_opw (.int .i64 cn) (by rfl) (fun wS hSw => by go_simp; try with_reducible rfl) ?_
          simp only [Act.put, List.setIfInBounds_toArray, List.set_cons_zero, List.set_cons_succ]
          refine qh_opw (.bool false) (by rfl) (fun wS hSw => by go_simp; try with_reducible rfl) ?_
          simp only [Act.put, List.setIfInBounds_toArray, List.set_cons_zero, List.set_cons_succ]
          refine qh_op (.bool false) rfl (fun wS hSw => by go_simp; try with_reducible rfl) ?_
          simp only [Act.put, List.setIfInBounds_toArray, List.set_cons_zero, List.set_cons_succ]
          refine qh_nil ⟨?_⟩
          intro wE hE
          go_wp2
          go_roundw
          case rel => exact ⟨i + 1, l', p, by omega, rfl, by go_num, Lib.hid (FrTwo.below D HTo.out hE), HBo.out.trans (hE.mono HBo.out.size)⟩
          case measure => simp [intOf]; omega
        · have d2 : (kind == 2) = false := by rw [beq_eq_false_iff_ne]; exact k2
          clear k2
          by_cases k3 : kind = 3
          · have d3 : (kind == 3) = true := by rw [beq_iff_eq]; exact k3
            clear k3
            obtain ⟨l', rfl⟩ : ∃ x, x = l := ⟨_, rfl⟩
            obtain ⟨E, hE⟩ : ∃ x, Fr.takeP l' 1099511627776 = x := ⟨_, rfl⟩
            obtain ⟨K, hK⟩ : ∃ x, Fr.takeB l' 1099511627776 = x := ⟨_, rfl⟩
            have C2 : Hid (∀ p' w4, w.heap.size ≤ w4.heap.size → FrThree At w.heap.size p p' q l' l' w4 → Calls Try.prog 13 #[.pointer (some ⟨p, 0, none⟩), .int .i64 1099511627776] w4 fun e w' => e = .returned (.tuple #[.int .i64 E, .bool K]) ∧ FrTwo At w.heap.size p' q l' l' w' ∧ Below w.heap.size w4 w') := Lib.hid (fun p' w4 hg h4 => by
              have := FrThree.taken D h4 hg 1099511627776
              rwa [hE, hK] at this)
            clear hE hK
            go_wp2_with fail
            refine (FrTwo.copied D HH.out hger).mono ?_
            rintro _ w4 ⟨p', rfl, hT4, hb4⟩
            have hc4 := HBr.out.trans hb4
            go_wp2_with fail
            refine (C2.out p' _ hc4.size hT4).mono ?_
            rintro _ w5 ⟨rfl, hT5, hb5⟩
            have HT := Lib.hid hT5
            have HB5 := Lib.hid (hc4.trans hb5)
            clear hT4 hb4 hc4 hT5 hb5
            obtain ⟨wo, hwo⟩ : ∃ wo : World, wo = w5 := ⟨_, rfl⟩
            have HTo : Hid (FrTwo At w.heap.size p' q l' l' wo) := Lib.hid (hwo ▸ HT.out)
            have HBo : Hid (Below w.heap.size w wo) := Lib.hid (hwo ▸ HB5.out)
            rw [← hwo]
            clear hwo
            obtain ⟨h1, hh1⟩ : ∃ h, Fr.has l' n = h := ⟨_, rfl⟩
            obtain ⟨h2, hh2⟩ : ∃ h, Fr.has l' fp = h := ⟨_, rfl⟩
            obtain ⟨cn, hcn⟩ : ∃ h, l'.length = h := ⟨_, rfl⟩
            have HOL := Lib.hid (FrTwo.oks HTo.out).1
            have KCA : Hid (∀ wS, Below wo.heap.size wo wS → wS.cell? ⟨bA, offA + i * 4 + 1, none⟩ = some (.int .i64 ft) ∧ wS.cell? ⟨bA, offA + i * 4 + 2, none⟩ = some (.int .i64 fp) ∧ wS.cell? ⟨bA, offA + i * 4 + 3, none⟩ = some (.int .i64 n)) := Lib.hid (fun wS hS => HCS.out wS (HBo.out.trans (hS.mono HBo.out.size)))
            obtain ⟨Aq, cq, KCQ⟩ : ∃ Aq cq, Hid (∀ wS, Below wo.heap.size wo wS → wS.cell? ⟨q, 0, none⟩ = some (.slice Aq cn cq)) := by
              obtain ⟨F, G, _, hr, _⟩ := HTo.out
              obtain ⟨Aq, cq, cp, _, hlt⟩ := hr.head (Nat.le_trans HOL.out.len (by omega))
              rw [hcn] at cp
              exact ⟨Aq, cq, Lib.hid (fun wS hS => (hS.cell (p := ⟨q, 0, none⟩) hlt).trans cp)⟩
            have CH : Hid (∀ k wS, Below wo.heap.size wo wS → Calls Try.prog 16 #[.pointer (some ⟨p', 0, none⟩), .int .i64 k] wS fun e w' => e = .returned (.bool (Fr.has l' k)) ∧ Below wo.heap.size wo w') := Lib.hid (fun k wS hS => by
              obtain ⟨F, G, ha, _⟩ := FrTwo.below D HTo.out hS
              exact (D.has wS p' l' F k HOL.out HOL.out.len ha).mono fun _ _ ⟨e, hb⟩ => ⟨e, hS.trans (hb.mono hS.size)⟩)
            have CR : Hid (∀ k wS, Below wo.heap.size wo wS → Calls Try.prog 17 #[.pointer (some ⟨q, 0, none⟩), .int .i64 k] wS fun e w' => e = .returned (.bool (Fr.has l' k)) ∧ Below wo.heap.size wo w') := Lib.hid (fun k wS hS => by
              obtain ⟨F, G, _, hr, _⟩ := FrTwo.below D HTo.out hS
              exact (frhas_ok wS q l' G k (Nat.le_trans HOL.out.len (by omega)) hr).mono fun _ _ ⟨e, hw⟩ => ⟨e, hw ▸ hS⟩)
            have CH1 : Hid (∀ wS, Below wo.heap.size wo wS → Calls Try.prog 16 #[.pointer (some ⟨p', 0, none⟩), .int .i64 n] wS fun e w' => e = .returned (.bool h1) ∧ Below wo.heap.size wo w') := Lib.hid (fun wS hS => by have := CH.out n wS hS; rwa [hh1] at this)
            have CH2 : Hid (∀ wS, Below wo.heap.size wo wS → Calls Try.prog 16 #[.pointer (some ⟨p', 0, none⟩), .int .i64 fp] wS fun e w' => e = .returned (.bool h2) ∧ Below wo.heap.size wo w') := Lib.hid (fun wS hS => by have := CH.out fp wS hS; rwa [hh2] at this)
            have CR1 : Hid (∀ wS, Below wo.heap.size wo wS → Calls Try.prog 17 #[.pointer (some ⟨q, 0, none⟩), .int .i64 n] wS fun e w' => e = .returned (.bool h1) ∧ Below wo.heap.size wo w') := Lib.hid (fun wS hS => by have := CR.out n wS hS; rwa [hh1] at this)
            have CR2 : Hid (∀ wS, Below wo.heap.size wo wS → Calls Try.prog 17 #[.pointer (some ⟨q, 0, none⟩), .int .i64 fp] wS fun e w' => e = .returned (.bool h2) ∧ Below wo.heap.size wo w') := Lib.hid (fun wS hS => by have := CR.out fp wS hS; rwa [hh2] at this)
            have CC1 : Hid (∀ wS, Below wo.heap.size wo wS → Calls Try.prog 18 #[.pointer (some ⟨p', 0, none⟩)] wS fun e w' => e = .returned (.int .i64 (cn : Nat)) ∧ Below wo.heap.size wo w') := Lib.hid (fun wS hS => by
              obtain ⟨F, G, ha, _⟩ := FrTwo.below D HTo.out hS
              have := D.count wS p' l' F HOL.out HOL.out.len ha
              rw [hcn] at this
              exact this.mono fun _ _ ⟨e, hb⟩ => ⟨e, hS.trans (hb.mono hS.size)⟩)
            have EHL : ∀ args w, (callFunc 16 args).run Try.prog w = .ok (.enter 16 args) w := fun args w => by kernel_rfl
            have EHR : ∀ args w, (callFunc 17 args).run Try.prog w = .ok (.enter 17 args) w := fun args w => by kernel_rfl
            have ECL : ∀ args w, (callFunc 18 args).run Try.prog w = .ok (.enter 18 args) w := fun args w => by kernel_rfl
            clear hh1 hh2 hcn
            go_upto_region 21 with fail
            refine region_qh (C := fun w' => Below wo.heap.size wo w') (by kernel_rfl) (by kernel_rfl) ((Below.refl _ wo).drew) ?_
            refine qh_op (.pointer (some ⟨p', 0, none⟩)) rfl (fun wS hSw => by go_simp; try with_reducible rfl) ?_
            simp only [Act.put, List.setIfInBounds_toArray, List.set_cons_zero, List.set_cons_succ]
            refine qh_op (.slice (some ⟨bA, offA, none⟩) xs.length capA) rfl (fun wS hSw => by go_simp; try with_reducible rfl) ?_
            simp only [Act.put, List.setIfInBounds_toArray, List.set_cons_zero, List.set_cons_succ]
            refine qh_op (.int .i64 i) rfl (fun wS hSw => by go_simp; try with_reducible rfl) ?_
            simp only [Act.put, List.setIfInBounds_toArray, List.set_cons_zero, List.set_cons_succ]
            refine qh_op (.pointer (some ⟨bA, offA + i * 4, none⟩)) rfl (fun wS hSw => by go_simp; try with_reducible rfl) ?_
            simp only [Act.put, List.setIfInBounds_toArray, List.set_cons_zero, List.set_cons_succ]
            refine qh_op (.pointer (some ⟨bA, offA + i * 4 + 3, none⟩)) rfl (fun wS hSw => by go_simp; try with_reducible rfl) ?_
            simp only [Act.put, List.setIfInBounds_toArray, List.set_cons_zero, List.set_cons_succ]
            refine qh_op (.int .i64 n) rfl (fun wS hSw => by obtain ⟨ka1, ka2, ka3⟩ := KCA.out wS hSw; go_simp; try with_reducible rfl) ?_
            simp only [Act.put, List.setIfInBounds_toArray, List.set_cons_zero, List.set_cons_succ]
            refine qh_call2 (.bool h1) rfl 16 _ _ _ rfl (.pointer (some ⟨p', 0, none⟩)) (.int .i64 n) (by rfl) (by rfl) EHL (fun wS hSw => CH1.out wS hSw) ?_
            simp only [Act.put, List.setIfInBounds_toArray, List.set_cons_zero, List.set_cons_succ]
            refine qh_op (.pointer (some ⟨q, 0, none⟩)) rfl (fun wS hSw => by go_simp; try with_reducible rfl) ?_
            simp only [Act.put, List.setIfInBounds_toArray, List.set_cons_zero, List.set_cons_succ]
            refine qh_op (.slice (some ⟨bA, offA, none⟩) xs.length capA) rfl (fun wS hSw => by go_simp; try with_reducible rfl) ?_
            simp only [Act.put, List.setIfInBounds_toArray, List.set_cons_zero, List.set_cons_succ]
            refine qh_op (.int .i64 i) rfl (fun wS hSw => by go_simp; try with_reducible rfl) ?_
            simp only [Act.put, List.setIfInBounds_toArray, List.set_cons_zero, List.set_cons_succ]
            refine qh_op (.pointer (some ⟨bA, offA + i * 4, none⟩)) rfl (fun wS hSw => by go_simp; try with_reducible rfl) ?_
            simp only [Act.put, List.setIfInBounds_toArray, List.set_cons_zero, List.set_cons_succ]
            refine qh_op (.pointer (some ⟨bA, offA + i * 4 + 3, none⟩)) rfl (fun wS hSw => by go_simp; try with_reducible rfl) ?_
            simp only [Act.put, List.setIfInBounds_toArray, List.set_cons_zero, List.set_cons_succ]
            refine qh_op (.int .i64 n) rfl (fun wS hSw => by obtain ⟨ka1, ka2, ka3⟩ := KCA.out wS hSw; go_simp; try with_reducible rfl) ?_
            simp only [Act.put, List.setIfInBounds_toArray, List.set_cons_zero, List.set_cons_succ]
            refine qh_call2 (.bool h1) rfl 17 _ _ _ rfl (.pointer (some ⟨q, 0, none⟩)) (.int .i64 n) (by rfl) (by rfl) EHR (fun wS hSw => CR1.out wS hSw) ?_
            simp only [Act.put, List.setIfInBounds_toArray, List.set_cons_zero, List.set_cons_succ]
            refine qh_op (.bool false) rfl (fun wS hSw => by go_simp; try with_reducible rfl) ?_
            simp only [Act.put, List.setIfInBounds_toArray, List.set_cons_zero, List.set_cons_succ]
            refine qh_op (.bool false) rfl (fun wS hSw => by go_simp; try with_reducible rfl) ?_
            simp only [Act.put, List.setIfInBounds_toArray, List.set_cons_zero, List.set_cons_succ]
            refine qh_opw (.pointer (some ⟨p', 0, none⟩)) (by rfl) (fun wS hSw => by go_simp; try with_reducible rfl) ?_
            simp only [Act.put, List.setIfInBounds_toArray, List.set_cons_zero, List.set_cons_succ]
            refine qh_opw (.slice (some ⟨bA, offA, none⟩) xs.length capA) (by rfl) (fun wS hSw => by go_simp; try with_reducible rfl) ?_
            simp only [Act.put, List.setIfInBounds_toArray, List.set_cons_zero, List.set_cons_succ]
            refine qh_opw (.int .i64 i) (by rfl) (fun wS hSw => by go_simp; try with_reducible rfl) ?_
            simp only [Act.put, List.setIfInBounds_toArray, List.set_cons_zero, List.set_cons_succ]
            refine qh_opw (.pointer (some ⟨bA, offA + i * 4, none⟩)) (by rfl) (fun wS hSw => by go_simp; try with_reducible rfl) ?_
            simp only [Act.put, List.setIfInBounds_toArray, List.set_cons_zero, List.set_cons_succ]
            refine qh_opw (.pointer (some ⟨bA, offA + i * 4 + 1, none⟩)) (by rfl) (fun wS hSw => by go_simp; try with_reducible rfl) ?_
            simp only [Act.put, List.setIfInBounds_toArray, List.set_cons_zero, List.set_cons_succ]
            refine qh_opw (.pointer (some ⟨bA, offA + i * 4 + 2, none⟩)) (by rfl) (fun wS hSw => by go_simp; try with_reducible rfl) ?_
            simp only [Act.put, List.setIfInBounds_toArray, List.set_cons_zero, List.set_cons_succ]
            refine qh_opw (.int .i64 fp) (by rfl) (fun wS hSw => by obtain ⟨ka1, ka2, ka3⟩ := KCA.out wS hSw; go_simp; try with_reducible rfl) ?_
            simp only [Act.put, List.setIfInBounds_toArray, List.set_cons_zero, List.set_cons_succ]
            refine qh_call2w (.bool h2) (by rfl) 16 _ _ _ rfl (.pointer (some ⟨p', 0, none⟩)) (.int .i64 fp) (by rfl) (by rfl) EHL (fun wS hSw => CH2.out wS hSw) ?_
            simp only [Act.put, List.setIfInBounds_toArray, List.set_cons_zero, List.set_cons_succ]
            refine qh_opw (.pointer (some ⟨q, 0, none⟩)) (by rfl) (fun wS hSw => by go_simp; try with_reducible rfl) ?_
            simp only [Act.put, List.setIfInBounds_toArray, List.set_cons_zero, List.set_cons_succ]
            refine qh_opw (.slice (some ⟨bA, offA, none⟩) xs.length capA) (by rfl) (fun wS hSw => by go_simp; try with_reducible rfl) ?_
            simp only [Act.put, List.setIfInBounds_toArray, List.set_cons_zero, List.set_cons_succ]
            refine qh_opw (.int .i64 i) (by rfl) (fun wS hSw => by go_simp; try with_reducible rfl) ?_
            simp only [Act.put, List.setIfInBounds_toArray, List.set_cons_zero, List.set_cons_succ]
            refine qh_opw (.pointer (some ⟨bA, offA + i * 4, none⟩)) (by rfl) (fun wS hSw => by go_simp; try with_reducible rfl) ?_
            simp only [Act.put, List.setIfInBounds_toArray, List.set_cons_zero, List.set_cons_succ]
            refine qh_opw (.pointer (some ⟨bA, offA + i * 4 + 1, none⟩)) (by rfl) (fun wS hSw => by go_simp; try with_reducible rfl) ?_
            simp only [Act.put, List.setIfInBounds_toArray, List.set_cons_zero, List.set_cons_succ]
            refine qh_opw (.pointer (some ⟨bA, offA + i * 4 + 2, none⟩)) (by rfl) (fun wS hSw => by go_simp; try with_reducible rfl) ?_
            simp only [Act.put, List.setIfInBounds_toArray, List.set_cons_zero, List.set_cons_succ]
            refine qh_opw (.int .i64 fp) (by rfl) (fun wS hSw => by obtain ⟨ka1, ka2, ka3⟩ := KCA.out wS hSw; go_simp; try with_reducible rfl) ?_
            simp only [Act.put, List.setIfInBounds_toArray, List.set_cons_zero, List.set_cons_succ]
            refine qh_call2w (.bool h2) (by rfl) 17 _ _ _ rfl (.pointer (some ⟨q, 0, none⟩)) (.int .i64 fp) (by rfl) (by rfl) EHR (fun wS hSw => CR2.out wS hSw) ?_
            simp only [Act.put, List.setIfInBounds_toArray, List.set_cons_zero, List.set_cons_succ]
            refine qh_opw (.bool false) (by rfl) (fun wS hSw => by go_simp; try with_reducible rfl) ?_
            simp only [Act.put, List.setIfInBounds_toArray, List.set_cons_zero, List.set_cons_succ]
            refine qh_op (.bool false) rfl (fun wS hSw => by go_simp; try with_reducible rfl) ?_
            simp only [Act.put, List.setIfInBounds_toArray, List.set_cons_zero, List.set_cons_succ]
            refine qh_op (.bool false) rfl (fun wS hSw => by go_simp; try with_reducible rfl) ?_
            simp only [Act.put, List.setIfInBounds_toArray, List.set_cons_zero, List.set_cons_succ]
            refine qh_opw (.pointer (some ⟨p', 0, none⟩)) (by rfl) (fun wS hSw => by go_simp; try with_reducible rfl) ?_
            simp only [Act.put, List.setIfInBounds_toArray, List.set_cons_zero, List.set_cons_succ]
            refine qh_call1w (.int .i64 cn) (by rfl) 18 _ _ rfl (.pointer (some ⟨p', 0, none⟩)) (by rfl) ECL (fun wS hSw => CC1.out wS hSw) ?_
            simp only [Act.put, List.setIfInBounds_toArray, List.set_cons_zero, List.set_cons_succ]
            refine qh_opw (.pointer (some ⟨q, 0, none⟩)) (by rfl) (fun wS hSw => by go_simp; try with_reducible rfl) ?_
            simp only [Act.put, List.setIfInBounds_toArray, List.set_cons_zero, List.set_cons_succ]
            refine qh_opw (.pointer (some ⟨q, 0, none⟩)) (by rfl) (fun wS hSw => by go_simp; try with_reducible rfl) ?_
            simp only [Act.put, List.setIfInBounds_toArray, List.set_cons_zero, List.set_cons_succ]
            refine qh_opw (.pointer (some ⟨q, 0, none⟩)) (by rfl) (fun wS hSw => by go_simp; try with_reducible rfl) ?_
            simp only [Act.put, List.setIfInBounds_toArray, List.set_cons_zero, List.set_cons_succ]
            refine qh_opw (.slice Aq cn cq) (by rfl) (fun wS hSw => by have kq := KCQ.out wS hSw; go_simp; try with_reducible rfl) ?_
            simp only [Act.put, List.setIfInBounds_toArray, List.set_cons_zero, List.set_cons_succ]
            refine qh_opw (.int .i64 cn) (by rfl) (fun wS hSw => by go_simp; try with_reducible rfl) ?_
            simp only [Act.put, List.setIfInBounds_toArray, List.set_cons_zero, List.set_cons_succ]
            refine qh_opw (.bool false) (by rfl) (fun wS hSw => by go_simp; try with_reducible rfl) ?_
            simp only [Act.put, List.setIfInBounds_toArray, List.set_cons_zero, List.set_cons_succ]
            refine qh_op (.bool false) rfl (fun wS hSw => by go_simp; try with_reducible rfl) ?_
            simp only [Act.put, List.setIfInBounds_toArray, List.set_cons_zero, List.set_cons_succ]
            refine qh_nil ⟨?_⟩
            intro wE hE
            go_wp2
            go_roundw
            case rel => exact ⟨i + 1, l', p', by omega, rfl, by go_num, Lib.hid (FrTwo.below D HTo.out hE), HBo.out.trans (hE.mono HBo.out.size)⟩
            case measure => simp [intOf]; omega
          · have d3 : (kind == 3) = false := by rw [beq_eq_false_iff_ne]; exact k3
            clear k3
            obtain ⟨l', rfl⟩ : ∃ x, x = l := ⟨_, rfl⟩
            obtain ⟨w5, rfl⟩ : ∃ w5 : World, w5 = wr := ⟨_, rfl⟩
            have HT := HH
            have HB5 := HBr
            go_upto_region 21 with fail
            obtain ⟨wo, hwo⟩ : ∃ wo : World, wo = w5 := ⟨_, rfl⟩
            have HTo : Hid (FrTwo At w.heap.size p q l' l' wo) := Lib.hid (hwo ▸ HT.out)
            have HBo : Hid (Below w.heap.size w wo) := Lib.hid (hwo ▸ HB5.out)
            rw [← hwo]
            clear hwo
            obtain ⟨h1, hh1⟩ : ∃ h, Fr.has l' n = h := ⟨_, rfl⟩
            obtain ⟨h2, hh2⟩ : ∃ h, Fr.has l' fp = h := ⟨_, rfl⟩
            obtain ⟨cn, hcn⟩ : ∃ h, l'.length = h := ⟨_, rfl⟩
            have HOL := Lib.hid (FrTwo.oks HTo.out).1
            have KCA : Hid (∀ wS, Below wo.heap.size wo wS → wS.cell? ⟨bA, offA + i * 4 + 1, none⟩ = some (.int .i64 ft) ∧ wS.cell? ⟨bA, offA + i * 4 + 2, none⟩ = some (.int .i64 fp) ∧ wS.cell? ⟨bA, offA + i * 4 + 3, none⟩ = some (.int .i64 n)) := Lib.hid (fun wS hS => HCS.out wS (HBo.out.trans (hS.mono HBo.out.size)))
            obtain ⟨Aq, cq, KCQ⟩ : ∃ Aq cq, Hid (∀ wS, Below wo.heap.size wo wS → wS.cell? ⟨q, 0, none⟩ = some (.slice Aq cn cq)) := by
              obtain ⟨F, G, _, hr, _⟩ := HTo.out
              obtain ⟨Aq, cq, cp, _, hlt⟩ := hr.head (Nat.le_trans HOL.out.len (by omega))
              rw [hcn] at cp
              exact ⟨Aq, cq, Lib.hid (fun wS hS => (hS.cell (p := ⟨q, 0, none⟩) hlt).trans cp)⟩
            have CH : Hid (∀ k wS, Below wo.heap.size wo wS → Calls Try.prog 16 #[.pointer (some ⟨p, 0, none⟩), .int .i64 k] wS fun e w' => e = .returned (.bool (Fr.has l' k)) ∧ Below wo.heap.size wo w') := Lib.hid (fun k wS hS => by
              obtain ⟨F, G, ha, _⟩ := FrTwo.below D HTo.out hS
              exact (D.has wS p l' F k HOL.out HOL.out.len ha).mono fun _ _ ⟨e, hb⟩ => ⟨e, hS.trans (hb.mono hS.size)⟩)
            have CR : Hid (∀ k wS, Below wo.heap.size wo wS → Calls Try.prog 17 #[.pointer (some ⟨q, 0, none⟩), .int .i64 k] wS fun e w' => e = .returned (.bool (Fr.has l' k)) ∧ Below wo.heap.size wo w') := Lib.hid (fun k wS hS => by
              obtain ⟨F, G, _, hr, _⟩ := FrTwo.below D HTo.out hS
              exact (frhas_ok wS q l' G k (Nat.le_trans HOL.out.len (by omega)) hr).mono fun _ _ ⟨e, hw⟩ => ⟨e, hw ▸ hS⟩)
            have CH1 : Hid (∀ wS, Below wo.heap.size wo wS → Calls Try.prog 16 #[.pointer (some ⟨p, 0, none⟩), .int .i64 n] wS fun e w' => e = .returned (.bool h1) ∧ Below wo.heap.size wo w') := Lib.hid (fun wS hS => by have := CH.out n wS hS; rwa [hh1] at this)
            have CH2 : Hid (∀ wS, Below wo.heap.size wo wS → Calls Try.prog 16 #[.pointer (some ⟨p, 0, none⟩), .int .i64 fp] wS fun e w' => e = .returned (.bool h2) ∧ Below wo.heap.size wo w') := Lib.hid (fun wS hS => by have := CH.out fp wS hS; rwa [hh2] at this)
            have CR1 : Hid (∀ wS, Below wo.heap.size wo wS → Calls Try.prog 17 #[.pointer (some ⟨q, 0, none⟩), .int .i64 n] wS fun e w' => e = .returned (.bool h1) ∧ Below wo.heap.size wo w') := Lib.hid (fun wS hS => by have := CR.out n wS hS; rwa [hh1] at this)
            have CR2 : Hid (∀ wS, Below wo.heap.size wo wS → Calls Try.prog 17 #[.pointer (some ⟨q, 0, none⟩), .int .i64 fp] wS fun e w' => e = .returned (.bool h2) ∧ Below wo.heap.size wo w') := Lib.hid (fun wS hS => by have := CR.out fp wS hS; rwa [hh2] at this)
            have CC1 : Hid (∀ wS, Below wo.heap.size wo wS → Calls Try.prog 18 #[.pointer (some ⟨p, 0, none⟩)] wS fun e w' => e = .returned (.int .i64 (cn : Nat)) ∧ Below wo.heap.size wo w') := Lib.hid (fun wS hS => by
              obtain ⟨F, G, ha, _⟩ := FrTwo.below D HTo.out hS
              have := D.count wS p l' F HOL.out HOL.out.len ha
              rw [hcn] at this
              exact this.mono fun _ _ ⟨e, hb⟩ => ⟨e, hS.trans (hb.mono hS.size)⟩)
            have EHL : ∀ args w, (callFunc 16 args).run Try.prog w = .ok (.enter 16 args) w := fun args w => by kernel_rfl
            have EHR : ∀ args w, (callFunc 17 args).run Try.prog w = .ok (.enter 17 args) w := fun args w => by kernel_rfl
            have ECL : ∀ args w, (callFunc 18 args).run Try.prog w = .ok (.enter 18 args) w := fun args w => by kernel_rfl
            clear hh1 hh2 hcn
            refine region_qh (C := fun w' => Below wo.heap.size wo w') (by kernel_rfl) (by kernel_rfl) ((Below.refl _ wo).drew) ?_
            refine qh_op (.pointer (some ⟨p, 0, none⟩)) rfl (fun wS hSw => by go_simp; try with_reducible rfl) ?_
            simp only [Act.put, List.setIfInBounds_toArray, List.set_cons_zero, List.set_cons_succ]
            refine qh_op (.slice (some ⟨bA, offA, none⟩) xs.length capA) rfl (fun wS hSw => by go_simp; try with_reducible rfl) ?_
            simp only [Act.put, List.setIfInBounds_toArray, List.set_cons_zero, List.set_cons_succ]
            refine qh_op (.int .i64 i) rfl (fun wS hSw => by go_simp; try with_reducible rfl) ?_
            simp only [Act.put, List.setIfInBounds_toArray, List.set_cons_zero, List.set_cons_succ]
            refine qh_op (.pointer (some ⟨bA, offA + i * 4, none⟩)) rfl (fun wS hSw => by go_simp; try with_reducible rfl) ?_
            simp only [Act.put, List.setIfInBounds_toArray, List.set_cons_zero, List.set_cons_succ]
            refine qh_op (.pointer (some ⟨bA, offA + i * 4 + 3, none⟩)) rfl (fun wS hSw => by go_simp; try with_reducible rfl) ?_
            simp only [Act.put, List.setIfInBounds_toArray, List.set_cons_zero, List.set_cons_succ]
            refine qh_op (.int .i64 n) rfl (fun wS hSw => by obtain ⟨ka1, ka2, ka3⟩ := KCA.out wS hSw; go_simp; try with_reducible rfl) ?_
            simp only [Act.put, List.setIfInBounds_toArray, List.set_cons_zero, List.set_cons_succ]
            refine qh_call2 (.bool h1) rfl 16 _ _ _ rfl (.pointer (some ⟨p, 0, none⟩)) (.int .i64 n) (by rfl) (by rfl) EHL (fun wS hSw => CH1.out wS hSw) ?_
            simp only [Act.put, List.setIfInBounds_toArray, List.set_cons_zero, List.set_cons_succ]
            refine qh_op (.pointer (some ⟨q, 0, none⟩)) rfl (fun wS hSw => by go_simp; try with_reducible rfl) ?_
            simp only [Act.put, List.setIfInBounds_toArray, List.set_cons_zero, List.set_cons_succ]
            refine qh_op (.slice (some ⟨bA, offA, none⟩) xs.length capA) rfl (fun wS hSw => by go_simp; try with_reducible rfl) ?_
            simp only [Act.put, List.setIfInBounds_toArray, List.set_cons_zero, List.set_cons_succ]
            refine qh_op (.int .i64 i) rfl (fun wS hSw => by go_simp; try with_reducible rfl) ?_
            simp only [Act.put, List.setIfInBounds_toArray, List.set_cons_zero, List.set_cons_succ]
            refine qh_op (.pointer (some ⟨bA, offA + i * 4, none⟩)) rfl (fun wS hSw => by go_simp; try with_reducible rfl) ?_
            simp only [Act.put, List.setIfInBounds_toArray, List.set_cons_zero, List.set_cons_succ]
            refine qh_op (.pointer (some ⟨bA, offA + i * 4 + 3, none⟩)) rfl (fun wS hSw => by go_simp; try with_reducible rfl) ?_
            simp only [Act.put, List.setIfInBounds_toArray, List.set_cons_zero, List.set_cons_succ]
            refine qh_op (.int .i64 n) rfl (fun wS hSw => by obtain ⟨ka1, ka2, ka3⟩ := KCA.out wS hSw; go_simp; try with_reducible rfl) ?_
            simp only [Act.put, List.setIfInBounds_toArray, List.set_cons_zero, List.set_cons_succ]
            refine qh_call2 (.bool h1) rfl 17 _ _ _ rfl (.pointer (some ⟨q, 0, none⟩)) (.int .i64 n) (by rfl) (by rfl) EHR (fun wS hSw => CR1.out wS hSw) ?_
            simp only [Act.put, List.setIfInBounds_toArray, List.set_cons_zero, List.set_cons_succ]
            refine qh_op (.bool false) rfl (fun wS hSw => by go_simp; try with_reducible rfl) ?_
            simp only [Act.put, List.setIfInBounds_toArray, List.set_cons_zero, List.set_cons_succ]
            refine qh_op (.bool false) rfl (fun wS hSw => by go_simp; try with_reducible rfl) ?_
            simp only [Act.put, List.setIfInBounds_toArray, List.set_cons_zero, List.set_cons_succ]
            refine qh_opw (.pointer (some ⟨p, 0, none⟩)) (by rfl) (fun wS hSw => by go_simp; try with_reducible rfl) ?_
            simp only [Act.put, List.setIfInBounds_toArray, List.set_cons_zero, List.set_cons_succ]
            refine qh_opw (.slice (some ⟨bA, offA, none⟩) xs.length capA) (by rfl) (fun wS hSw => by go_simp; try with_reducible rfl) ?_
            simp only [Act.put, List.setIfInBounds_toArray, List.set_cons_zero, List.set_cons_succ]
            refine qh_opw (.int .i64 i) (by rfl) (fun wS hSw => by go_simp; try with_reducible rfl) ?_
            simp only [Act.put, List.setIfInBounds_toArray, List.set_cons_zero, List.set_cons_succ]
            refine qh_opw (.pointer (some ⟨bA, offA + i * 4, none⟩)) (by rfl) (fun wS hSw => by go_simp; try with_reducible rfl) ?_
            simp only [Act.put, List.setIfInBounds_toArray, List.set_cons_zero, List.set_cons_succ]
            refine qh_opw (.pointer (some ⟨bA, offA + i * 4 + 1, none⟩)) (by rfl) (fun wS hSw => by go_simp; try with_reducible rfl) ?_
            simp only [Act.put, List.setIfInBounds_toArray, List.set_cons_zero, List.set_cons_succ]
            refine qh_opw (.pointer (some ⟨bA, offA + i * 4 + 2, none⟩)) (by rfl) (fun wS hSw => by go_simp; try with_reducible rfl) ?_
            simp only [Act.put, List.setIfInBounds_toArray, List.set_cons_zero, List.set_cons_succ]
            refine qh_opw (.int .i64 fp) (by rfl) (fun wS hSw => by obtain ⟨ka1, ka2, ka3⟩ := KCA.out wS hSw; go_simp; try with_reducible rfl) ?_
            simp only [Act.put, List.setIfInBounds_toArray, List.set_cons_zero, List.set_cons_succ]
            refine qh_call2w (.bool h2) (by rfl) 16 _ _ _ rfl (.pointer (some ⟨p, 0, none⟩)) (.int .i64 fp) (by rfl) (by rfl) EHL (fun wS hSw => CH2.out wS hSw) ?_
            simp only [Act.put, List.setIfInBounds_toArray, List.set_cons_zero, List.set_cons_succ]
            refine qh_opw (.pointer (some ⟨q, 0, none⟩)) (by rfl) (fun wS hSw => by go_simp; try with_reducible rfl) ?_
            simp only [Act.put, List.setIfInBounds_toArray, List.set_cons_zero, List.set_cons_succ]
            refine qh_opw (.slice (some ⟨bA, offA, none⟩) xs.length capA) (by rfl) (fun wS hSw => by go_simp; try with_reducible rfl) ?_
            simp only [Act.put, List.setIfInBounds_toArray, List.set_cons_zero, List.set_cons_succ]
            refine qh_opw (.int .i64 i) (by rfl) (fun wS hSw => by go_simp; try with_reducible rfl) ?_
            simp only [Act.put, List.setIfInBounds_toArray, List.set_cons_zero, List.set_cons_succ]
            refine qh_opw (.pointer (some ⟨bA, offA + i * 4, none⟩)) (by rfl) (fun wS hSw => by go_simp; try with_reducible rfl) ?_
            simp only [Act.put, List.setIfInBounds_toArray, List.set_cons_zero, List.set_cons_succ]
            refine qh_opw (.pointer (some ⟨bA, offA + i * 4 + 1, none⟩)) (by rfl) (fun wS hSw => by go_simp; try with_reducible rfl) ?_
            simp only [Act.put, List.setIfInBounds_toArray, List.set_cons_zero, List.set_cons_succ]
            refine qh_opw (.pointer (some ⟨bA, offA + i * 4 + 2, none⟩)) (by rfl) (fun wS hSw => by go_simp; try with_reducible rfl) ?_
            simp only [Act.put, List.setIfInBounds_toArray, List.set_cons_zero, List.set_cons_succ]
            refine qh_opw (.int .i64 fp) (by rfl) (fun wS hSw => by obtain ⟨ka1, ka2, ka3⟩ := KCA.out wS hSw; go_simp; try with_reducible rfl) ?_
            simp only [Act.put, List.setIfInBounds_toArray, List.set_cons_zero, List.set_cons_succ]
            refine qh_call2w (.bool h2) (by rfl) 17 _ _ _ rfl (.pointer (some ⟨q, 0, none⟩)) (.int .i64 fp) (by rfl) (by rfl) EHR (fun wS hSw => CR2.out wS hSw) ?_
            simp only [Act.put, List.setIfInBounds_toArray, List.set_cons_zero, List.set_cons_succ]
            refine qh_opw (.bool false) (by rfl) (fun wS hSw => by go_simp; try with_reducible rfl) ?_
            simp only [Act.put, List.setIfInBounds_toArray, List.set_cons_zero, List.set_cons_succ]
            refine qh_op (.bool false) rfl (fun wS hSw => by go_simp; try with_reducible rfl) ?_
            simp only [Act.put, List.setIfInBounds_toArray, List.set_cons_zero, List.set_cons_succ]
            refine qh_op (.bool false) rfl (fun wS hSw => by go_simp; try with_reducible rfl) ?_
            simp only [Act.put, List.setIfInBounds_toArray, List.set_cons_zero, List.set_cons_succ]
            refine qh_opw (.pointer (some ⟨p, 0, none⟩)) (by rfl) (fun wS hSw => by go_simp; try with_reducible rfl) ?_
            simp only [Act.put, List.setIfInBounds_toArray, List.set_cons_zero, List.set_cons_succ]
            refine qh_call1w (.int .i64 cn) (by rfl) 18 _ _ rfl (.pointer (some ⟨p, 0, none⟩)) (by rfl) ECL (fun wS hSw => CC1.out wS hSw) ?_
            simp only [Act.put, List.setIfInBounds_toArray, List.set_cons_zero, List.set_cons_succ]
            refine qh_opw (.pointer (some ⟨q, 0, none⟩)) (by rfl) (fun wS hSw => by go_simp; try with_reducible rfl) ?_
            simp only [Act.put, List.setIfInBounds_toArray, List.set_cons_zero, List.set_cons_succ]
            refine qh_opw (.pointer (some ⟨q, 0, none⟩)) (by rfl) (fun wS hSw => by go_simp; try with_reducible rfl) ?_
            simp only [Act.put, List.setIfInBounds_toArray, List.set_cons_zero, List.set_cons_succ]
            refine qh_opw (.pointer (some ⟨q, 0, none⟩)) (by rfl) (fun wS hSw => by go_simp; try with_reducible rfl) ?_
            simp only [Act.put, List.setIfInBounds_toArray, List.set_cons_zero, List.set_cons_succ]
            refine qh_opw (.slice Aq cn cq) (by rfl) (fun wS hSw => by have kq := KCQ.out wS hSw; go_simp; try with_reducible rfl) ?_
            simp only [Act.put, List.setIfInBounds_toArray, List.set_cons_zero, List.set_cons_succ]
            refine qh_opw (.int .i64 cn) (by rfl) (fun wS hSw => by go_simp; try with_reducible rfl) ?_
            simp only [Act.put, List.setIfInBounds_toArray, List.set_cons_zero, List.set_cons_succ]
            refine qh_opw (.bool false) (by rfl) (fun wS hSw => by go_simp; try with_reducible rfl) ?_
            simp only [Act.put, List.setIfInBounds_toArray, List.set_cons_zero, List.set_cons_succ]
            refine qh_op (.bool false) rfl (fun wS hSw => by go_simp; try with_reducible rfl) ?_
            simp only [Act.put, List.setIfInBounds_toArray, List.set_cons_zero, List.set_cons_succ]
            refine qh_nil ⟨?_⟩
            intro wE hE
            go_wp2
            go_roundw
            case rel => exact ⟨i + 1, l', p, by omega, rfl, by go_num, Lib.hid (FrTwo.below D HTo.out hE), HBo.out.trans (hE.mono HBo.out.size)⟩
            case measure => simp [intOf]; omega
    · have hgo : decide (i < xs.length) = false ∨ (decide (i < xs.length) = true ∧ decide ((i : Int) < 80) = false) := by
        by_cases h : i < xs.length
        · exact .inr ⟨decide_eq_true h, decide_eq_false (by omega)⟩
        · exact .inl (decide_eq_false h)
      have HOK := Lib.hid (FrTwo.oks HH.out).1
      have HBr := Lib.hid hBr
      obtain ⟨Aq, cq, cp, hfq, hltq⟩ : ∃ Aq cq, wr.cell? ⟨q, 0, none⟩ = some (.slice Aq l.length cq) ∧ FreesAt wr (.slice Aq l.length cq) l ∧ q < wr.heap.size := by
        obtain ⟨F, G, _, hr, _⟩ := HH.out
        exact hr.head (Nat.le_trans HOK.out.len (by omega))
      have HFQ := Lib.hid hfq
      have CA : Hid (∀ wx, Below wr.heap.size wr wx → Calls Try.prog 20 #[.pointer (some ⟨p, 0, none⟩)] wx fun e w' => ∃ V, e = .returned V ∧ FreesAt w' V (Fr.sorted l) ∧ Below wr.heap.size wr w') := Lib.hid (fun wx hwx => by
        obtain ⟨F, G, ha, _⟩ := FrTwo.below D HH.out hwx
        exact (D.all wx p l F HOK.out HOK.out.len ha).mono fun _ _ ⟨V, e, hv, hb⟩ => ⟨V, e, hv, hwx.trans (hb.mono hwx.size)⟩)
      have CS : Hid (∀ wx, Below wr.heap.size wr wx → Calls Try.prog 21 #[.slice Aq l.length cq] wx fun e w' => ∃ V, e = .returned V ∧ FreesAt w' V (Fr.sorted l) ∧ Below wx.heap.size wx w') := Lib.hid (fun wx hwx => frsorted_ok wx _ l (HFQ.out.below hwx) (Nat.le_trans HOK.out.len (by omega)))
      clear hfq hBr
      rcases hgo with t1 | ⟨t1, t2⟩
      all_goals
        go_wp2
        go_region_held3 (fun w' => w'.cell? ⟨q, 0, none⟩ = some (.slice Aq l.length cq))
          (first | (go_keep; done) | exact KK.out | exact KK2.out | exact KK3.out)
          (first
            | (go_at_call 20; refine (CA.out _ ((Below.refl _ wr).drew)).mono ?_; rintro e w4 ⟨V4, rfl, hV4, hb4⟩; have KK : Hid (w4.cell? ⟨q, 0, none⟩ = some (.slice Aq l.length cq)) := Lib.hid ((hb4.cell (p := ⟨q, 0, none⟩) hltq).trans cp))
            | (go_at_call 21; refine (CS.out _ hb4).mono ?_; rintro e w5 ⟨V5, rfl, hV5, hb5⟩; have hb45 := hb4.trans (hb5.mono hb4.size); have KK2 : Hid (w5.cell? ⟨q, 0, none⟩ = some (.slice Aq l.length cq)) := Lib.hid ((hb45.cell (p := ⟨q, 0, none⟩) hltq).trans cp))
            | (go_at_call 19; refine (frsame_yes w5 V4 V5 _ (hV4.below hb5) hV5).mono ?_; rintro e w6 ⟨rfl, hb6⟩; have hb46 := hb45.trans (hb6.mono hb45.size); have KK3 : Hid (w6.cell? ⟨q, 0, none⟩ = some (.slice Aq l.length cq)) := Lib.hid ((hb46.cell (p := ⟨q, 0, none⟩) hltq).trans cp)))
        go_wp2
        go_ret
        exact ⟨rfl, HBr.out.trans (hb46.mono HBr.out.size)⟩
end Go.Proofs.Ytjgndgcegenikaa
