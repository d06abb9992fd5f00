/-
  Whatever is written, synced, sealed, done, cut and opened, each answer, the metas, all pages and the log are what the chapter says (P5.1 to P5.3): the statement's function returns true at every list of calls; of any device and pager that meet the kits. No conditions but those typed.
-/
import Derived.Test.YtjgmlpfallakmaaGreatPgMeans
import Derived.Test.YtjgmlpfallakmaaGreatPgActs
import Derived.Test.YtjgmlpfallakmaaGreatB6
import Derived.BigQuiet
namespace Go.Proofs.YtjgmlpfallakmaaGreat
open Go.RowKit
theorem means5_ok (w : World) (p : Nat) (v : Value) (c : DS) (F : List Nat) (K : Nat) (hK : K ≤ 800000) (ok : DS.Ok K c) (hrow : ∀ s ∈ c.s, s.row.length ≤ K)
    (x : ActP) (hx : x.page.body.size ≤ 2000) (hxn : x.n ≤ 9223372036854775807) (pv : Value) (hv : NumsAt w F pv x.picks) (h : Joint RefAt RefPg w p v c F) : Calls Tryz.prog 11 #[.pointer (some ⟨p, 0, none⟩), v, .agg (x.cells pv)] w (DoneJ RefAt RefPg w p F (DS.act x c)) := by
  obtain ⟨d, s⟩ := c
  cases s with
  | none =>
    have hh := h
    obtain ⟨rfl, _⟩ := hh
    exact means_none w p d F K hK ok x hx hxn pv hv h
  | some s =>
    have hh := h
    obtain ⟨q, F1, G, rfl, _⟩ := hh
    exact means_some w p q d s F K hK ok (hrow s rfl) x hx hxn pv hv h
theorem ref_count {w : World} {q : Nat} {d : RD} {G : List Nat} (h : RefAt w q d G) : w.cell? ⟨q, 4, none⟩ = some (.int .i64 d.count) := by
  obtain ⟨vs, vr, hb, _⟩ := h
  exact hb.cell 4
theorem touch_drewN (w : World) (n : Nat) : Touch [] w (w.drewN n) := ⟨rfl, rfl, rfl, Nat.le_refl _, fun _ _ _ => rfl⟩
/-- both sides are c, apart, above block B -/
def Both5 (At : World → Nat → RD → List Nat → Prop) (PAt : World → Nat → Nat → PS → List Nat → Prop) (B p q : Nat) (v u : Value) (c : DS) (wr : World) : Prop :=
  ∃ F G, Joint At PAt wr p v c F ∧ Joint RefAt RefPg wr q u c G ∧ (∀ k ∈ F, k ∉ G) ∧ (∀ k ∈ F, B ≤ k) ∧ (∀ k ∈ G, B ≤ k)
theorem Both5.touch {At : World → Nat → RD → List Nat → Prop} {PAt : World → Nat → Nat → PS → List Nat → Prop} (U : DevUse At 35 47 32 33 34 70) (P : PgKit At PAt) {B p q : Nat} {v u : Value} {c : DS} {w w' : World} (h : Both5 At PAt B p q v u c w) (hT : Touch [] w w') : Both5 At PAt B p q v u c w' := by
  obtain ⟨F, G, h1, h2, h3, h4, h5⟩ := h
  exact ⟨F, G, Joint.touch U.touch P.touch h1 hT (by simp), Joint.touch refUse.touch refPg.touch h2 hT (by simp), h3, h4, h5⟩
theorem act_row {x : ActP} {c : DS} (h : ∀ s ∈ c.s, s.row = []) : ∀ s ∈ (DS.act x c).1.s, s.row.length ≤ 1 := by
  obtain ⟨d, s⟩ := c
  have h0 : ∀ y ∈ s, y.row.length ≤ 1 := fun y hy => by rw [h y hy]; simp
  have hopen : ∀ (d : RD), ∀ y ∈ d.openP, y.row.length ≤ 1 := fun d y hy => by
    unfold RD.openP at hy
    split at hy
    · injection hy with hy; subst hy; show ([] : List Int).length ≤ 1; simp
    · cases hy
  unfold DS.act
  split
  · cases s with
    | none => exact h0
    | some s =>
      intro y hy
      injection hy with hy
      subst hy
      unfold PS.writeS
      split
      · show (s.row ++ _).length ≤ 1
        rw [h s rfl]; simp
      · exact h0 s rfl
  · split
    · cases s with
      | none => exact h0
      | some s => exact h0
    · split
      · cases s with
        | none => exact h0
        | some s =>
          intro y hy
          injection hy with hy
          subst hy
          unfold PS.sealS
          split
          · exact h0 s rfl
          · exact h0 s rfl
      · split
        · cases s with
          | none => exact h0
          | some s =>
            intro y hy
            injection hy with hy
            subst hy
            unfold PS.doneS
            split
            · exact h0 s rfl
            · split
              · exact h0 s rfl
              · exact h0 s rfl
        · split
          · exact h0
          · split
            · exact h0
            · split
              · exact h0
              · split
                · split
                  · exact hopen _
                  · exact h0
                · split
                  · exact h0
                  · exact h0
theorem refPg_head {w : World} {q p : Nat} {at_ ar af ap al bt br bf bp bl : Int} {shas : Bool} {se : Option MV} {row : List Int} {G : List Nat} (h : RefPg w q p ⟨⟨at_, ar, af, ap, al⟩, ⟨bt, br, bf, bp, bl⟩, shas, se, row⟩ G) : w.cell? ⟨q, 1, none⟩ = some (.int .i64 at_) ∧ w.cell? ⟨q, 2, none⟩ = some (.int .i64 ar) ∧ w.cell? ⟨q, 3, none⟩ = some (.int .i64 af) ∧ w.cell? ⟨q, 4, none⟩ = some (.int .i64 ap) ∧ w.cell? ⟨q, 5, none⟩ = some (.int .i64 al) ∧ w.cell? ⟨q, 6, none⟩ = some (.int .i64 bt) ∧ w.cell? ⟨q, 7, none⟩ = some (.int .i64 br) ∧ w.cell? ⟨q, 8, none⟩ = some (.int .i64 bf) ∧ w.cell? ⟨q, 9, none⟩ = some (.int .i64 bp) ∧ w.cell? ⟨q, 10, none⟩ = some (.int .i64 bl) ∧ w.cell? ⟨q, 11, none⟩ = some (.bool shas) := by
  obtain ⟨vs, vr, hb, _⟩ := h
  exact ⟨hb.cell 1, hb.cell 2, hb.cell 3, hb.cell 4, hb.cell 5, hb.cell 6, hb.cell 7, hb.cell 8, hb.cell 9, hb.cell 10, hb.cell 11⟩
theorem irow_at {w : World} {A : Option Addr} {n cap : Nat} {l : List Int} (hr : w.ownsRow 0 3 1 (.slice A n cap) l.length (l.map (Value.int .i64))) (k : Nat) (h : k < l.length) :
    ∃ g, A = some ⟨g, 0, none⟩ ∧ n = l.length ∧ n ≤ cap ∧ w.cell? ⟨g, k, none⟩ = some (.int .i64 l[k]) := by
  obtain ⟨g, cap', hv, _, _⟩ := hr.form (by omega)
  injection hv with e1 e2 e3
  subst e1 e2 e3
  have hc : l.length ≤ cap := by
    rcases hr.2 with ⟨h0, _⟩ | ⟨_, _, _, hv, _, _, hn, _⟩
    · simp at h0
    · injection hv with _ _ e; omega
  refine ⟨g, rfl, rfl, hc, ?_⟩
  rw [hr.cellAt _ (by omega)]
  simp [h]
theorem irow_len {w : World} {A : Option Addr} {n cap : Nat} {l : List Int} (hr : w.ownsRow 0 3 1 (.slice A n cap) l.length (l.map (Value.int .i64))) : n = l.length := by
  rcases hr.2 with ⟨hv, h0⟩ | ⟨_, _, _, hv, _⟩
  · injection hv with _ e2 _; omega
  · injection hv
/-- the log of the reference's pager is empty again -/
theorem refPg_reset {w : World} {q p : Nat} {s : PS} {G : List Nat} (h : RefPg w q p s G) : ∃ G', RefPg (w.setCell ⟨q, 13, none⟩ (.slice none 0 0)) q p { s with row := [] } G' ∧ (∀ k ∈ G', k ∈ G) := by
  obtain ⟨vs, vr, hb, hs, hr, rfl, hN⟩ := h
  have hq : ∀ k, vs.ownBlock = some k → k ≠ q := fun k hk e => by
    rw [hk, e] at hN
    simp at hN
  refine ⟨q :: vs.ownBlock.toList, ⟨vs, .slice none 0 0, hb.set 13 _, ownsRow_touch hs ((Touch.refl [q] w).setCell (p := ⟨q, 13, none⟩) (.inl (by simp)) _) (fun k hk hm => hq k hk (by simpa using hm)), World.ownsRow_nil _ _ _ _, by simp [Value.ownBlock], ?_⟩, fun k hk => ?_⟩
  · have := hN
    rw [← List.cons_append] at this
    exact (List.nodup_append.1 this).1
  · rcases List.mem_cons.1 hk with rfl | hk
    · exact List.mem_cons_self ..
    · exact List.mem_cons_of_mem _ (List.mem_append_left _ hk)
set_option linter.unusedSimpArgs false in
set_option maxRecDepth 100000 in
set_option maxHeartbeats 12800000 in
theorem pgplays_any (At : World → Nat → RD → List Nat → Prop) (PAt : World → Nat → Nat → PS → List Nat → Prop) (U : DevUse At 35 47 32 33 34 70) (N : HasNew At 18) (P : PgKit At PAt) (S : HasSteps At 12) (w : World) (v : Value) (xs : List ActP) (hx : Acts5At w w.heap.size v xs) :
    Calls Tryz.prog 3 #[v] w fun e w' => e = .returned (.bool true) ∧ Below w.heap.size w w' := by
  have HX := Lib.hid hx
  obtain ⟨A, cap, rfl, hcap, hxl, _⟩ := hx
  have AC := fun w => Lib.hid (pgawake_ok At PAt U.lt U.touch N P w)
  have BC := fun w => Lib.hid (begin_ok At PAt U.lt U.touch N P w)
  obtain ⟨b1, _, _, _⟩ := beg_fmt
  obtain ⟨g1, g2, _⟩ := beg_opens
  go_enter Tryz.func3, Tryz.ntmps3
  go_wp2_with fail
  refine (AC _).out.mono ?_
  rintro _ w1 ⟨rfl, hb1⟩
  go_wp2_with fail
  refine (BC _).out.mono ?_
  rintro _ w2 ⟨p, pq, F, G, rfl, hA, hP, hFG, hF, hG, hb2⟩
  have HB2 := Lib.hid (hb1.trans (hb2.mono hb1.size))
  have HJ2 : Hid (Joint At PAt w2 p (.pointer (some ⟨pq, 0, none⟩)) ⟨begD, some begS⟩ (F ++ G)) := Lib.hid ⟨pq, F, G, rfl, hA, hP, hFG, rfl⟩
  have HGE : Hid (∀ k ∈ F ++ G, w.heap.size ≤ k) := Lib.hid (fun k hk => Nat.le_trans hb1.size ((List.mem_append.1 hk).elim (hF k) (hG k)))
  clear hA hP hFG hF hG hb2 hb1 AC BC
  go_wp2_with fail
  refine (ref_new 24 (by omega) (by omega) _).mono ?_
  rintro _ w3 ⟨q, R, rfl, hR, hRg, hb3⟩
  have FC := refPg.format w3 q beg0 R 10 (by omega) beg0_ok 6 hR
  rw [b1] at FC
  have FC := Lib.hid FC
  have HJ3 : Hid (Joint At PAt w3 p (.pointer (some ⟨pq, 0, none⟩)) ⟨begD, some begS⟩ (F ++ G)) := Lib.hid (Joint.touch U.touch P.touch HJ2.out (Touch.ofBelow hb3) (by simp))
  have HB3 := Lib.hid (HB2.out.trans (hb3.mono HB2.out.size))
  have HRG := Lib.hid hRg
  have hs2 := HB2.out.size
  have hs23 := hb3.size
  clear hR hb3 hRg
  go_wp2_with fail
  refine FC.out.mono ?_
  rintro _ w4 ⟨rfl, R4, hR4, hT4, hG4⟩
  have hR4 : RefAt w4 q begD R4 := hR4
  have OC := refPg.open_ w4 q begD R4 20 (by omega) begD_ok begD_full hR4
  have OC := Lib.hid OC
  have hR4ge : ∀ k ∈ R4, w2.heap.size ≤ k := fun k hk => (hG4 k hk).elim (HRG.out k) (fun h => Nat.le_trans hs23 h)
  have HLT : Hid (∀ k ∈ F ++ G, k < w2.heap.size) := Lib.hid (Joint.lt U.lt P.lt HJ2.out)
  have HJ4 : Hid (Joint At PAt w4 p (.pointer (some ⟨pq, 0, none⟩)) ⟨begD, some begS⟩ (F ++ G)) := Lib.hid (Joint.touch U.touch P.touch HJ3.out hT4 (fun k hk hm => by have := HRG.out k hk; have := HLT.out k hm; omega))
  have HB4 := Lib.hid (HB3.out.trans (hT4.below HB3.out.size (fun k hk => Nat.le_trans hs2 (HRG.out k hk))))
  have HR4 := Lib.hid hR4
  have HR4G := Lib.hid hR4ge
  have hs4 := hT4.size
  have ltR4 : ∀ k ∈ R4, k < w4.heap.size := refUse.lt hR4
  clear hT4 hG4 hR4 hR4ge FC
  go_wp2_with fail
  refine OC.out.mono ?_
  rintro e5 w5 ⟨hb5, ho⟩
  rw [g1] at ho
  obtain ⟨qr, RG, rfl, hQ, hQG⟩ := ho.elim (fun h => by cases h.1) (fun h => h.2)
  rw [g2] at hQ
  have HB5 := Lib.hid (HB4.out.trans (hb5.mono HB4.out.size))
  have HBO : Hid (Both5 At PAt w.heap.size p q (.pointer (some ⟨pq, 0, none⟩)) (.pointer (some ⟨qr, 0, none⟩)) ⟨begD, some begS⟩ w5) := Lib.hid
    ⟨F ++ G, R4 ++ RG, Joint.touch U.touch P.touch HJ4.out (Touch.ofBelow hb5) (by simp),
      ⟨qr, R4, RG, rfl, refUse.touch HR4.out (Touch.ofBelow hb5) (by simp), hQ, fun k hk hm => by have := ltR4 k hk; have := hQG k hm; omega, rfl⟩,
      fun k hk hm => by
        have := HLT.out k hk
        rcases List.mem_append.1 hm with h | h
        · have := HR4G.out k h; omega
        · have := hQG k h; omega,
      HGE.out, fun k hk => by
        rcases List.mem_append.1 hk with h | h
        · exact Nat.le_trans hs2 (HR4G.out k h)
        · have := hQG k h; omega⟩
  have HOK0 : Hid (DS.Ok 30 ⟨begD, some begS⟩) := Lib.hid ⟨begD_ok.more (by omega), begD_full, fun s hs => by injection hs with hs; subst hs; exact begS_ok⟩
  have HRW0 : Hid (∀ s ∈ (⟨begD, some begS⟩ : DS).s, s.row = []) := Lib.hid (fun s hs => by injection hs with hs; subst hs; rfl)
  clear hQ hQG ho hb5 HJ2 HJ3 HJ4 HLT HR4 HR4G HRG HGE OC ltR4 hs4 hs23 hs2 HB2 HB3 HB4 b1 g1 g2
  go_wp2_with fail
  go_loopw [4, 7, 9] (fun v u i wr => ∃ (j : Nat) (c : DS), j ≤ xs.length ∧ j ≤ 50 ∧ i = .int .i64 j ∧ Hid (Both5 At PAt w.heap.size p q v u c wr) ∧ Hid (DS.Ok (30 + 4 * j) c) ∧ Hid (∀ s ∈ c.s, s.row = []) ∧ Hid (Below w.heap.size w wr)) (fun _ _ i _ => 50 - (intOf i).toNat)
  case atStart => exact ⟨0, _, by omega, by omega, rfl, HBO, HOK0, HRW0, HB5⟩
  case round =>
    obtain ⟨j, c, hj, hj5, rfl, HBO, HOK, HRW, HB⟩ := hrel
    by_cases hlt : j < xs.length ∧ j < 50
    · obtain ⟨hlt, hl5⟩ := hlt
      have t1 : decide (j < xs.length) = true := decide_eq_true hlt
      have t2 : decide ((j : Int) < 50) = true := decide_eq_true (by omega)
      obtain ⟨b, off, pv, rfl, hbl, hcells, hnums, hnx⟩ := (HX.out.below HB.out).get j hlt
      obtain ⟨x, hxe⟩ : ∃ x, xs[j] = x := ⟨_, rfl⟩
      rw [hxe] at hcells hnums hnx
      have FAR := fun w => Lib.hid (far_ok x pv w)
      obtain ⟨far, hfar⟩ : ∃ f, (decide (2000 < x.page.body.size) || decide (2000 < x.text.size)) = f := ⟨_, rfl⟩
      simp only [hfar] at FAR
      have HC : Hid (∀ w2 : World, Below w.heap.size wr w2 → Act5Cells w2 b (off + j * 14) x pv) := Lib.hid (fun w2 h2 => hcells.below h2 hbl)
      have HNX := Lib.hid hnx
      have HNUM := Lib.hid hnums
      have HFAR := Lib.hid hfar
      have i1 : (0 : Int) ≤ (j : Int) := by omega
      have i2 : (j : Int) < (xs.length : Int) := by omega
      have HXX : Hid (x = x) := Lib.hid rfl
      obtain ⟨c', hc'⟩ : ∃ r, DS.act x c = r := ⟨_, rfl⟩
      have HC' := Lib.hid hc'
      clear hc'
      have DD : Hid (∀ w1 F, Joint At PAt w1 p u4 c F → Below w.heap.size wr w1 → (∀ k ∈ F, w.heap.size ≤ k) → far = false → Calls Tryz.prog 10 #[.pointer (some ⟨p, 0, none⟩), u4, .agg (x.cells pv)] w1 (DoneJ At PAt w1 p F c')) := Lib.hid (fun w1 F hJ hbw hge hf => by
        rw [← HC'.out]
        have hf' := HFAR.out.trans hf
        simp only [Bool.or_eq_false_iff, decide_eq_false_iff_not] at hf'
        exact does5_ok At PAt U P w1 p u4 c F (30 + 4 * j) (by omega) HOK.out (fun s hs => by rw [HRW.out s hs]; simp) x (by omega) HNX.out pv ((HNUM.out.below hbw).at_ (Nat.le_trans HB.out.size hbw.size) hge) hJ)
      have MM : Hid (∀ w1 G, Joint RefAt RefPg w1 q u7 c G → Below w.heap.size wr w1 → (∀ k ∈ G, w.heap.size ≤ k) → far = false → Calls Tryz.prog 11 #[.pointer (some ⟨q, 0, none⟩), u7, .agg (x.cells pv)] w1 (DoneJ RefAt RefPg w1 q G c')) := Lib.hid (fun w1 G hJ hbw hge hf => by
        rw [← HC'.out]
        have hf' := HFAR.out.trans hf
        simp only [Bool.or_eq_false_iff, decide_eq_false_iff_not] at hf'
        exact means5_ok w1 q u7 c G (30 + 4 * j) (by omega) HOK.out (fun s hs => by rw [HRW.out s hs]; simp) x (by omega) HNX.out pv ((HNUM.out.below hbw).at_ (Nat.le_trans HB.out.size hbw.size) hge) hJ)
      have HOK' : Hid (DS.Ok (30 + 4 * (j + 1)) c'.1) := Lib.hid (by rw [← HC'.out]; exact (DS.act_ok x HOK.out HNX.out).more (by omega))
      have HRW' : Hid (∀ s ∈ c'.1.s, s.row.length ≤ 1) := Lib.hid (by rw [← HC'.out]; exact act_row HRW.out)
      obtain ⟨⟨d', s'⟩, E⟩ := c'
      simp only at HOK' HRW'
      clear hnums hnx hxe hfar HXX HFAR HNX HNUM HC'
      obtain ⟨kind, ⟨pk, pn, pt, pb⟩, ⟨mt, mr, mf, mp, ml⟩, next, n, text, picks⟩ := x
      unfold ActP.cells at FAR DD MM
      unfold Act5Cells ActP.cells at hcells HC
      simp only at FAR DD MM hcells HC
      have c0 : wr.cell? ⟨b, off + j * 14, none⟩ = some (.int .i64 kind) := hcells 0 (by omega)
      have c1 : wr.cell? ⟨b, off + j * 14 + 1, none⟩ = some (.int .i64 pk) := hcells 1 (by omega)
      have c2 : wr.cell? ⟨b, off + j * 14 + 2, none⟩ = some (.int .i64 pn) := hcells 2 (by omega)
      have c3 : wr.cell? ⟨b, off + j * 14 + 3, none⟩ = some (.int .i64 pt) := hcells 3 (by omega)
      have c4 : wr.cell? ⟨b, off + j * 14 + 4, none⟩ = some (.string pb) := hcells 4 (by omega)
      have c5 : wr.cell? ⟨b, off + j * 14 + 5, none⟩ = some (.int .i64 mt) := hcells 5 (by omega)
      have c6 : wr.cell? ⟨b, off + j * 14 + 6, none⟩ = some (.int .i64 mr) := hcells 6 (by omega)
      have c7 : wr.cell? ⟨b, off + j * 14 + 7, none⟩ = some (.int .i64 mf) := hcells 7 (by omega)
      have c8 : wr.cell? ⟨b, off + j * 14 + 8, none⟩ = some (.int .i64 mp) := hcells 8 (by omega)
      have c9 : wr.cell? ⟨b, off + j * 14 + 9, none⟩ = some (.int .i64 ml) := hcells 9 (by omega)
      have c10 : wr.cell? ⟨b, off + j * 14 + 10, none⟩ = some (.bool next) := hcells 10 (by omega)
      have c11 : wr.cell? ⟨b, off + j * 14 + 11, none⟩ = some (.int .i64 n) := hcells 11 (by omega)
      have c12 : wr.cell? ⟨b, off + j * 14 + 12, none⟩ = some (.string text) := hcells 12 (by omega)
      have c13 : wr.cell? ⟨b, off + j * 14 + 13, none⟩ = some (pv) := hcells 13 (by omega)
      clear hcells
      go_wp2_with fail
      refine (FAR _).out.mono ?_
      rintro _ w1 ⟨rfl, hb1⟩
      have HB1 := Lib.hid hb1
      have hw1 : Below w.heap.size wr w1 := hb1.mono HB.out.size
      have HW1 := Lib.hid hw1
      clear FAR hb1
      cases far with
      | true =>
        have HBO1 := Lib.hid (HBO.out.touch U P (Touch.ofBelow HB1.out))
        have HBB1 := Lib.hid (HB.out.trans HW1.out)
        clear hw1
        go_wp2
        go_roundw
        case rel => exact ⟨j + 1, c, by omega, by omega, by go_num, HBO1, Lib.hid (HOK.out.more (by omega)), HRW, HBB1⟩
        case measure => simp [intOf]; omega
      | false =>
        have hc1 := HC.out w1 hw1
        have e0 : w1.cell? ⟨b, off + j * 14, none⟩ = some (.int .i64 kind) := hc1 0 (by omega)
        have e1 : w1.cell? ⟨b, off + j * 14 + 1, none⟩ = some (.int .i64 pk) := hc1 1 (by omega)
        have e2 : w1.cell? ⟨b, off + j * 14 + 2, none⟩ = some (.int .i64 pn) := hc1 2 (by omega)
        have e3 : w1.cell? ⟨b, off + j * 14 + 3, none⟩ = some (.int .i64 pt) := hc1 3 (by omega)
        have e4 : w1.cell? ⟨b, off + j * 14 + 4, none⟩ = some (.string pb) := hc1 4 (by omega)
        have e5 : w1.cell? ⟨b, off + j * 14 + 5, none⟩ = some (.int .i64 mt) := hc1 5 (by omega)
        have e6 : w1.cell? ⟨b, off + j * 14 + 6, none⟩ = some (.int .i64 mr) := hc1 6 (by omega)
        have e7 : w1.cell? ⟨b, off + j * 14 + 7, none⟩ = some (.int .i64 mf) := hc1 7 (by omega)
        have e8 : w1.cell? ⟨b, off + j * 14 + 8, none⟩ = some (.int .i64 mp) := hc1 8 (by omega)
        have e9 : w1.cell? ⟨b, off + j * 14 + 9, none⟩ = some (.int .i64 ml) := hc1 9 (by omega)
        have e10 : w1.cell? ⟨b, off + j * 14 + 10, none⟩ = some (.bool next) := hc1 10 (by omega)
        have e11 : w1.cell? ⟨b, off + j * 14 + 11, none⟩ = some (.int .i64 n) := hc1 11 (by omega)
        have e12 : w1.cell? ⟨b, off + j * 14 + 12, none⟩ = some (.string text) := hc1 12 (by omega)
        have e13 : w1.cell? ⟨b, off + j * 14 + 13, none⟩ = some (pv) := hc1 13 (by omega)
        clear hc1 hw1 c0 c1 c2 c3 c4 c5 c6 c7 c8 c9 c10 c11 c12 c13
        obtain ⟨F, G, hJF, hJG, hFG, hFB, hGB⟩ := HBO.out.touch U P (Touch.ofBelow HB1.out)
        have HJG := Lib.hid hJG
        have HAP : Hid ((∀ k ∈ F, k < w1.heap.size) ∧ (∀ k ∈ G, k < w1.heap.size) ∧ (∀ k ∈ F, k ∉ G) ∧ (∀ k ∈ F, w.heap.size ≤ k) ∧ (∀ k ∈ G, w.heap.size ≤ k)) := Lib.hid ⟨Joint.lt U.lt P.lt hJF, Joint.lt refUse.lt refPg.lt hJG, hFG, hFB, hGB⟩
        have DC := Lib.hid (DD.out w1 F hJF HW1.out hFB (by first | rfl | trivial))
        clear hJF hJG hFG hFB hGB DD
        go_wp2_with fail
        refine DC.out.mono ?_
        rintro _ w2 ⟨v2, F2, rfl, hJ2, hT2, hG2⟩
        have hw2 : Below w.heap.size wr w2 := HW1.out.trans (hT2.below (Nat.le_trans HB.out.size HW1.out.size) HAP.out.2.2.2.1)
        have hc2 := HC.out w2 hw2
        have f0 : w2.cell? ⟨b, off + j * 14, none⟩ = some (.int .i64 kind) := hc2 0 (by omega)
        have f1 : w2.cell? ⟨b, off + j * 14 + 1, none⟩ = some (.int .i64 pk) := hc2 1 (by omega)
        have f2 : w2.cell? ⟨b, off + j * 14 + 2, none⟩ = some (.int .i64 pn) := hc2 2 (by omega)
        have f3 : w2.cell? ⟨b, off + j * 14 + 3, none⟩ = some (.int .i64 pt) := hc2 3 (by omega)
        have f4 : w2.cell? ⟨b, off + j * 14 + 4, none⟩ = some (.string pb) := hc2 4 (by omega)
        have f5 : w2.cell? ⟨b, off + j * 14 + 5, none⟩ = some (.int .i64 mt) := hc2 5 (by omega)
        have f6 : w2.cell? ⟨b, off + j * 14 + 6, none⟩ = some (.int .i64 mr) := hc2 6 (by omega)
        have f7 : w2.cell? ⟨b, off + j * 14 + 7, none⟩ = some (.int .i64 mf) := hc2 7 (by omega)
        have f8 : w2.cell? ⟨b, off + j * 14 + 8, none⟩ = some (.int .i64 mp) := hc2 8 (by omega)
        have f9 : w2.cell? ⟨b, off + j * 14 + 9, none⟩ = some (.int .i64 ml) := hc2 9 (by omega)
        have f10 : w2.cell? ⟨b, off + j * 14 + 10, none⟩ = some (.bool next) := hc2 10 (by omega)
        have f11 : w2.cell? ⟨b, off + j * 14 + 11, none⟩ = some (.int .i64 n) := hc2 11 (by omega)
        have f12 : w2.cell? ⟨b, off + j * 14 + 12, none⟩ = some (.string text) := hc2 12 (by omega)
        have f13 : w2.cell? ⟨b, off + j * 14 + 13, none⟩ = some (pv) := hc2 13 (by omega)
        have MC := Lib.hid (MM.out w2 G (Joint.touch refUse.touch refPg.touch HJG.out hT2 (fun k hk => HAP.out.2.2.1 k hk)) hw2 HAP.out.2.2.2.2 (by first | rfl | trivial))
        have HJ2 := Lib.hid hJ2
        have HT2 := Lib.hid hT2
        have HG2 := Lib.hid hG2
        have HW2 := Lib.hid hw2
        clear hc2 hJ2 hT2 hG2 hw2 MM e0 e1 e2 e3 e4 e5 e6 e7 e8 e9 e10 e11 e12 e13
        go_wp2_with fail
        refine MC.out.mono ?_
        rintro _ w3 ⟨v3, G3, rfl, hJ3, hT3, hG3⟩
        obtain ⟨n1, n2, n3, n4⟩ := apart_after HAP.out.2.1 HT2.out.size (Joint.lt U.lt P.lt HJ2.out) HG2.out hG3 HAP.out.2.2.1 HAP.out.2.2.2.1 HAP.out.2.2.2.2 (Nat.le_trans HB.out.size HW1.out.size)
        have HJ3 : Hid (Joint At PAt w3 p v2 ⟨d', s'⟩ F2) := Lib.hid (Joint.touch U.touch P.touch HJ2.out hT3 n1)
        have HK3 := Lib.hid hJ3
        have HW3 := Lib.hid (HW2.out.trans (hT3.below (Nat.le_trans HB.out.size HW2.out.size) HAP.out.2.2.2.2))
        have HN3 := Lib.hid (And.intro n2 (And.intro n3 n4))
        clear hJ3 hT3 hG3 n1 n2 n3 n4 HJ2 HT2 HG2 HJG HAP HB1 HW1 HW2 HC HBO DC MC f0 f1 f2 f3 f4 f5 f6 f7 f8 f9 f10 f11 f12 f13
        have qE : (E != E) = false := by simp
        cases s' with
        | none =>
          obtain ⟨rfl, hA⟩ := HJ3.out
          obtain ⟨rfl, hR⟩ := HK3.out
          have r4 : w3.cell? ⟨q, 4, none⟩ = some (.int .i64 d'.count) := ref_count hR
          have qC : (d'.count != d'.count) = false := by simp
          have Q2 : Hid (∀ k, Calls Tryz.prog 12 #[.pointer (some ⟨p, 0, none⟩)] (w3.drewN k) fun e w' => e = .returned (.int .i64 d'.count) ∧ w' = w3.drewN k) := Lib.hid (fun k => (S _ _ _ _ (U.touch hA (touch_drewN w3 k) (by simp))).mono fun _ _ ⟨h1, h2⟩ => ⟨h1, h2.symm⟩)
          have HBN : Hid (∀ k, Both5 At PAt w.heap.size p q (.pointer none) (.pointer none) ⟨d', none⟩ (w3.drewN k)) := Lib.hid (fun k => Both5.touch U P ⟨F2, G3, HJ3.out, HK3.out, HN3.out.1, HN3.out.2.1, HN3.out.2.2⟩ (touch_drewN w3 k))
          clear hA hR
          go_upto_region 16 with fail
          go_quiet ((go_at_call 12; exact Calls.quiet_of_same (Q2.out _)))
          go_wp2
          go_roundw
          case rel => exact ⟨j + 1, ⟨d', none⟩, by omega, by omega, by go_num, Lib.hid (HBN.out nq), HOK', Lib.hid (fun s hs => by cases hs), Lib.hid (below_drewN2 (HB.out.trans HW3.out) nq)⟩
          case measure => simp [intOf]; omega
        | some s =>
          obtain ⟨q1, F1a, G1a, rfl, hA, hP, hAP, hF2⟩ := HJ3.out
          obtain ⟨q2, F1b, G1b, rfl, hR, hQ, hRQ, hG3⟩ := HK3.out
          have r4 : w3.cell? ⟨q, 4, none⟩ = some (.int .i64 d'.count) := ref_count hR
          have qC : (d'.count != d'.count) = false := by simp
          have Q2 : Hid (∀ k, Calls Tryz.prog 12 #[.pointer (some ⟨p, 0, none⟩)] (w3.drewN k) fun e w' => e = .returned (.int .i64 d'.count) ∧ w' = w3.drewN k) := Lib.hid (fun k => (S _ _ _ _ (U.touch hA (touch_drewN w3 k) (by simp))).mono fun _ _ ⟨h1, h2⟩ => ⟨h1, h2.symm⟩)
          have HBN : Hid (∀ k, Both5 At PAt w.heap.size p q (.pointer (some ⟨q1, 0, none⟩)) (.pointer (some ⟨q2, 0, none⟩)) ⟨d', some s⟩ (w3.drewN k)) := Lib.hid (fun k => Both5.touch U P ⟨F2, G3, HJ3.out, HK3.out, HN3.out.1, HN3.out.2.1, HN3.out.2.2⟩ (touch_drewN w3 k))
          have HBD : Hid (∀ k, Below w.heap.size w (w3.drewN k)) := Lib.hid (fun k => below_drewN2 (HB.out.trans HW3.out) k)
          clear hA hR hP hQ hAP hRQ hF2 hG3 HJ3 HK3 HW3 HN3 HB
          go_upto_region 16 with fail
          go_quiet ((go_at_call 12; exact Calls.quiet_of_same (Q2.out _)))
          clear r4 Q2 qC qE
          have HB4 := Lib.hid (HBN.out nq)
          have HD4 := Lib.hid (HBD.out nq)
          clear HBN HBD
          obtain ⟨w4, hw4⟩ : ∃ w4, w3.drewN nq = w4 := ⟨_, rfl⟩
          rw [hw4] at HB4 HD4 ⊢
          clear hw4
          obtain ⟨sm, so, shas, sseal, srow⟩ := s
          obtain ⟨at_, ar, af, ap, al⟩ := sm
          obtain ⟨bt, br, bf, bp, bl⟩ := so
          obtain ⟨F4, G4, ⟨q1', Fa, Ga, hq1, hA4, hP4, hFa, rfl⟩, ⟨q2', Fb, Gb, hq2, hR4, hQ4, hFb, rfl⟩, hAP4, hFB4, hGB4⟩ := HB4.out
          obtain rfl : q1' = q1 := by injection hq1 with h; injection h with h; injection h with h; exact h.symm
          obtain rfl : q2' = q2 := by injection hq2 with h; injection h with h; injection h with h; exact h.symm
          clear hq1 hq2 HB4
          have E14 := func_enters Tryz.func14 (by kernel_rfl) rfl
          have OC := P.other w4 q1' p _ Ga hP4
          unfold MV.val at OC
          simp only at OC
          have OC := Lib.hid OC
          have HA4 := Lib.hid hA4
          have HP4 := Lib.hid hP4
          have HR4 := Lib.hid hR4
          have HQ4 := Lib.hid hQ4
          have HFa := Lib.hid hFa
          have HFb := Lib.hid hFb
          have HAP4 := Lib.hid hAP4
          have HFB4 := Lib.hid hFB4
          have HGB4 := Lib.hid hGB4
          have qS : (shas != shas) = false := by simp
          clear hA4 hP4 hR4 hQ4 hFa hFb hAP4 hFB4 hGB4
          go_wp2_with fail
          refine OC.out.mono ?_
          rintro _ w5 ⟨rfl, hb5⟩
          have T5 : Touch [] w4 (w5.alloc (.cells #[.int .i64 bt, .int .i64 br, .int .i64 bf, .int .i64 bp, .int .i64 bl] 40)) := (Touch.ofBelow hb5).alloc _
          have HT5 := Lib.hid T5
          have hP5 := P.touch HP4.out T5 (by simp)
          have hQ5 := refPg.touch HQ4.out T5 (by simp)
          have hO5 := Blk.new w5 #[.int .i64 bt, .int .i64 br, .int .i64 bf, .int .i64 bp, .int .i64 bl] 40
          have MC : Hid (∀ wS, Below (w5.alloc (.cells #[.int .i64 bt, .int .i64 br, .int .i64 bf, .int .i64 bp, .int .i64 bl] 40)).heap.size (w5.alloc (.cells #[.int .i64 bt, .int .i64 br, .int .i64 bf, .int .i64 bp, .int .i64 bl] 40)) wS → Calls Tryz.prog 14 #[.pointer (some ⟨q1', 0, none⟩)] wS fun e w' => e = .returned (.agg #[.int .i64 at_, .int .i64 ar, .int .i64 af, .int .i64 ap, .int .i64 al]) ∧ Below (w5.alloc (.cells #[.int .i64 bt, .int .i64 br, .int .i64 bf, .int .i64 bp, .int .i64 bl] 40)).heap.size (w5.alloc (.cells #[.int .i64 bt, .int .i64 br, .int .i64 bf, .int .i64 bp, .int .i64 bl] 40)) w') := Lib.hid (fun wS hS => by
            have := P.meta_ wS q1' p _ Ga (P.touch hP5 (Touch.ofBelow hS) (by simp))
            exact this.mono fun _ _ ⟨e, hb⟩ => ⟨e, hS.trans (hb.mono hS.size)⟩)
          have KQ : Hid (∀ wS, Below (w5.alloc (.cells #[.int .i64 bt, .int .i64 br, .int .i64 bf, .int .i64 bp, .int .i64 bl] 40)).heap.size (w5.alloc (.cells #[.int .i64 bt, .int .i64 br, .int .i64 bf, .int .i64 bp, .int .i64 bl] 40)) wS → wS.cell? ⟨q2', 1, none⟩ = some (.int .i64 at_) ∧ wS.cell? ⟨q2', 2, none⟩ = some (.int .i64 ar) ∧ wS.cell? ⟨q2', 3, none⟩ = some (.int .i64 af) ∧ wS.cell? ⟨q2', 4, none⟩ = some (.int .i64 ap) ∧ wS.cell? ⟨q2', 5, none⟩ = some (.int .i64 al) ∧ wS.cell? ⟨q2', 6, none⟩ = some (.int .i64 bt) ∧ wS.cell? ⟨q2', 7, none⟩ = some (.int .i64 br) ∧ wS.cell? ⟨q2', 8, none⟩ = some (.int .i64 bf) ∧ wS.cell? ⟨q2', 9, none⟩ = some (.int .i64 bp) ∧ wS.cell? ⟨q2', 10, none⟩ = some (.int .i64 bl) ∧ wS.cell? ⟨q2', 11, none⟩ = some (.bool shas)) := Lib.hid (fun wS hS => refPg_head (refPg.touch hQ5 (Touch.ofBelow hS) (by simp)))
          have KO : Hid (∀ wS, Below (w5.alloc (.cells #[.int .i64 bt, .int .i64 br, .int .i64 bf, .int .i64 bp, .int .i64 bl] 40)).heap.size (w5.alloc (.cells #[.int .i64 bt, .int .i64 br, .int .i64 bf, .int .i64 bp, .int .i64 bl] 40)) wS → wS.cell? ⟨w5.heap.size, 0, none⟩ = some (.int .i64 bt) ∧ wS.cell? ⟨w5.heap.size, 1, none⟩ = some (.int .i64 br) ∧ wS.cell? ⟨w5.heap.size, 2, none⟩ = some (.int .i64 bf) ∧ wS.cell? ⟨w5.heap.size, 3, none⟩ = some (.int .i64 bp) ∧ wS.cell? ⟨w5.heap.size, 4, none⟩ = some (.int .i64 bl)) := Lib.hid (fun wS hS => by
            have h := hO5.touch (Touch.ofBelow hS) (by simp)
            exact ⟨h.cell 0, h.cell 1, h.cell 2, h.cell 3, h.cell 4⟩)
          clear hP5 hQ5 hO5 T5 hb5 OC
          go_wp2_with fail
          refine region_qh (C := fun w' => Below (w5.alloc (.cells #[.int .i64 bt, .int .i64 br, .int .i64 bf, .int .i64 bp, .int .i64 bl] 40)).heap.size (w5.alloc (.cells #[.int .i64 bt, .int .i64 br, .int .i64 bf, .int .i64 bp, .int .i64 bl] 40)) w') (by kernel_rfl) (by kernel_rfl) (Below.refl _ _).drew ?_
          refine qh_op (.pointer (some ⟨q1', 0, none⟩)) rfl (fun wS hSw => by go_simp; try with_reducible rfl) ?_
          simp only [Act.put, List.setIfInBounds_toArray, List.set_cons_zero, List.set_cons_succ]
          refine qh_call1 (.agg #[.int .i64 at_, .int .i64 ar, .int .i64 af, .int .i64 ap, .int .i64 al]) rfl 14 _ _ rfl (.pointer (some ⟨q1', 0, none⟩)) (by rfl) E14 (fun wS hSw => MC.out wS hSw) ?_
          simp only [Act.put, List.setIfInBounds_toArray, List.set_cons_zero, List.set_cons_succ]
          refine qh_op (.pointer (some ⟨q2', 0, none⟩)) rfl (fun wS hSw => by go_simp; try with_reducible rfl) ?_
          simp only [Act.put, List.setIfInBounds_toArray, List.set_cons_zero, List.set_cons_succ]
          refine qh_op (.pointer (some ⟨q2', 0, none⟩)) rfl (fun wS hSw => by go_simp; try with_reducible rfl) ?_
          simp only [Act.put, List.setIfInBounds_toArray, List.set_cons_zero, List.set_cons_succ]
          refine qh_op (.pointer (some ⟨q2', 1, none⟩)) rfl (fun wS hSw => by go_simp; try with_reducible rfl) ?_
          simp only [Act.put, List.setIfInBounds_toArray, List.set_cons_zero, List.set_cons_succ]
          refine qh_op (.agg #[.int .i64 at_, .int .i64 ar, .int .i64 af, .int .i64 ap, .int .i64 al]) rfl (fun wS hSw => by obtain ⟨k1, k2, k3, k4, k5, k6, k7, k8, k9, k10, k11⟩ := KQ.out wS hSw; go_simp; try with_reducible rfl) ?_
          simp only [Act.put, List.setIfInBounds_toArray, List.set_cons_zero, List.set_cons_succ]
          refine qh_op (.bool false) rfl (fun wS hSw => by go_simp; try with_reducible rfl) ?_
          simp only [Act.put, List.setIfInBounds_toArray, List.set_cons_zero, List.set_cons_succ]
          refine qh_op (.bool false) rfl (fun wS hSw => by go_simp; try with_reducible rfl) ?_
          simp only [Act.put, List.setIfInBounds_toArray, List.set_cons_zero, List.set_cons_succ]
          refine qh_opw (.agg #[.int .i64 bt, .int .i64 br, .int .i64 bf, .int .i64 bp, .int .i64 bl]) (by rfl) (fun wS hSw => by obtain ⟨k0, k1, k2, k3, k4⟩ := KO.out wS hSw; go_simp; try with_reducible rfl) ?_
          simp only [Act.put, List.setIfInBounds_toArray, List.set_cons_zero, List.set_cons_succ]
          refine qh_opw (.pointer (some ⟨q2', 0, none⟩)) (by rfl) (fun wS hSw => by go_simp; try with_reducible rfl) ?_
          simp only [Act.put, List.setIfInBounds_toArray, List.set_cons_zero, List.set_cons_succ]
          refine qh_opw (.pointer (some ⟨q2', 0, none⟩)) (by rfl) (fun wS hSw => by go_simp; try with_reducible rfl) ?_
          simp only [Act.put, List.setIfInBounds_toArray, List.set_cons_zero, List.set_cons_succ]
          refine qh_opw (.pointer (some ⟨q2', 6, none⟩)) (by rfl) (fun wS hSw => by go_simp; try with_reducible rfl) ?_
          simp only [Act.put, List.setIfInBounds_toArray, List.set_cons_zero, List.set_cons_succ]
          refine qh_opw (.agg #[.int .i64 bt, .int .i64 br, .int .i64 bf, .int .i64 bp, .int .i64 bl]) (by rfl) (fun wS hSw => by obtain ⟨k1, k2, k3, k4, k5, k6, k7, k8, k9, k10, k11⟩ := KQ.out wS hSw; go_simp; try with_reducible rfl) ?_
          simp only [Act.put, List.setIfInBounds_toArray, List.set_cons_zero, List.set_cons_succ]
          refine qh_opw (.bool false) (by rfl) (fun wS hSw => by go_simp; try with_reducible rfl) ?_
          simp only [Act.put, List.setIfInBounds_toArray, List.set_cons_zero, List.set_cons_succ]
          refine qh_op (.bool false) rfl (fun wS hSw => by go_simp; try with_reducible rfl) ?_
          simp only [Act.put, List.setIfInBounds_toArray, List.set_cons_zero, List.set_cons_succ]
          refine qh_op (.bool false) rfl (fun wS hSw => by go_simp; try with_reducible rfl) ?_
          simp only [Act.put, List.setIfInBounds_toArray, List.set_cons_zero, List.set_cons_succ]
          refine qh_opw (.bool shas) (by rfl) (fun wS hSw => by go_simp; try with_reducible rfl) ?_
          simp only [Act.put, List.setIfInBounds_toArray, List.set_cons_zero, List.set_cons_succ]
          refine qh_opw (.pointer (some ⟨q2', 0, none⟩)) (by rfl) (fun wS hSw => by go_simp; try with_reducible rfl) ?_
          simp only [Act.put, List.setIfInBounds_toArray, List.set_cons_zero, List.set_cons_succ]
          refine qh_opw (.pointer (some ⟨q2', 0, none⟩)) (by rfl) (fun wS hSw => by go_simp; try with_reducible rfl) ?_
          simp only [Act.put, List.setIfInBounds_toArray, List.set_cons_zero, List.set_cons_succ]
          refine qh_opw (.pointer (some ⟨q2', 11, none⟩)) (by rfl) (fun wS hSw => by go_simp; try with_reducible rfl) ?_
          simp only [Act.put, List.setIfInBounds_toArray, List.set_cons_zero, List.set_cons_succ]
          refine qh_opw (.bool shas) (by rfl) (fun wS hSw => by obtain ⟨k1, k2, k3, k4, k5, k6, k7, k8, k9, k10, k11⟩ := KQ.out wS hSw; go_simp; try with_reducible rfl) ?_
          simp only [Act.put, List.setIfInBounds_toArray, List.set_cons_zero, List.set_cons_succ]
          refine qh_opw (.bool false) (by rfl) (fun wS hSw => by go_simp; try with_reducible rfl) ?_
          simp only [Act.put, List.setIfInBounds_toArray, List.set_cons_zero, List.set_cons_succ]
          refine qh_op (.bool false) rfl (fun wS hSw => by go_simp; try with_reducible rfl) ?_
          simp only [Act.put, List.setIfInBounds_toArray, List.set_cons_zero, List.set_cons_succ]
          refine qh_nil ⟨?_⟩
          intro w6 hw6
          have HT6 := Lib.hid (HT5.out.trans (Touch.ofBelow hw6) (Grows.refl _ _))
          clear hw6 HT5 KQ KO MC qS
          obtain ⟨PSx, hPSx⟩ : ∃ z : PS, (⟨⟨at_, ar, af, ap, al⟩, ⟨bt, br, bf, bp, bl⟩, shas, sseal, srow⟩ : PS) = z := ⟨_, rfl⟩
          rw [hPSx] at HP4 HQ4 HOK' HRW'
          have HPSX := Lib.hid hPSx
          clear hPSx
          go_wp2_with fail
          go_loopw [16] (fun k wi => ∃ m : Int, -1 ≤ m ∧ m ≤ 7 ∧ k = .int .i64 m ∧ Hid (Touch [] w4 wi)) (fun k _ => (7 - intOf k).toNat)
          case atStart => exact ⟨-1, by omega, by omega, rfl, HT6⟩
          case round =>
            obtain ⟨m, hm1, hm7, rfl, HTi⟩ := hrel
            clear HT6
            by_cases hm : m ≤ 6
            · have t6 : decide (m ≤ 6) = true := decide_eq_true hm
              have RA := P.read wr p q1' d' PSx Fa Ga (30 + 4 * (j + 1)) (by omega) HOK'.out.d HOK'.out.full (HOK'.out.s _ rfl) m (U.touch HA4.out HTi.out (by simp)) (P.touch HP4.out HTi.out (by simp))
              have RB := fun wx (hT : Touch [] w4 wx) => refPg.read wx q q2' d' PSx Fb Gb (30 + 4 * (j + 1)) (by omega) HOK'.out.d HOK'.out.full (HOK'.out.s _ rfl) m (refUse.touch HR4.out hT (by simp)) (refPg.touch HQ4.out hT (by simp))
              obtain ⟨⟨xk, xn, xt, xb⟩, hx⟩ : ∃ X, PSx.readP d' m = X := ⟨_, rfl⟩
              obtain ⟨xe, hxe⟩ : ∃ e, PSx.readE d' m = e := ⟨_, rfl⟩
              simp only [hx, hxe] at RA RB
              unfold PV.val at RA RB
              simp only at RA RB
              have RA := Lib.hid RA
              have RB := fun wx hT => Lib.hid (RB wx hT)
              have qx : (xe != xe) = false := by simp
              have HM6 := Lib.hid hm
              clear hx hxe hm
              go_wp2_with fail
              refine RA.out.mono ?_
              rintro _ wa ⟨rfl, hba⟩
              have Ta := Lib.hid ((HTi.out.trans (Touch.ofBelow hba) (Grows.refl _ _)).alloc (.cells #[.int .i64 xk, .int .i64 xn, .int .i64 xt, .string xb] 38))
              have RBa := RB _ Ta.out
              clear hba RB RA
              go_wp2_with fail
              refine RBa.out.mono ?_
              rintro _ wb ⟨rfl, hbb⟩
              have Tb := Lib.hid ((Ta.out.trans (Touch.ofBelow hbb) (Grows.refl _ _)).alloc (.cells #[.int .i64 xk, .int .i64 xn, .int .i64 xt, .string xb] 38))
              have hXb := (Blk.new wa #[.int .i64 xk, .int .i64 xn, .int .i64 xt, .string xb] 38).touch (Touch.ofBelow hbb) (by simp)
              have x0 : wb.cell? ⟨wa.heap.size, 0, none⟩ = some (.int .i64 xk) := hXb.cell 0
              have x1 : wb.cell? ⟨wa.heap.size, 1, none⟩ = some (.int .i64 xn) := hXb.cell 1
              have x2 : wb.cell? ⟨wa.heap.size, 2, none⟩ = some (.int .i64 xt) := hXb.cell 2
              have x3 : wb.cell? ⟨wa.heap.size, 3, none⟩ = some (.string xb) := hXb.cell 3
              have hlb := hXb.lt
              have qb : (xb.toList != xb.toList) = false := by simp
              clear hXb hbb
              have hw1 : IntKind.i64.wrap (m + 1) = m + 1 := IntWalk.i64_in _ (by omega)
              go_wp2
              go_roundw
              case rel => exact ⟨m + 1, by omega, by have := HM6.out; omega, rfl, Tb⟩
              case measure => have := HM6.out; simp [intOf]; omega
            · obtain rfl : m = 7 := by omega
              have t6 : decide ((7 : Int) ≤ 6) = false := by decide
              clear hm hm1 hm7
              obtain ⟨w7, hw7⟩ : ∃ w7 : World, w7 = wr := ⟨_, rfl⟩
              have LC := P.log wr q1' p PSx Ga (P.touch HP4.out HTi.out (by simp))
              have LC := Lib.hid LC
              rw [← hw7] at HTi LC ⊢
              clear hw7
              go_wp2_with fail
              refine LC.out.mono ?_
              rintro _ w8 ⟨v8, Ga8, rfl, hI, hP8, hT8, hG8⟩
              have hR8 := refUse.touch (refUse.touch HR4.out HTi.out (by simp)) hT8 (fun k hk hm => HAP4.out k (List.mem_append_right _ hk) (List.mem_append_left _ hm))
              have hQ8 := refPg.touch (refPg.touch HQ4.out HTi.out (by simp)) hT8 (fun k hk hm => HAP4.out k (List.mem_append_right _ hk) (List.mem_append_right _ hm))
              have hA8 := U.touch (U.touch HA4.out HTi.out (by simp)) hT8 (fun k hk hm => HFa.out k hm hk)
              have hltF := U.lt HA4.out
              have hltB := refUse.lt HR4.out
              have hltQ := refPg.lt HQ4.out
              have hs47 := HTi.out.size
              have HB8 := Lib.hid ((HD4.out.trans (HTi.out.below HD4.out.size (by simp))).trans (hT8.below (Nat.le_trans HD4.out.size hs47) (fun k hk => HFB4.out k (List.mem_append_right _ hk))))
              have hAP1 : ∀ k ∈ Fa, k ∉ Ga8 := fun k hk hm => (hG8 k hm).elim (fun h => HFa.out k hk h) (fun h => by have := hltF k hk; omega)
              have hAP2 : ∀ k ∈ Fa ++ Ga8, k ∉ Fb ++ Gb := fun k hk hm => by
                rcases List.mem_append.1 hk with h | h
                · exact HAP4.out k (List.mem_append_left _ h) hm
                · rcases hG8 k h with h | h
                  · exact HAP4.out k (List.mem_append_right _ h) hm
                  · rcases List.mem_append.1 hm with h' | h'
                    · have := hltB k h'; omega
                    · have := hltQ k h'; omega
              have hge : ∀ k ∈ Fa ++ Ga8, w.heap.size ≤ k := fun k hk => by
                rcases List.mem_append.1 hk with h | h
                · exact HFB4.out k (List.mem_append_left _ h)
                · exact (hG8 k h).elim (fun h => HFB4.out k (List.mem_append_right _ h)) (fun h => by have := HD4.out.size; omega)
              have HJ8 : Hid (Joint At PAt w8 p (.pointer (some ⟨q1', 0, none⟩)) ⟨d', some { PSx with row := [] }⟩ (Fa ++ Ga8)) := Lib.hid ⟨q1', Fa, Ga8, rfl, hA8, hP8, hAP1, rfl⟩
              have HFB := HFb
              have HR8 := Lib.hid hR8
              have HQ8 := Lib.hid hQ8
              have HI := Lib.hid hI
              have HAPX := Lib.hid hAP2
              have HGEX := Lib.hid hge
              obtain ⟨vs, vr, hbq, _, hrr, _, _⟩ := hQ8
              obtain ⟨VA, vcap, rfl⟩ := ownsRow_slice hrr
              have HRR := Lib.hid hrr
              have HBQ := Lib.hid hbq
              have r13 : w8.cell? ⟨q2', 13, none⟩ = some (.slice VA PSx.row.length vcap) := hbq.cell 13
              obtain ⟨AI, capI, rfl, _⟩ := hI
              have hrow1 := HRW'.out _ rfl
              have qL : (((PSx.row.length : Nat) : Int) != ((PSx.row.length : Nat) : Int)) = false := by simp
              clear hrr hbq hR8 hA8 hP8 hT8 hG8 hAP1 hAP2 hge hltF hltB hltQ hs47 LC HA4 HP4 HR4 HQ4 HFa HFb HAP4 HFB4 HD4
              go_wp2_with fail
              clear r13 qL
              go_loopw [22] (fun k wi => ∃ m : Nat, m ≤ PSx.row.length ∧ k = .int .i64 m ∧ Hid (Touch [] w8 wi)) (fun k _ => PSx.row.length - (intOf k).toNat)
              case atStart => exact ⟨0, by omega, rfl, Lib.hid (Touch.refl _ _)⟩
              case round =>
                obtain ⟨m, hm, rfl, HTj⟩ := hrel
                have hBj := HBQ.out.touch HTj.out (by simp)
                have z13 : wr.cell? ⟨q2', 13, none⟩ = some (.slice VA PSx.row.length vcap) := hBj.cell 13
                by_cases hm2 : m < PSx.row.length
                · have t7 : decide ((m : Int) < (PSx.row.length : Int)) = true := decide_eq_true (by omega)
                  obtain ⟨A', cap', hv', hcc⟩ := HI.out
                  injection hv' with e1 e2 e3
                  subst e1 e3
                  obtain ⟨bI, oI, rfl, hcI⟩ := hcc m hm2
                  obtain ⟨g, rfl, _, hcv, hcg⟩ := irow_at HRR.out m hm2
                  have y1 : wr.cell? ⟨bI, oI + m, none⟩ = some (.int .i64 PSx.row[m]) := (HTj.out.cell (p := ⟨bI, oI + m, none⟩) (World.block_lt_of_cell? _ _ hcI) (by simp)).trans hcI
                  have y2 : wr.cell? ⟨g, m, none⟩ = some (.int .i64 PSx.row[m]) := (HTj.out.cell (p := ⟨g, m, none⟩) (World.block_lt_of_cell? _ _ hcg) (by simp)).trans hcg
                  have i5 : (0 : Int) ≤ (m : Int) := by omega
                  have i6 : (m : Int) < (PSx.row.length : Int) := by omega
                  have qE2 : (PSx.row[m] != PSx.row[m]) = false := by simp
                  clear hcI hcg hcv hcc hBj e2
                  go_upto_region 35 with fail
                  go_quiet (fail)
                  go_wp2
                  go_roundw
                  case rel => exact ⟨m + 1, by omega, by go_num, Lib.hid (HTj.out.trans (touch_drewN _ _) (Grows.refl _ _))⟩
                  case measure => simp [intOf]; omega
                · obtain rfl : m = PSx.row.length := by omega
                  have t7 : decide ((PSx.row.length : Int) < (PSx.row.length : Int)) = false := decide_eq_false (by omega)
                  have zf : wr.frozen? ⟨q2', 13, none⟩ = false := hBj.free 13
                  have zl := hBj.lt
                  have HBj := Lib.hid hBj
                  clear hBj hm hm2
                  go_wp2
                  go_roundw
                  case rel =>
                    obtain ⟨Gq, hq9, hsub⟩ := refPg_reset (refPg.touch HQ8.out HTj.out (by simp))
                    have hT9 : Touch [q2'] wr (wr.setCell ⟨q2', 13, none⟩ (.slice none 0 0)) := (Touch.refl _ _).setCell (.inl (by simp)) _
                    have hmem := refPg_mem HQ8.out
                    have hj9 : Joint At PAt (wr.setCell ⟨q2', 13, none⟩ (.slice none 0 0)) p (.pointer (some ⟨q1', 0, none⟩)) ⟨d', some { PSx with row := [] }⟩ (Fa ++ Ga8) := Joint.touch U.touch P.touch (Joint.touch U.touch P.touch HJ8.out HTj.out (by simp)) hT9 (fun k hk hm => by
                      rw [List.mem_singleton] at hk
                      subst hk
                      exact HAPX.out _ hm (List.mem_append_right _ hmem))
                    have hr9 : RefAt (wr.setCell ⟨q2', 13, none⟩ (.slice none 0 0)) q d' Fb := refUse.touch (refUse.touch HR8.out HTj.out (by simp)) hT9 (fun k hk hm => by
                      rw [List.mem_singleton] at hk
                      subst hk
                      exact HFB.out _ hm hmem)
                    refine ⟨j + 1, ⟨d', some { PSx with row := [] }⟩, by omega, by omega, by go_num, Lib.hid ⟨Fa ++ Ga8, Fb ++ Gq, hj9, ⟨q2', Fb, Gq, rfl, hr9, hq9, fun k hk hm => HFB.out k hk (hsub k hm), rfl⟩, fun k hk hm => ?_, HGEX.out, fun k hk => ?_⟩, Lib.hid (DS.read_ok HOK'.out), Lib.hid (fun s hs => by injection hs with hs; subst hs; rfl), Lib.hid ?_⟩
                    · rcases List.mem_append.1 hm with h | h
                      · exact HAPX.out k hk (List.mem_append_left _ h)
                      · exact HAPX.out k hk (List.mem_append_right _ (hsub k h))
                    · rcases List.mem_append.1 hk with h | h
                      · exact HGB4.out k (List.mem_append_left _ h)
                      · exact HGB4.out k (List.mem_append_right _ (hsub k h))
                    · exact (HB8.out.trans (HTj.out.below HB8.out.size (by simp))).setCell (p := ⟨q2', 13, none⟩) (HGB4.out _ (List.mem_append_right _ hmem)) _
                  case measure => simp [intOf]; omega
    · have t3 : (decide (j < xs.length) && decide ((j : Int) < 50)) = false := by
        rw [← Bool.not_eq_true, Bool.and_eq_true, decide_eq_true_eq, decide_eq_true_eq]
        omega
      by_cases hl : j < xs.length
      · have t1 : decide (j < xs.length) = true := decide_eq_true hl
        have t2 : decide ((j : Int) < 50) = false := decide_eq_false (by omega)
        clear hlt t3 hl
        go_wp2
        go_ret
        exact ⟨rfl, HB.out⟩
      · have t1 : decide (j < xs.length) = false := decide_eq_false hl
        clear hlt t3 hl
        go_wp2
        go_ret
        exact ⟨rfl, HB.out⟩
end Go.Proofs.YtjgmlpfallakmaaGreat
