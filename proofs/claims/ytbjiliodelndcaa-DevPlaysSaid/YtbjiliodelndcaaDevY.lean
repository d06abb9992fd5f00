/-
  Contract of the program's dev.Sync: a range over the map of what waits. No conditions but those typed.
-/
import Derived.Test.YtbjiliodelndcaaDevK
import Derived.Test.YtbjiliodelndcaaDevMay
import Derived.Maps.RangeWalk
import Derived.Deep.CutRange
import Derived.Deep.DeepCutAuto
namespace Go.Proofs.Ytbjiliodelndcaa
open Go.RowKit Go.MapKept
open Go.Maps (Keyed)
attribute [local go_sem ↓] Go.wp_at_zero Go.wp_at_succ
/-- 'clear(m)' -/
theorem IMap.clear {P : Program} {w : World} {b n : Nat} {f : Int → Option Value} {t kt e : TypeId} (h : IMap w b n f) (ht : P.underlying t = some (.map kt e)) :
    ∃ w', (∀ ty, (Builtin.clear_ #[t] ty #[.map (some b)]).run P w = .ok (.tuple #[]) w') ∧ IMap w' b 0 (fun _ => none) ∧ w.grownBy w' (some b) := by
  obtain ⟨es, clock, hb, _⟩ := h
  refine ⟨{ w with heap := w.heap.setIfInBounds b (.map #[] clock) }, fun ty => ?_, ⟨#[], clock, (heap_set hb).1, by simp, stamped_empty clock, by simp, by simp⟩, ⟨rfl, rfl, rfl, by simp, fun r _ hne => (heap_set hb).2 r (fun e => hne (by rw [e]))⟩⟩
  simp [Builtin.clear_, run_underlying ht, MapKept.run_getObj_map hb, MapKept.run_setObj_map _ hb, Result.andThen]
theorem touch_mb {w w1 : World} {b : Nat} (h : w.grownBy w1 (some b)) : Touch [b] w w1 := ⟨h.os, h.tape, h.output, h.size, fun k hk hn => h.block k hk (fun e => hn (by injection e with e; simp [e]))⟩
/-- the step of a range over a map by whole numbers, whatever its elements -/
theorem wpList_next_held {P : Program} (w : World) {ops : Array Oper} {rest : List Oper} {o : Oper} {a : Act} {Q : Exit → Act → World → Prop} (hg : o.guard = none) (it : Operand) (hop : o.op = Op.next it false) (k : TypeId) (K : Keyed P k) (hk : P.underlying k = some (.int .i64))
    (b r n : Nat) (D : DataW Value) (left : Lit → Bool) (cnt : Nat) (hit : a.eval it = .pointer (some ⟨r, 0, none⟩)) (h : w.ranges P k heldR b r n D left cnt)
    (hDone : cnt = 0 → (∀ kl, left kl = false) → wpList P ops Q rest (a.put o.dst (.tuple #[.bool false])) w)
    (hMore : ∀ (x : Int) (v : Value) (w' : World) (cnt' : Nat), (Lit.int .i64 x).wf = true → left (.int .i64 x) = true → (∀ zd, D.atKey (.int .i64 x) zd = .held v) → w'.ranges P k heldR b r n D (fun z => left z && !z.sameKey (.int .i64 x)) cnt' → cnt' < cnt →
      w.grownBy w' (some r) → w'.heap.size = w.heap.size → (Instr.entry (.pointer (some ⟨r, 0, none⟩))).run P w' = .ok (.tuple #[.int .i64 x, v]) w' → wpList P ops Q rest (a.put o.dst (.tuple #[.bool true, .int .i64 x, v])) w') :
    wpList P ops Q (o :: rest) a w :=
  wpList_next_ranges w hg it hop k K heldR (Value.int .i64) (id : Value → Value) (fun key kl hkey => by obtain ⟨x, rfl, _⟩ := Maps.keyOf_int_inv hk hkey; exact ⟨x, rfl⟩) (fun v y _ => ⟨v, rfl⟩)
    b r n D left cnt hit h hDone (fun x c kl y w' cnt' hkey hlk hv hat hrg hlt hgr hsz hen => by
      obtain ⟨x', ex, rfl, hwx⟩ := Maps.keyOf_int_inv hk hkey
      cases ex
      have hy : y = (.held c, []) := by injection hv with hv; exact hv.symm
      subst hy
      exact hMore x c w' cnt' hwx hlk hat hrg hlt hgr hsz hen)
/-- what holds at a round of Sync's range -/
def RangeAt (w1 : World) (p : Nat) (vs : Value) (mb r n : Nat) (D : DataW Value) (cs : Array Value) (d : RD) (wr : World) : Prop :=
  ∃ (left : Lit → Bool) (cnt : Nat) (s : List ByteArray), wr.ranges Try.prog 3 heldR mb r n D left cnt ∧ Blk wr p cs 58 ∧ wr.ownsRow 0 62 128 vs d.sector.length (secs s) ∧ s.length = d.sector.length ∧ All128 s ∧ Touch (r :: vs.ownBlock.toList) w1 wr ∧
    ∀ i : Nat, i < d.sector.length → s.getD i ⟨#[]⟩ = if left (.int .i64 i) = true then d.sector.getD i ⟨#[]⟩ else RD.last d.row i (d.sector.getD i ⟨#[]⟩)
set_option maxRecDepth 4000 in
set_option maxHeartbeats 3200000 in
theorem dev_sync (w : World) (p : Nat) (d : RD) (F : List Nat) (K : Nat) (hK : K ≤ 1000000) (ok : RD.Ok K d) (h : DevAt w p d F) :
    Calls Try.prog 26 #[.pointer (some ⟨p, 0, none⟩)] w (Did DevAt w p F d.syncD (.returned (.int .i64 d.syncE))) := by
  have hst := dev_step w p d F K hK ok h
  have hl := ok.row
  have hl2 := ok.len
  clear h
  cases hg : d.goes
  · have hD : d.syncD = d.stepped := by unfold RD.syncD; rw [hg]; rfl
    have hE : d.syncE = 6 := by unfold RD.syncE; rw [hg]; rfl
    rw [hE] at hst ⊢
    rw [hD]
    have HST := Lib.hid hst
    clear hst hD hE hg hl hl2
    go_enter Try.func26, Try.ntmps26
    go_wp2_with (go_at_call 41; refine HST.out.mono ?_; rintro _ w1 ⟨rfl, HA⟩)
    go_ret
    exact ⟨rfl, HA⟩
  · have hD : d.syncD = { d.stepped with sector := RD.synced d.row d.sector, row := [] } := by unfold RD.syncD; rw [hg]; rfl
    have hE : d.syncE = 0 := by unfold RD.syncE; rw [hg]; rfl
    rw [hE] at hst ⊢
    rw [hD]
    have HST := Lib.hid hst
    have e1 := RD.stepped_sector d
    have e2 := RD.stepped_row d
    obtain ⟨d1, hd1⟩ : ∃ d1, d.stepped = d1 := ⟨_, rfl⟩
    rw [hd1] at HST e1 e2 ⊢
    have HE1 := Lib.hid (And.intro e1 e2)
    clear hst hD hE hg hd1 e1 e2
    go_enter Try.func26, Try.ntmps26
    go_upto_region 6 with (go_at_call 41; refine HST.out.mono ?_; rintro _ w1 ⟨rfl, F1, hA1, hT1, hG1⟩)
    obtain ⟨vs, mb, n, f, hb, hs, hm, hn, hr, hr2, k1, k2, k3, ⟨m1, m2, m3, m4⟩, hlt, hz, hz2⟩ := hA1
    obtain ⟨e1, e2⟩ := HE1.out
    rw [e2] at hn hr2 hz2
    rw [e1] at hs hz
    simp only [e1, e2] at hr
    have hwf : ∀ k v, f k = some v → (Lit.int .i64 k).wf = true := by
      intro k v hf
      obtain ⟨i, rfl, hi, _⟩ := hr k v hf
      simp [Lit.wf, IntKind.min, IntKind.max, IntKind.bits, IntKind.signed]
      omega
    obtain ⟨A, cap, rfl⟩ := ownsRow_slice hs
    obtain ⟨D, hD, hD1, hD2, _⟩ := hm.owns Try.underlying3 (by simp only [maxLen]; omega) hwf
    have K := Maps.int_keyed Try.underlying3
    have c1 : w1.cell? ⟨p, 2, none⟩ = some (.map (some mb)) := hb.cell 2
    have HG1 := Lib.hid (And.intro hT1 hG1)
    clear hT1 hG1
    go_wp2_with (at_range; refine wpList_range_own w1 rfl (.tmp 16) 56 rfl 3 55 K Try.underlying56 heldR mb n D rfl hD ?_; intro w0 hrg0 hg0 hs0)
    go_frame
    have hmw : mb < w1.heap.size := hm.lt
    have hpw := hb.lt
    have T0 : Touch [] w1 w0 := ⟨hg0.os, hg0.tape, hg0.output, hg0.size, fun k hk _ => hg0.block k hk (by simp)⟩
    obtain ⟨cs, hcs⟩ : ∃ cs : Array Value, #[.bool (!d1.off), .slice A d.sector.length cap, .map (some mb), .int .i64 d1.left, .int .i64 d1.wrote, .int .i64 d1.count] = cs := ⟨_, rfl⟩
    have HST : Hid (RangeAt w1 p (.slice A d.sector.length cap) mb w1.heap.size n D cs d w0) := Lib.hid
      ⟨_, _, d.sector, hrg0, by rw [← hcs]; exact hb.touch T0 (by simp), ownsRow_touch hs T0 (by simp), rfl, hz, T0.more (by simp), fun i hi => by
        split
        · rfl
        · rename_i hh
          have hf : f (i : Int) = none := by
            cases hf : f (i : Int) with
            | none => rfl
            | some v => exact absurd (hD2 _ v hf) hh
          have hw : RD.writes d.row i = [] := by
            cases hw : RD.writes d.row i with
            | nil => rfl
            | cons a l =>
              obtain ⟨v, hv⟩ := hr2 i (by rw [hw]; simp)
              rw [hf] at hv
              cases hv
          rw [RD.last_writes]
          simp [hw]⟩
    have HCS := Lib.hid hcs
    have HM := Lib.hid hm
    have HR := Lib.hid hr
    have HD1 := Lib.hid hD1
    have HK1 := Lib.hid k1
    have HK2 := Lib.hid k2
    have HM4 := Lib.hid (And.intro m1 (And.intro m2 (And.intro m3 m4)))
    have HLT := Lib.hid hlt
    have HZ2 := Lib.hid hz2
    clear hr hD1 hD2 hwf k1 k2 k3 m1 m2 m3 m4 hlt hr2 hrg0 hg0 hs0 T0 hs hb hm hD hn e1 e2 hcs hz hz2 c1
    go_loopw [4, 5] (fun _ _ wr => RangeAt w1 p (.slice A d.sector.length cap) mb w1.heap.size n D cs d wr) (fun _ _ wr => wr.rangeLeft mb w1.heap.size)
    case atStart => exact HST.out
    case round =>
      obtain ⟨left, cnt, s, hrg, rb, rs, rl, rz, rT, rv⟩ := hrel
      have HLE := Lib.hid hrg.left_eq
      go_wp2_with (at_next; refine wpList_next_held wr rfl (.tmp 17) rfl 3 K Try.underlying3 mb w1.heap.size n D left cnt rfl hrg ?_ ?_)
      · intro hc0 hl0
        have y2 : wr.cell? ⟨p, 2, none⟩ = some (.map (some mb)) := by rw [← HCS.out] at rb; exact rb.cell 2
        have hmr : IMap wr mb n f := HM.out.touch rT (fun hh => by
          rcases List.mem_cons.1 hh with hh | hh
          · omega
          · exact HK1.out.2.2 (by simpa using hh))
        obtain ⟨w9, hclr, hm9, hgr9⟩ := hmr.clear Try.underlying56
        have H9 := Lib.hid (And.intro hm9 hgr9)
        clear hm9 hgr9 hmr
        go_wp2
        go_ret
        have TC := touch_mb H9.out.2
        obtain ⟨M1, M2, M3, M4⟩ := HM4.out
        have TF : Touch F1 w1 wr := ⟨rT.os, rT.tape, rT.output, rT.size, fun k hk hn => rT.block k hk (fun hh => by
          rcases List.mem_cons.1 hh with rfl | hh
          · omega
          · exact hn (M3 k (by simpa using hh)))⟩
        have TE : Touch F1 w1 w9 := TF.trans (TC.more (by intro k hk; rw [List.mem_singleton.1 hk]; exact M2)) (Grows.refl _ _)
        have hss : s = RD.synced d.row d.sector := by
          refine List.ext_getElem (by rw [rl, RD.synced_length]) (fun j h1 h2 => ?_)
          have h3 := rv j (by omega)
          rw [hl0, if_neg (by simp), ← RD.synced_at d.row j d.sector (by omega)] at h3
          simpa [List.getD_eq_getElem?_getD, h1, h2] using h3
        refine ⟨rfl, F1, ⟨.slice A d.sector.length cap, mb, 0, fun _ => none, ?_, ?_, H9.out.1, by simp, by simp, fun i h => absurd rfl h, HK1.out, by simp, by simp, ⟨M1, M2, M3, by simp⟩, fun k hk => Nat.lt_of_lt_of_le (HLT.out k hk) TE.size, ?_, by simp⟩, HG1.out.1.trans TE HG1.out.2, HG1.out.2⟩
        · rw [← HCS.out] at rb
          exact rb.touch TC (by simp; exact HK1.out.1)
        · show World.ownsRow _ 0 62 128 _ (RD.synced d.row d.sector).length _
          rw [RD.synced_length, ← hss]
          exact ownsRow_touch rs TC (fun g hg hh => HK1.out.2.2 (by rw [hg, List.mem_singleton.1 hh]))
        · show All128 (RD.synced d.row d.sector)
          rw [← hss]
          exact rz
      · intro x v w2 cnt2 hwx hlx hat hrg2 hlt2 hgr2 hsz2 hen2
        have hfv := HD1.out x v hwx hat
        obtain ⟨i, rfl, hi, hwi, ho⟩ := HR.out x v hfv
        have hvk := HK2.out i v hfv
        have hvF := HM4.out.2.2.2 i v hfv
        have hvl := ownsRow_lt ho
        obtain ⟨Av, capv, rfl⟩ := ownsRow_slice ho
        have hml := RD.writes_length_le d.row i
        have TR : Touch [w1.heap.size] wr w2 := ⟨hgr2.os, hgr2.tape, hgr2.output, hgr2.size, fun k hk hn => hgr2.block k hk (fun e => hn (by injection e with e; simp [e]))⟩
        have hrs : w1.heap.size ∉ (Value.slice A d.sector.length cap).ownBlock.toList := fun hh => by have := HLT.out _ (HM4.out.2.2.1 _ (by simpa using hh)); omega
        have T2 : Touch (w1.heap.size :: (Value.slice A d.sector.length cap).ownBlock.toList) w1 w2 := rT.trans (TR.more (by simp)) (Grows.refl _ _)
        have rb2 := rb.touch TR (by simp; omega)
        have rs2 := ownsRow_touch rs TR (fun g hg hh => hrs (by simp only [List.mem_singleton] at hh; subst hh; simpa using hg))
        have ho2 := ownsRow_touch ho T2 (fun g hg hh => by
          rcases List.mem_cons.1 hh with rfl | hh
          · have := hvl _ hg; omega
          · exact hvk.2.2 g hg (by simpa using hh))
        rcases rs2.2 with ⟨_, h0⟩ | ⟨g, _, _, hsv, _⟩
        · omega
        injection hsv with ea _ _
        subst ea
        have hpg : p ≠ g := fun e => HK1.out.2.1 (by rw [e]; rfl)
        have hmg : mb ≠ g := fun e => HK1.out.2.2 (by rw [e]; rfl)
        have hrg' : w1.heap.size ≠ g := fun e => hrs (by rw [e]; simp [Value.ownBlock])
        have hLz : All128 (RD.writes d.row i) := by
          intro s hs
          unfold RD.writes at hs
          obtain ⟨x, hx, rfl⟩ := List.mem_map.1 hs
          exact HZ2.out x (List.mem_filter.1 hx).1
        have hlk : ∀ wx : World, Touch [g] w2 wx → (Instr.lookup 56 (.map (some mb)) (.int .i64 i) false).run Try.prog wx = .ok (.slice Av (RD.writes d.row i).length capv) wx := fun wx hx => by
          have hmx : IMap wx mb n f := (HM.out.touch T2 (fun hh => by
            rcases List.mem_cons.1 hh with hh | hh
            · omega
            · exact HK1.out.2.2 (by simpa using hh))).touch hx (by simpa using hmg)
          have := hmx.lookup Try.underlying56 Try.underlying3 (zero55 wx) i
          rwa [hfv] at this
        have hrb := rb2
        rw [← HCS.out, ← rl] at hrb
        rw [← rl] at rs2 hi
        have KP := Lib.hid (dev_keep w2 p mb g cap _ _ _ _ _ s (RD.writes d.row i) i (RD.writes d.row i).length hrb rs2 rz hi hpg (hvk.2.2 g · rfl) hlk ho2 hLz (Nat.le_refl _) (by omega))
        obtain ⟨m, hm⟩ : ∃ m : Nat, (RD.writes d.row i).length = m := ⟨_, rfl⟩
        have hm0 : 0 < m := by rw [← hm]; exact List.length_pos_iff.2 hwi
        obtain ⟨y, hy⟩ : ∃ y : ByteArray, (RD.writes d.row i).getD (m - 1) ⟨#[]⟩ = y := ⟨_, rfl⟩
        have hy8 : y.size = 128 := by
          rw [← hy, List.getD_eq_getElem?_getD, List.getElem?_eq_getElem (by omega)]
          exact hLz.get (by omega)
        have HX : Hid (∀ u, RD.last d.row i u = y) := Lib.hid (fun u => by
          rw [RD.last_writes, ← hy, List.getLast_eq_getElem, List.getD_eq_getElem?_getD, List.getElem?_eq_getElem (by omega)]
          obtain ⟨q, rfl⟩ : ∃ q, m = q + 1 := ⟨m - 1, by omega⟩
          simp [hm])
        have HKE : Hid (kept s i (RD.writes d.row i) m = s.set i y) := Lib.hid (by unfold kept; rw [if_neg (by omega), hy])
        rw [hm] at KP hen2
        clear hm hy hlk ho2 hLz ho hwi hfv hat hlx hml
        simp only [HKE.out] at KP
        go_wp2_with (go_at_call 38; refine KP.out.mono ?_; rintro _ w3 ⟨rfl, hown3, hgr3⟩)
        have hrg3 := hrg2.kept hgr3 (fun e => hmg (by injection e)) (fun e => hrg' (by injection e))
        have T3 := touch_mb hgr3
        go_roundw
        case rel =>
          refine ⟨fun z => left z && !z.sameKey (.int .i64 i), cnt2, s.set i y, hrg3, rb2.touch T3 (by simpa using hpg), ?_, by simp [rl], rz.set i hy8, T2.trans (T3.more (by simp [Value.ownBlock])) (Grows.refl _ _), ?_⟩
          · rw [rl] at hown3
            exact hown3
          · intro j hj
            by_cases hji : i = j
            · subst hji
              rw [if_neg (by simp [Lit.sameKey]), HX.out]
              simp [List.getD_eq_getElem?_getD, hi]
            · have e1 : (Lit.int .i64 (j : Int)).sameKey (.int .i64 (i : Int)) = false := by simp [Lit.sameKey]; omega
              simp only [e1, Bool.not_false, Bool.and_true]
              rw [← rv j hj]
              simp [List.getD_eq_getElem?_getD, hji]
        case measure =>
          have h4 := hrg3.left_eq
          rw [HLE.out]
          exact Nat.lt_of_le_of_lt (Nat.le_of_eq h4) hlt2
end Go.Proofs.Ytbjiliodelndcaa
