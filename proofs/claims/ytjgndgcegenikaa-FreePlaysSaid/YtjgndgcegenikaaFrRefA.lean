/-
  Free pages as they lie in memory; contracts of the reference (rollbookref08): Right, Less, Has, Add. Conditions: lists of at most 600.
-/
import Derived.Test.YtjgndgcegenikaaProg
import Derived.Test.YtjgndgcegenikaaFrSpec
import Derived.Test.YtjgndgcegenikaaQStep
import Derived.WalkKit
import Derived.Lib.Hide
import Derived.Deep.AppendLies
import Derived.Deep.QuietTactic
import Derived.BigQuiet
import Derived.Deep.RegionHeld3
import Derived.Deep.RegionLaw
import Derived.Deep.CutRange
import Derived.Deep.DeepCutAuto
namespace Go.Proofs.Ytjgndgcegenikaa
open Go.RowKit
theorem fr_drewN {B : Nat} {a w : World} (h : Below B a w) (n : Nat) : Below B a (w.drewN n) := ⟨h.os, h.tape, h.output, h.size, h.block⟩
/-- the slice v reads as the free pages l -/
def FreesAt (w : World) (v : Value) (l : List FP) : Prop :=
  ∃ A cap, v = .slice A l.length cap ∧ l.length ≤ cap ∧ cap ≤ 9223372036854775807 ∧ ∀ k (h : k < l.length), ∃ b off, A = some ⟨b, off, none⟩ ∧ b < w.heap.size ∧ w.cell? ⟨b, off + k * 2, none⟩ = some (.int .i64 l[k].1) ∧ w.cell? ⟨b, off + k * 2 + 1, none⟩ = some (.int .i64 l[k].2)
theorem FreesAt.below {w w' : World} {v : Value} {l : List FP} (h : FreesAt w v l) (hb : Below w.heap.size w w') : FreesAt w' v l := by
  obtain ⟨A, cap, hv, h1, h2, hc⟩ := h
  refine ⟨A, cap, hv, h1, h2, fun k hk => ?_⟩
  obtain ⟨b, off, hA, hlt, c0, c1⟩ := hc k hk
  exact ⟨b, off, hA, Nat.lt_of_lt_of_le hlt hb.size, (hb.cell (p := ⟨b, off + k * 2, none⟩) hlt).trans c0, (hb.cell (p := ⟨b, off + k * 2 + 1, none⟩) hlt).trans c1⟩
theorem FreesAt.get {w : World} {A : Option Addr} {n cap : Nat} {l : List FP} (h : FreesAt w (.slice A n cap) l) (k : Nat) (hk : k < l.length) : ∃ b off, A = some ⟨b, off, none⟩ ∧ b < w.heap.size ∧ w.cell? ⟨b, off + k * 2, none⟩ = some (.int .i64 l[k].1) ∧ w.cell? ⟨b, off + k * 2 + 1, none⟩ = some (.int .i64 l[k].2) := by
  obtain ⟨A', cap', hv, _, _, hc⟩ := h
  injection hv with e1
  subst e1
  exact hc k hk
theorem FreesAt.form {w : World} {v : Value} {l : List FP} (h : FreesAt w v l) : ∃ A cap, v = .slice A l.length cap ∧ l.length ≤ cap ∧ cap ≤ 9223372036854775807 := by
  obtain ⟨A, cap, hv, h1, h2, _⟩ := h
  exact ⟨A, cap, hv, h1, h2⟩
def fcells (f : FP) : List Value := [.int .i64 f.1, .int .i64 f.2]
def fvs (l : List FP) : List Value := l.flatMap fcells
theorem fvs_length (L : List FP) : (fvs L).length = 2 * L.length := by
  induction L with
  | nil => rfl
  | cons c L ih => unfold fvs at ih ⊢; rw [List.flatMap_cons, List.length_append, ih, List.length_cons]; show 2 + _ = _; omega
theorem fvs_snoc (L : List FP) (f : FP) : fvs (L ++ [f]) = fvs L ++ fcells f := by unfold fvs; rw [List.flatMap_append]; simp
theorem fvs_get (L : List FP) (k : Nat) (h : k < L.length) (i : Nat) (hi : i < 2) : (fvs L)[k * 2 + i]? = (fcells L[k])[i]? := by
  induction L generalizing k with
  | nil => simp at h
  | cons c L ih =>
    unfold fvs at ih ⊢
    rw [List.flatMap_cons]
    have hc : (fcells c).length = 2 := rfl
    cases k with
    | zero => rw [List.getElem?_append_left (by omega)]; simp
    | succ k =>
      rw [List.getElem?_append_right (by omega), hc, show (k + 1) * 2 + i - 2 = k * 2 + i by omega, ih k (by simpa using h)]
      simp
/-- the slice v of the call's own reads as the free pages L -/
def OwnF (w : World) (base : Nat) (v : Value) (L : List FP) : Prop := w.ownsRow base 31 2 v L.length (fvs L)
theorem OwnF.kept {w w' : World} {base : Nat} {v : Value} {L : List FP} (h : OwnF w base v L) (hb : Below w.heap.size w w') : OwnF w' base v L :=
  World.ownsRow.kept (row := none) h ⟨hb.os, hb.tape, hb.output, hb.size, fun k hk _ => hb.block k hk⟩ (by cases v.ownBlock <;> simp)
theorem OwnF.cells {w : World} {base : Nat} {v : Value} {L : List FP} (h : OwnF w base v L) (hl : L.length ≤ 65536) : FreesAt w v L := by
  rcases h.2 with ⟨rfl, h0⟩ | ⟨g, cap, cur, rfl, hcap, hg, _, hcs, hcb, ht⟩
  · obtain rfl := List.eq_nil_of_length_eq_zero h0
    exact ⟨none, 0, rfl, by simp, by omega, fun k hk => by simp at hk⟩
  · have key : ∀ k (hk : k < L.length) i, i < 2 → w.cell? ⟨g, k * 2 + i, none⟩ = (fcells L[k])[i]? := fun k hk i hi => by
      rw [cell_of_row w g (k * 2 + i) cur 31 (0, 0) hg]
      have h1 := fvs_get L k hk i hi
      rw [← ht, List.getElem?_take, if_pos (by omega)] at h1
      rw [← h1]
      simp
    refine ⟨some ⟨g, 0, none⟩, cap, rfl, by omega, by simp only [maxLen] at *; omega, fun k hk => ⟨g, 0, rfl, (Array.getElem?_eq_some_iff.1 hg).1, ?_, ?_⟩⟩
    · rw [Nat.zero_add]; exact key k hk 0 (by omega)
    · rw [Nat.zero_add]; exact key k hk 1 (by omega)
theorem freeInfo : (Try.prog.info? 31).map (fun i => (i.zero, i.size, i.bytes)) = some (some (.agg #[.int .i64 0, .int .i64 0]), 2, 16) := by kernel_rfl
theorem undF : Try.prog.underlying 27 = some (.slice 31) := by kernel_rfl
theorem wpList_append_free {P : Program} (w : World) {ops : Array Oper} {rest : List Oper} {o : Oper} {a : Act} {Q : Exit → Act → World → Prop} (hgd : o.guard = none) (s x : Operand) (t : TypeId)
    (ho : o.op = .call { callee := .builtin .append, args := #[s, x], argTypes := #[t, t] })
    (base : Nat) (ht : P.underlying t = some (.slice 31)) (hi : (P.info? 31).map (fun i => (i.zero, i.size, i.bytes)) = some (some (.agg #[.int .i64 0, .int .i64 0]), 2, 16))
    (v : Value) (L : List FP) (hs : a.eval s = v) (hown : OwnF w base v L) (y : FP) (hx : a.eval x = .slice (some ⟨w.heap.size, 0, none⟩) 1 1)
    (hlen : L.length + 1 ≤ 4294967296) (hbase : base ≤ w.heap.size)
    (h : ∀ v' w', OwnF w' base v' (L ++ [y]) → Below base w w' → wpList P ops Q rest (a.put o.dst v') w') : wpList P ops Q (o :: rest) a (w.alloc (.cells #[.int .i64 y.1, .int .i64 y.2] 31)) := by
  obtain ⟨i, hi, hz, hsize, hby⟩ := info_parts hi
  refine wpList_append_own (w := w.alloc (.cells #[.int .i64 y.1, .int .i64 y.2] 31)) hgd s x t ho base 31 i _ 2 16 ht hi hz hsize hby rfl (by omega) v L.length (fvs L) hs (World.ownsRow.alloc hown _) ⟨w.heap.size, 0, none⟩ 1 1 (fcells y) hx rfl ?_ ?_ (by simp only [maxLen]; omega) (by omega) (by simp; omega) ?_
  · intro j u hu
    have hadd : (⟨w.heap.size, 0, none⟩ : Addr).add j = ⟨w.heap.size, j, none⟩ := by unfold Addr.add; split <;> simp_all
    rw [hadd, World.cell?_alloc_mark]
    have e : (#[.int .i64 y.1, .int .i64 y.2] : Array Value)[j]? = (fcells y)[j]? := by simp [fcells]
    rw [e]
    exact hu
  · intro u hu
    unfold fcells at hu
    simp only [List.mem_cons, List.not_mem_nil, or_false] at hu
    rcases hu with rfl | rfl <;> rfl
  · intro v' w' h1 h2 _
    refine h v' w' ?_ ?_
    · unfold OwnF
      rw [fvs_snoc, List.length_append]
      exact h1
    · exact (((Below.refl base w).alloc hbase _).grown h2 (by simp; omega) (fun k hk => (World.ownsRow.lt hown k hk).1))
def fv (f : FP) : Value := .agg #[.int .i64 f.1, .int .i64 f.2]
set_option maxRecDepth 100000 in
set_option maxHeartbeats 1600000 in
theorem frright_ok (w : World) (f : FP) : Calls Try.prog 29 #[fv f] w fun e w' => e = .returned (.bool (Fr.right f)) ∧ Below w.heap.size w w' := by
  obtain ⟨t, p⟩ := f
  unfold fv Fr.right
  simp only
  have hbl : Below w.heap.size w (w.alloc (.cells #[.int .i64 t, .int .i64 p] 31)) := (Below.refl _ w).alloc (Nat.le_refl _) _
  obtain ⟨a, ha⟩ : ∃ a, decide ((0 : Int) ≤ t) = a := ⟨_, rfl⟩
  obtain ⟨b, hb⟩ : ∃ a, decide (t ≤ (1099511627776 : Int)) = a := ⟨_, rfl⟩
  obtain ⟨c, hc⟩ : ∃ a, decide ((1 : Int) ≤ p) = a := ⟨_, rfl⟩
  obtain ⟨d, hd⟩ : ∃ a, decide (p ≤ (511 : Int)) = a := ⟨_, rfl⟩
  rw [ha, hb, hc, hd]
  cases a
  case false =>
    go_enter Try.func29, Try.ntmps29
    go_wp2
    go_ret
    exact ⟨rfl, hbl⟩
  case true =>
    cases b
    case false =>
      go_enter Try.func29, Try.ntmps29
      go_wp2
      go_ret
      exact ⟨rfl, hbl⟩
    case true =>
      cases c
      case false =>
        go_enter Try.func29, Try.ntmps29
        go_wp2
        go_ret
        exact ⟨rfl, hbl⟩
      case true =>
        cases d
        case false =>
          go_enter Try.func29, Try.ntmps29
          go_wp2
          go_ret
          exact ⟨rfl, hbl⟩
        case true =>
          go_enter Try.func29, Try.ntmps29
          go_wp2
          go_ret
          exact ⟨rfl, hbl⟩
set_option maxRecDepth 100000 in
set_option maxHeartbeats 1600000 in
theorem frless_ok (w : World) (f g : FP) : Calls Try.prog 31 #[fv f, fv g] w fun e w' => e = .returned (.bool (Fr.less f g)) ∧ Below w.heap.size w w' := by
  obtain ⟨t, p⟩ := f
  obtain ⟨u, q⟩ := g
  unfold fv Fr.less
  simp only
  have hbl : Below w.heap.size w ((w.alloc (.cells #[.int .i64 t, .int .i64 p] 31)).alloc (.cells #[.int .i64 u, .int .i64 q] 31)) := ((Below.refl _ w).alloc (Nat.le_refl _) _).alloc (by simp) _
  obtain ⟨a, ha⟩ : ∃ a, decide (t < u) = a := ⟨_, rfl⟩
  obtain ⟨b, hb⟩ : ∃ a, (t == u) = a := ⟨_, rfl⟩
  obtain ⟨c, hc⟩ : ∃ a, decide (p < q) = a := ⟨_, rfl⟩
  have hb2 : decide (t = u) = b := by rw [← hb]; rfl
  rw [ha, hb2, hc]
  clear hb2
  cases a
  case true =>
    go_enter Try.func31, Try.ntmps31
    go_wp2
    go_ret
    exact ⟨rfl, hbl⟩
  case false =>
    cases b
    case false =>
      go_enter Try.func31, Try.ntmps31
      go_wp2
      go_ret
      exact ⟨rfl, hbl⟩
    case true =>
      cases c
      case false =>
        go_enter Try.func31, Try.ntmps31
        go_wp2
        go_ret
        exact ⟨rfl, hbl⟩
      case true =>
        go_enter Try.func31, Try.ntmps31
        go_wp2
        go_ret
        exact ⟨rfl, hbl⟩
/-- the reference's list l lies at p; F: its blocks -/
def FRefAt (w : World) (p : Nat) (l : List FP) (F : List Nat) : Prop :=
  ∃ vr, Blk w p #[vr] 29 ∧ OwnF w 0 vr l ∧ F = p :: vr.ownBlock.toList ∧ F.Nodup
theorem FRefAt.lt {w : World} {p : Nat} {l : List FP} {F : List Nat} (h : FRefAt w p l F) : ∀ k ∈ F, k < w.heap.size := by
  obtain ⟨vr, hb, hr, rfl, _⟩ := h
  intro k hk
  rcases List.mem_cons.1 hk with rfl | hk
  · exact hb.lt
  · exact ownsRow_lt hr k (by simpa using hk)
theorem FRefAt.touch {w w' : World} {p : Nat} {l : List FP} {F S : List Nat} (h : FRefAt w p l F) (hT : Touch S w w') (hS : ∀ k ∈ S, k ∉ F) : FRefAt w' p l F := by
  obtain ⟨vr, hb, hr, rfl, hN⟩ := h
  exact ⟨vr, hb.touch hT (fun hk => hS _ hk (by simp)), ownsRow_touch hr hT (fun k hk hm => hS k hm (by simp [hk])), rfl, hN⟩
/-- what a call on a list leaves -/
def FrDid (At : World → Nat → List FP → List Nat → Prop) (w : World) (p : Nat) (F : List Nat) (l : List FP) (e0 : Ending) (e : Ending) (w' : World) : Prop :=
  e = e0 ∧ ∃ F', At w' p l F' ∧ Touch F w w' ∧ Grows F F' w.heap.size
theorem FRefAt.head {w : World} {p : Nat} {l : List FP} {F : List Nat} (h : FRefAt w p l F) (hl : l.length ≤ 600) : ∃ A cap, w.cell? ⟨p, 0, none⟩ = some (.slice A l.length cap) ∧ FreesAt w (.slice A l.length cap) l ∧ p < w.heap.size := by
  obtain ⟨vr, hb, hr, _, _⟩ := h
  have hf := OwnF.cells hr (by omega)
  obtain ⟨A, cap, rfl, _, _⟩ := hf.form
  exact ⟨A, cap, hb.cell 0, hf, hb.lt⟩
set_option maxRecDepth 100000 in
set_option maxHeartbeats 1600000 in
theorem frhas_ok (w : World) (p : Nat) (l : List FP) (F : List Nat) (n : Int) (hl : l.length ≤ 600) (hA : FRefAt w p l F) : Calls Try.prog 17 #[.pointer (some ⟨p, 0, none⟩), .int .i64 n] w fun e w' => e = .returned (.bool (Fr.has l n)) ∧ w = w' := by
  obtain ⟨A, cap, cp, hf, hpl⟩ := hA.head hl
  have HF := Lib.hid hf
  obtain ⟨R, hR⟩ : ∃ R, Fr.has l n = R := ⟨_, rfl⟩
  have HR := Lib.hid hR
  rw [hR]
  clear hA hf hR
  go_enter Try.func17, Try.ntmps17
  go_wp2
  go_loop [5] (fun ii => ∃ k : Nat, k ≤ l.length ∧ ii = .int .i64 k ∧ Hid (∀ j (hj : j < l.length), j < k → l[j].2 ≠ n)) (fun ii => l.length - (intOf ii).toNat)
  case atStart => exact ⟨0, by omega, rfl, Lib.hid (fun j _ hj => by omega)⟩
  case round =>
    obtain ⟨k, hk, rfl, HB⟩ := hrel
    by_cases hkl : k < l.length
    · have t1 : decide (k < l.length) = true := decide_eq_true hkl
      obtain ⟨b, off, hA, hbl, c0, c1⟩ := HF.out.get k hkl
      have i0 : (0 : Int) ≤ (k : Int) := by omega
      have i1 : (k : Int) < (l.length : Int) := by omega
      obtain ⟨x, hx⟩ : ∃ x, l[k].2 = x := ⟨_, rfl⟩
      rw [hx] at c1
      subst hA
      by_cases hxn : x = n
      · have d1 : (x == n) = true := by rw [beq_iff_eq]; exact hxn
        have HRR : Hid (R = true) := Lib.hid (by rw [← HR.out, Fr.has_iff]; exact ⟨l[k], List.getElem_mem hkl, by rw [hx]; exact hxn⟩)
        clear hx hxn c0
        go_wp2
        go_ret
        exact ⟨by rw [HRR.out]; rfl, rfl⟩
      · have d1 : (x == n) = false := by rw [beq_eq_false_iff_ne]; exact hxn
        have HB2 : Hid (∀ j (hj : j < l.length), j < k + 1 → l[j].2 ≠ n) := Lib.hid (fun j hj hjk => by
          by_cases e : j = k
          · subst e; rw [hx]; exact hxn
          · exact HB.out j hj (by omega))
        clear hx hxn c0
        go_wp2
        go_round
        case rel => exact ⟨k + 1, by omega, by go_num, HB2⟩
        case measure => simp [intOf]; omega
    · obtain rfl : k = l.length := by omega
      have t1 : decide (l.length < l.length) = false := decide_eq_false (by omega)
      have HRR : Hid (R = false) := Lib.hid (by
        rw [← HR.out, Fr.has_not]
        intro f hf
        obtain ⟨j, hj, rfl⟩ := List.getElem_of_mem hf
        exact HB.out j hj hj)
      go_wp2
      go_ret
      exact ⟨by rw [HRR.out]; rfl, rfl⟩
end Go.Proofs.Ytjgndgcegenikaa
