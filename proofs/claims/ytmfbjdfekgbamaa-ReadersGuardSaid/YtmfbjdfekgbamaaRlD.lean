/-
  The landed table of readers: Live, by the library's contract of slices.Sort; Clear, Oldest; of nil too; the kit. Conditions: the table has four slots, each free or a transaction's.
-/
import Derived.Test.YtmfbjdfekgbamaaRlC
import Derived.Test.YtmfbjdfekgbamaaSorts
import Derived.Sort.OwnSortedInts
import Derived.Deep.RegionLaw
namespace Go.Proofs.Ytmfbjdfekgbamaa
open Go.RowKit Go.Sort Go.Shelf
theorem intInfo : (Try.prog.info? 3).map (fun i => (i.zero, i.size, i.bytes)) = some (some (.int .i64 0), 1, 8) := by kernel_rfl
theorem undI : Try.prog.underlying 38 = some (.slice 3) := by kernel_rfl
def iv (L : List Int) : List Value := L.map (Value.int .i64)
/-- the slice v of the call's own reads as the numbers L -/
def OwnI (w : World) (base : Nat) (v : Value) (L : List Int) : Prop := w.ownsRow base 3 1 v L.length (iv L)
theorem OwnI.kept {w w' : World} {base : Nat} {v : Value} {L : List Int} (h : OwnI w base v L) (hb : Below w.heap.size w w') : OwnI w' base v L :=
  World.ownsRow.kept (row := none) h ⟨hb.os, hb.tape, hb.output, hb.size, fun k hk _ => hb.block k hk⟩ (by cases v.ownBlock <;> simp)
theorem OwnI.form {w : World} {base : Nat} {v : Value} {L : List Int} (h : OwnI w base v L) : ∃ A cap, v = .slice A L.length cap := by
  rcases h.2 with ⟨rfl, h0⟩ | ⟨g, cap, _, rfl, _⟩
  · rw [h0]; exact ⟨_, _, rfl⟩
  · exact ⟨_, _, rfl⟩
theorem OwnI.ints {w : World} {base : Nat} {v : Value} {L : List Int} (h : OwnI w base v L) : IntsAt w v L := by
  rcases h.2 with ⟨rfl, h0⟩ | ⟨g, cap, cur, rfl, hcap, hg, _, _, _, ht⟩
  · obtain rfl := List.eq_nil_of_length_eq_zero h0
    exact ⟨none, 0, rfl, fun k hk => by simp at hk⟩
  · refine ⟨some ⟨g, 0, none⟩, cap, rfl, fun k hk => ⟨g, 0, rfl, (Array.getElem?_eq_some_iff.1 hg).1, ?_⟩⟩
    rw [Nat.zero_add, cell_of_row w g k cur 3 (0, 0) hg]
    have h1 : (iv L)[k]? = some (.int .i64 L[k]) := by simp [iv, hk]
    rw [← ht, List.getElem?_take] at h1
    split at h1
    · simpa using h1
    · cases h1
theorem wpList_append_int {P : Program} (w : World) {ops : Array Oper} {rest : List Oper} {o : Oper} {a : Act} {Q : Exit → Act → World → Prop} (hgd : o.guard = none) (s x : Operand) (t : TypeId)
    (ho : o.op = .call { callee := .builtin .append, args := #[s, x], argTypes := #[t, t] })
    (base : Nat) (ht : P.underlying t = some (.slice 3)) (hi : (P.info? 3).map (fun i => (i.zero, i.size, i.bytes)) = some (some (.int .i64 0), 1, 8))
    (v : Value) (L : List Int) (hs : a.eval s = v) (hown : OwnI w base v L) (y : Int) (hx : a.eval x = .slice (some ⟨w.heap.size, 0, none⟩) 1 1)
    (hlen : L.length + 1 ≤ 4294967296) (hbase : base ≤ w.heap.size)
    (h : ∀ v' w', OwnI w' base v' (L ++ [y]) → Below base w w' → wpList P ops Q rest (a.put o.dst v') w') : wpList P ops Q (o :: rest) a (w.alloc (.cells #[.int .i64 y] 3)) := by
  obtain ⟨i, hi, hz, hsize, hby⟩ := info_parts hi
  refine wpList_append_own (w := w.alloc (.cells #[.int .i64 y] 3)) hgd s x t ho base 3 i (.int .i64 0) 1 8 ht hi hz hsize hby rfl (by omega) v L.length (iv L) hs (World.ownsRow.alloc hown _) ⟨w.heap.size, 0, none⟩ 1 1 [.int .i64 y] hx rfl ?_ ?_ (by simp only [maxLen]; omega) (by omega) (by simp; omega) ?_
  · intro j u hu
    have hadd : (⟨w.heap.size, 0, none⟩ : Addr).add j = ⟨w.heap.size, j, none⟩ := by unfold Addr.add; split <;> simp_all
    rw [hadd, World.cell?_alloc_mark]
    cases j with
    | zero => simpa using hu
    | succ j => simp at hu
  · intro u hu
    simp only [List.mem_singleton] at hu
    subst hu
    rfl
  · intro v' w' h1 h2 _
    refine h v' w' ?_ ?_
    · have e : iv (L ++ [y]) = iv L ++ [.int .i64 y] := by simp [iv]
      unfold OwnI
      rw [e, List.length_append]
      exact h1
    · exact (((Below.refl base w).alloc hbase _).grown h2 (by simp; omega) (fun k hk => (World.ownsRow.lt hown k hk).1))
/-- the library's slices.Sort over a slice of the call's own -/
theorem rlsort_ok (w : World) (base : Nat) (v : Value) (L : List Int) (hown : OwnI w base v L) (hlen : L.length ≤ 1000) (hbase : base ≤ w.heap.size) : Calls Try.prog 22 #[v] w fun e w' => e = .returned (.tuple #[]) ∧ OwnI w' base v (L.mergeSort fun x y => decide (x ≤ y)) ∧ Below base w w' := by
  rcases hown.2 with ⟨rfl, h0⟩ | ⟨g, cap, cur, rfl, hg0, hg, h1, h2, h3, ht⟩
  · have hS := AnyM.slices_Sort_int_none Try.sortA none 0 w
    refine Calls.mono hS ?_
    rintro _ _ ⟨rfl, rfl⟩
    obtain rfl := List.eq_nil_of_length_eq_zero h0
    exact ⟨rfl, by simpa using hown, Below.refl _ _⟩
  · have ht' : cur.toList.take L.length = iv L := by rw [Nat.mul_one] at ht; exact ht
    have hS := AnyM.slices_Sort_int Try.sortA g 0 cap L w (holds_of_blockI hg ht') (Array.getElem?_eq_some_iff.1 hg).1 (by omega)
    refine Calls.mono hS ?_
    rintro _ w' ⟨rfl, n, os, rfl⟩
    have hl : (L.mergeSort fun x y => decide (x ≤ y)).length = L.length := by simp
    have ho := ownsRow_sortedI (n := n) (os := os) hl hg0 hg h1 h2 h3
    refine ⟨rfl, ?_, ((Below.refl base w).grown (grownBy_sortedI _) hbase (fun k hk => by injection hk with hk; subst hk; exact hg0))⟩
    unfold OwnI
    rw [hl]
    exact ho
namespace Rd
def on (x : Int) : Bool := decide (0 ≤ x)
def sorted (L : List Int) : List Int := L.mergeSort fun x y => decide (x ≤ y)
theorem live_sorted (l : List Int) : Live l (sorted (l.filter on)) :=
  ⟨List.mergeSort_perm _ _, (List.pairwise_mergeSort (le := fun x y => decide (x ≤ y)) (fun a b c h1 h2 => decide_eq_true (by have := of_decide_eq_true h1; have := of_decide_eq_true h2; omega)) (fun a b => by rw [Bool.or_eq_true, decide_eq_true_eq, decide_eq_true_eq]; omega) _).imp (fun h => of_decide_eq_true h)⟩
theorem take_on (l : List Int) (k : Nat) (hk : k < l.length) : (l.take (k + 1)).filter on = (l.take k).filter on ++ (if on l[k] then [l[k]] else []) := by
  rw [List.take_succ_eq_append_getElem hk, List.filter_append, List.filter_cons]
  rfl
theorem oldest_filter (l : List Int) (now : Int) : oldest l now = (l.filter on).foldl min now := by
  unfold oldest
  induction l generalizing now with
  | nil => rfl
  | cons x l ih =>
    rw [List.foldl_cons, List.filter_cons]
    unfold on step
    by_cases h : 0 ≤ x
    · rw [if_pos h, if_pos (decide_eq_true h), List.foldl_cons]; exact ih _
    · rw [if_neg h, if_neg (by simpa using h)]; exact ih _
theorem Live.oldest {l L : List Int} (h : Live l L) (now : Int) : Rd.oldest l now = L.foldl min now := by
  rw [oldest_filter]
  exact (h.perm.foldl_eq' (fun x _ y _ z => by omega) now).symm
theorem fold_take (L : List Int) (now : Int) (k : Nat) (hk : k < L.length) : (L.take (k + 1)).foldl min now = min ((L.take k).foldl min now) L[k] := by
  rw [List.take_succ_eq_append_getElem hk, List.foldl_append]
  rfl
end Rd
set_option maxRecDepth 100000 in
set_option maxHeartbeats 1600000 in
theorem rlnillive_ok (w : World) : Calls Try.prog 19 #[.pointer none] w fun e w' => ∃ A cap, e = .returned (.slice A 0 cap) ∧ Below w.heap.size w w' := by
  go_enter Try.func19, Try.ntmps19
  go_wp2
  go_ret
  exact ⟨none, 0, rfl, Below.refl _ _⟩
set_option maxRecDepth 100000 in
set_option maxHeartbeats 1600000 in
theorem rllive_ok (w : World) (p : Nat) (l : List Int) (F : List Nat) (hok : Rd.Ok l) (hA : RLAt w p l F) : Calls Try.prog 19 #[.pointer (some ⟨p, 0, none⟩)] w fun e w' => ∃ V L, e = .returned V ∧ IntsAt w' V L ∧ Rd.Live l L ∧ Below w.heap.size w w' := by
  have HL := Lib.hid hok.1
  obtain ⟨a, b, c, d, rfl, hp, rfl⟩ := hA
  obtain ⟨l, hl⟩ : ∃ l, [a, b, c, d] = l := ⟨_, rfl⟩
  have HIX : Hid (∀ (k : Nat) (hk : k < l.length) (w : World), (Instr.index 45 (tabV a b c d) (.int .i64 (k : Nat))).run Try.prog w = .ok (.agg #[.bool (Rd.hd l[k]), .int .i64 (Rd.tx l[k])]) w) := Lib.hid (fun k hk w => by
    subst hl
    rw [← tab_at a b c d k hk]
    exact tab_index a b c d k hk w)
  have c0 := hp.cell 0
  have c1 := hp.cell 1
  have c2 := hp.cell 2
  have c3 := hp.cell 3
  have c4 := hp.cell 4
  have c5 := hp.cell 5
  have c6 := hp.cell 6
  have c7 := hp.cell 7
  unfold tabCells at c0 c1 c2 c3 c4 c5 c6 c7
  simp only [List.getElem?_toArray, List.getElem?_cons_zero, List.getElem?_cons_succ] at c0 c1 c2 c3 c4 c5 c6 c7
  rw [hl] at HL ⊢
  have hpl := hp.lt
  unfold tabV tabCells at HIX
  clear hok hp hl
  obtain ⟨a0, ha0⟩ : ∃ x, Rd.hd a = x := ⟨_, rfl⟩
  obtain ⟨b0, hb0⟩ : ∃ x, Rd.hd b = x := ⟨_, rfl⟩
  obtain ⟨e0, he0⟩ : ∃ x, Rd.hd c = x := ⟨_, rfl⟩
  obtain ⟨g0, hg0⟩ : ∃ x, Rd.hd d = x := ⟨_, rfl⟩
  obtain ⟨a1, ha1⟩ : ∃ x, Rd.tx a = x := ⟨_, rfl⟩
  obtain ⟨b1, hb1⟩ : ∃ x, Rd.tx b = x := ⟨_, rfl⟩
  obtain ⟨e1, he1⟩ : ∃ x, Rd.tx c = x := ⟨_, rfl⟩
  obtain ⟨g1, hg1⟩ : ∃ x, Rd.tx d = x := ⟨_, rfl⟩
  rw [ha0, hb0, he0, hg0, ha1, hb1, he1, hg1] at HIX
  rw [ha0] at c0
  rw [ha1] at c1
  rw [hb0] at c2
  rw [hb1] at c3
  rw [he0] at c4
  rw [he1] at c5
  rw [hg0] at c6
  rw [hg1] at c7
  clear ha0 hb0 he0 hg0 ha1 hb1 he1 hg1
  go_enter Try.func19, Try.ntmps19
  go_wp2
  go_loopw [3, 12] (fun vv ii wr => ∃ (k : Nat) (L : List Int), k ≤ 4 ∧ ii = .int .i64 k ∧ OwnI wr w.heap.size vv L ∧ L.length ≤ k ∧ Hid (L = (l.take k).filter Rd.on) ∧ Below w.heap.size w wr) (fun _ ii _ => 4 - (intOf ii).toNat)
  case atStart => exact ⟨0, [], by omega, rfl, ⟨rfl, .inl ⟨rfl, rfl⟩⟩, by simp, Lib.hid rfl, Below.refl _ _⟩
  case round =>
    obtain ⟨k, L, hk, rfl, hown, hLk, HE, hbw⟩ := hrel
    clear c0 c1 c2 c3 c4 c5 c6 c7
    by_cases hk4 : k < 4
    · have t1 : decide ((k : Int) < 4) = true := decide_eq_true (by omega)
      have hkl : k < l.length := by rw [HL.out]; exact hk4
      have ix := HIX.out k hkl
      have i0 : (0 : Int) ≤ (k : Int) := by omega
      have i1 : (k : Int) < 4 := by omega
      have hst := Rd.take_on l k hkl
      obtain ⟨x, hx⟩ : ∃ x, l[k] = x := ⟨_, rfl⟩
      rw [hx] at ix hst
      by_cases hx0 : 0 ≤ x
      · have hd0 : Rd.hd x = true := decide_eq_true hx0
        have ht0 : Rd.tx x = x := if_pos hx0
        have hon : Rd.on x = true := decide_eq_true hx0
        rw [hd0, ht0] at ix
        rw [hon, ← HE.out] at hst
        have HS : Hid (L ++ [x] = (l.take (k + 1)).filter Rd.on) := Lib.hid hst.symm
        have hbn : Below w.heap.size w (wr.alloc (.cells #[.bool true, .int .i64 x] 44)) := hbw.alloc hbw.size _
        have hownn : OwnI (wr.alloc (.cells #[.bool true, .int .i64 x] 44)) w.heap.size u3 L := hown.kept ((Below.refl _ wr).alloc (Nat.le_refl _) _)
        have hlen : L.length + 1 ≤ 4294967296 := by omega
        have HZ : Hid (Value.slice (some ⟨wr.heap.size + 1, 0, none⟩) 1 1 = Value.slice (some ⟨(wr.alloc (.cells #[.bool true, .int .i64 x] 44)).heap.size, 0, none⟩) 1 1) := Lib.hid (by simp)
        have hge := hbn.size
        clear hx hx0 hkl HIX hd0 ht0 hon hst
        go_wp2_with (at_builtin; refine wpList_append_int _ rfl (.tmp 17) (.tmp 20) 38 rfl _ undI intInfo _ _ rfl hownn _ HZ.out hlen hge ?_; intro V4 w4 hown4 hbel4)
        go_roundw
        case rel => exact ⟨k + 1, L ++ [x], by omega, by go_num, hown4, by rw [List.length_append, List.length_singleton]; omega, HS, hbn.trans hbel4⟩
        case measure => simp [intOf]; omega
      · have hd0 : Rd.hd x = false := decide_eq_false hx0
        have hon : Rd.on x = false := decide_eq_false hx0
        rw [hd0] at ix
        obtain ⟨t, ht⟩ : ∃ t, Rd.tx x = t := ⟨_, rfl⟩
        rw [ht] at ix
        rw [hon, ← HE.out] at hst
        have HS : Hid (L = (l.take (k + 1)).filter Rd.on) := Lib.hid (by rw [hst]; simp)
        clear hx hx0 hkl HIX hd0 hon hst ht
        go_wp2
        go_roundw
        case rel => exact ⟨k + 1, L, by omega, by go_num, hown.kept ((Below.refl _ wr).alloc (Nat.le_refl _) _), by omega, HS, hbw.alloc hbw.size _⟩
        case measure => simp [intOf]; omega
    · have t1 : decide ((k : Int) < 4) = false := decide_eq_false (by omega)
      have HS : Hid (L = l.filter Rd.on) := Lib.hid (by rw [HE.out, List.take_of_length_le (by rw [HL.out]; omega)])
      have hlen : L.length ≤ 1000 := by omega
      clear HIX
      go_wp2_with fail
      refine (rlsort_ok wr w.heap.size _ L hown hlen hbw.size).mono ?_
      rintro _ w2 ⟨rfl, hown2, hb2⟩
      go_wp2
      go_ret
      refine ⟨_, _, rfl, hown2.ints, ?_, hbw.trans hb2⟩
      rw [HS.out]
      exact Rd.live_sorted l
end Go.Proofs.Ytmfbjdfekgbamaa
