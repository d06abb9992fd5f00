/-
  Contracts of the landed functions of chapter 6: Halve. Conditions: lists and texts of at most 600.
-/
import Derived.Test.YtegmffeokfahjaaNlC
import Derived.Test.YtegmffeokfahjaaRNodeF
namespace Go.Proofs.Ytegmffeokfahjaa
open Go.RowKit
namespace Node
theorem szs_pos (leaf : Bool) (l : List CV) : ∀ z ∈ szs leaf l, 1 ≤ z := by
  intro z hz
  unfold szs at hz
  rw [List.mem_map] at hz
  obtain ⟨c, _, rfl⟩ := hz
  omega
theorem best_zero (zs : List Nat) (k : Nat) (h : best zs k = 0) : k = 0 := by
  by_cases hk : k = 0
  · exact hk
  · have := (best_in zs k (by omega)).1
    omega
theorem sum_drop_succ (zs : List Nat) (k : Nat) (h : k < zs.length) : (zs.drop k).sum = zs[k] + (zs.drop (k + 1)).sum := by
  rw [List.drop_eq_getElem_cons h, List.sum_cons]
theorem sum_pos (zs : List Nat) (hp : ∀ z ∈ zs, 1 ≤ z) (h : 0 < zs.length) : 1 ≤ zs.sum := by
  cases zs with
  | nil => simp at h
  | cons z zs =>
    rw [List.sum_cons]
    have := hp z (List.mem_cons_self ..)
    omega
/-- one place more -/
theorem halve_step (zs : List Nat) (hp : ∀ z ∈ zs, 1 ≤ z) (k B X : Nat) (hk : k + 1 < zs.length) (hB : B = best zs k) (hX : X = if B = 0 then zs.sum else part zs B - 2) :
    (max (zs.take (k + 1)).sum (zs.drop (k + 1)).sum < X → best zs (k + 1) = k + 1 ∧ max (zs.take (k + 1)).sum (zs.drop (k + 1)).sum = part zs (k + 1) - 2) ∧
    (¬ max (zs.take (k + 1)).sum (zs.drop (k + 1)).sum < X → best zs (k + 1) = B ∧ B ≠ 0) := by
  have hpart : ∀ i, part zs i = 2 + max (zs.take i).sum (zs.drop i).sum := fun i => by unfold part; omega
  have hs := sum_split zs (k + 1)
  have h1 : 1 ≤ (zs.take (k + 1)).sum := sum_pos _ (fun z hz => hp z (List.mem_of_mem_take hz)) (by rw [List.length_take]; omega)
  have h2 : 1 ≤ (zs.drop (k + 1)).sum := sum_pos _ (fun z hz => hp z (List.mem_of_mem_drop hz)) (by rw [List.length_drop]; omega)
  constructor
  · intro h
    refine ⟨?_, by rw [hpart]; omega⟩
    rw [best, ← hB]
    by_cases h0 : B = 0
    · rw [if_pos (.inl h0)]
    · rw [if_neg h0] at hX
      rw [if_pos (.inr (by rw [hpart (k + 1)]; omega))]
  · intro h
    by_cases h0 : B = 0
    · rw [if_pos h0] at hX
      omega
    · rw [if_neg h0] at hX
      refine ⟨?_, h0⟩
      rw [best, ← hB, if_neg]
      rintro (h3 | h3)
      · exact h0 h3
      · rw [hpart (k + 1)] at h3
        omega
end Node
set_option maxRecDepth 100000 in
set_option maxHeartbeats 6400000 in
theorem lhalve_few (w : World) (leaf : Bool) (A : Option Addr) (cap n : Nat) (h : n < 2) : Calls Try.prog 23 #[.bool leaf, .slice A n cap] w fun e w' => e = .returned (.int .i64 0) ∧ Below w.heap.size w w' := by
  have d1 : decide ((n : Int) < 2) = true := decide_eq_true (by omega)
  go_enter Try.func23, Try.ntmps23
  go_wp2
  go_ret
  exact ⟨rfl, Below.refl _ _⟩
set_option maxRecDepth 100000 in
set_option maxHeartbeats 6400000 in
theorem lhalve_many (w : World) (leaf : Bool) (A : Option Addr) (cap : Nat) (l : List CV) (hc : CellsAt w (.slice A l.length cap) l) (hb : Bnd l) (h2 : 2 ≤ l.length) : Calls Try.prog 23 #[.bool leaf, .slice A l.length cap] w fun e w' => e = .returned (.int .i64 (Node.halveV leaf l : Nat)) ∧ Below w.heap.size w w' := by
  have d1 : decide ((l.length : Int) < 2) = false := decide_eq_false (by omega)
  have hl6 : l.length ≤ 600 := hb.1
  obtain ⟨R, hR⟩ : ∃ R : Nat, Node.halveV leaf l = R := ⟨_, rfl⟩
  rw [hR]
  have SC0 := fun w1 (h : Below w.heap.size w w1) => lsizes_ok w1 leaf _ l (hc.below h) hb
  obtain ⟨zs, hzs⟩ : ∃ zs, Node.szs leaf l = zs := ⟨_, rfl⟩
  simp only [hzs] at SC0
  have hzl : zs.length = l.length := by rw [← hzs]; unfold Node.szs; rw [List.length_map]
  have hzp : ∀ z ∈ zs, 1 ≤ z := by rw [← hzs]; exact Node.szs_pos leaf l
  have hzg : ∀ k (h : k < l.length) (h' : k < zs.length), zs[k] = 2 + Node.long leaf l[k].cl := fun k h h' => by subst hzs; exact List.getElem_map ..
  have hcap : l.length ≤ cap := by
    obtain ⟨A', cap', hv, h1, _⟩ := hc
    injection hv with _ _ e3
    omega
  have hsum : zs.sum ≤ 2 + 1302 * 600 := by
    have h0 := countV_bnd leaf l hb l.length (Nat.le_refl _)
    rw [List.take_length, Node.countV_sum, hzs] at h0
    omega
  have HR : Hid (Node.best zs (l.length - 1) = R) := Lib.hid (by rw [← hR, ← hzl, ← hzs]; rfl)
  obtain ⟨n, hn⟩ : ∃ n, l.length - 1 = n := ⟨_, rfl⟩
  have hln : l.length = n + 1 := by omega
  have s1 := fun w => cut_hi w A l.length cap n (by omega)
  have hcut := hc.cut 0 n (Nat.zero_le _) (by omega)
  have hcl : ((l.take n).drop 0).length = n := by rw [List.drop_zero, List.length_take]; omega
  have hcg : ∀ k (h : k < n) (h' : k < ((l.take n).drop 0).length) (h2 : k < l.length), ((l.take n).drop 0)[k] = l[k] := fun k h h' h2 => by simp only [List.drop_zero, List.getElem_take]
  obtain ⟨V, hV⟩ : ∃ V, sliced A 0 n cap 5 = V := ⟨_, rfl⟩
  simp only [hV] at s1 hcut
  have hform := hcut.form
  rw [hcl] at hform
  obtain ⟨A2, cap2, rfl, _, _⟩ := hform
  rw [hn] at HR
  have m0 : IntKind.i64.wrap ((l.length : Int) - 1) = n := by rw [IntWalk.i64_in _ (by omega)]; omega
  have hkl : ∀ k, k < n → k < l.length := fun k hk => by omega
  have step : Hid (∀ k (hk : k < n) wr, Below w.heap.size w wr → ∃ b off, A2 = some ⟨b, off, none⟩ ∧ b < wr.heap.size ∧ wr.cell? ⟨b, off + k * 5, none⟩ = some (.string (l[k]'(hkl k hk)).key) ∧ wr.cell? ⟨b, off + k * 5 + 1, none⟩ = some (.string (l[k]'(hkl k hk)).val) ∧ wr.cell? ⟨b, off + k * 5 + 2, none⟩ = some (.int .i64 (l[k]'(hkl k hk)).over) ∧ wr.cell? ⟨b, off + k * 5 + 3, none⟩ = some (.int .i64 (l[k]'(hkl k hk)).size) ∧ wr.cell? ⟨b, off + k * 5 + 4, none⟩ = some (.int .i64 (l[k]'(hkl k hk)).child)) := Lib.hid (fun k hk wr hbr => by
    have := (hcut.below hbr).get k (by rw [hcl]; exact hk)
    rw [hcg k hk (by rw [hcl]; exact hk) (hkl k hk)] at this
    exact this)
  have HB := Lib.hid hb
  have SC := Lib.hid SC0
  have HZP := Lib.hid hzp
  have HZG := Lib.hid hzg
  have g1 : (0 : Int) ≤ (n : Int) := by omega
  have g2 : (n : Int) ≤ (cap : Int) := by omega
  have hln1 : n + 1 ≤ l.length := by omega
  have hln2 : l.length ≤ n + 1 := by omega
  have hzl1 : zs.length ≤ l.length := by omega
  have hzl2 : l.length ≤ zs.length := by omega
  clear hc hb hR hzs hcut hzp hzg hV SC0 hcl hcg hln hn hzl
  go_enter Try.func23, Try.ntmps23
  go_wp2_with fail
  refine (SC.out _ (Below.refl _ _)).mono ?_
  rintro _ w1 ⟨rfl, hb1⟩
  have HB1 := Lib.hid hb1
  clear hb1
  go_wp2
  go_loopw [5, 6, 7, 8, 26] (fun ll rr bb xx ii wr => ∃ k B X T D : Nat, k ≤ n ∧ ll = .int .i64 T ∧ rr = .int .i64 D ∧ bb = .int .i64 B ∧ xx = .int .i64 X ∧ ii = .int .i64 k ∧ Hid (T = (zs.take k).sum) ∧ Hid (D = (zs.drop k).sum) ∧ Hid (B = Node.best zs k) ∧ Hid (X = if B = 0 then zs.sum else Node.part zs B - 2) ∧ Below w.heap.size w wr) (fun _ _ _ _ ii _ => n - (intOf ii).toNat)
  case atStart => exact ⟨0, 0, zs.sum, 0, zs.sum, by omega, rfl, rfl, rfl, rfl, rfl, Lib.hid rfl, Lib.hid rfl, Lib.hid rfl, Lib.hid rfl, HB1.out⟩
  case round =>
    obtain ⟨k, B, X, T, D, hk, rfl, rfl, rfl, rfl, rfl, HT, HD, HBs, HX, hBr⟩ := hrel
    by_cases hkl : k < n
    · have t1 : decide (k < n) = true := decide_eq_true hkl
      obtain ⟨b, off, hA, hlt, c0, c1, c2, c3, c4⟩ := step.out k hkl wr hBr
      have hs := HB.out.at_ k (by omega)
      have LC0 := fun w => lsize_ok w leaf (l[k]'(by omega)) hs.1 hs.2
      have hzk := HZG.out k (by omega) (by omega)
      have ht2 := Node.sum_take_succ zs k (by omega)
      have hd2 := Node.sum_drop_succ zs k (by omega)
      rw [hzk] at ht2 hd2
      rw [← HT.out] at ht2
      rw [← HD.out] at hd2
      have hst := Node.halve_step zs HZP.out k B X (by omega) HBs.out HX.out
      have hsp := Node.sum_split zs (k + 1)
      obtain ⟨z, hz⟩ : ∃ z, 2 + Node.long leaf (l[k]'(by omega)).cl = z := ⟨_, rfl⟩
      simp only [hz] at LC0
      rw [hz] at ht2 hd2
      obtain ⟨T2, hT2⟩ : ∃ x, (zs.take (k + 1)).sum = x := ⟨_, rfl⟩
      obtain ⟨D2, hD2⟩ : ∃ x, (zs.drop (k + 1)).sum = x := ⟨_, rfl⟩
      rw [hT2] at ht2
      rw [hD2] at hd2
      rw [hT2, hD2] at hst hsp
      obtain ⟨mx, hmx⟩ : ∃ mx, max T2 D2 = mx := ⟨_, rfl⟩
      rw [hmx] at hst
      obtain ⟨⟨key, val, over, size, child⟩, hx⟩ : ∃ x, (l[k]'(by omega)) = x := ⟨_, rfl⟩
      simp only [hx] at c0 c1 c2 c3 c4 LC0
      unfold CV.v at LC0
      simp only at LC0
      have LC := fun w => Lib.hid (LC0 w)
      have m1 : IntKind.i64.wrap ((T : Int) + (z : Int)) = (T2 : Int) := by rw [IntWalk.i64_in _ (by omega)]; omega
      have m2 : IntKind.i64.wrap ((D : Int) - (z : Int)) = (D2 : Int) := by rw [IntWalk.i64_in _ (by omega)]; omega
      have hmax : ∀ (ts : Array TypeId) (t : TypeId) w, (Builtin.max_ ts t #[.int .i64 (T2 : Int), .int .i64 (D2 : Int)]).run Try.prog w = .ok (.int .i64 (mx : Int)) w := fun ts t w => by
        rw [run_max_int2]
        congr 2
        split <;> omega
      have HST := Lib.hid hst
      have HT2 := Lib.hid hT2.symm
      have HD2 := Lib.hid hD2.symm
      have i0 : (0 : Int) ≤ (k : Int) := by omega
      have i1 : (k : Int) < (n : Int) := by omega
      have HBA : Hid (Below w.heap.size w (wr.alloc (.cells #[.string key, .string val, .int .i64 over, .int .i64 size, .int .i64 child] 35))) := Lib.hid (hBr.trans (((Below.refl _ wr).alloc (Nat.le_refl _) _).mono hBr.size))
      subst hA
      by_cases hg : mx < X
      · have p1 : decide (mx < X) = true := decide_eq_true hg
        have HN := Lib.hid (hst.1 hg)
        have m3 : IntKind.i64.wrap ((k : Int) + 1) = ((k + 1 : Nat) : Int) := by rw [IntWalk.i64_in _ (by omega)]; omega
        clear hx hz hs hst hsp ht2 hd2 hT2 hD2 hmx LC0 hzk hBr hg
        go_wp2_with fail
        refine (LC _).out.mono ?_
        rintro _ w4 ⟨rfl, hb4⟩
        go_wp2
        go_roundw
        case rel => exact ⟨k + 1, k + 1, mx, T2, D2, by omega, rfl, rfl, by rfl, rfl, by rfl, HT2, HD2, Lib.hid HN.out.1.symm, Lib.hid (by rw [if_neg (by omega)]; exact HN.out.2), HBA.out.trans (hb4.mono HBA.out.size)⟩
        case measure => simp [intOf]; omega
      · have p1 : decide (mx < X) = false := decide_eq_false hg
        have HN := Lib.hid (hst.2 hg)
        clear hx hz hs hst hsp ht2 hd2 hT2 hD2 hmx LC0 hzk hBr hg
        go_wp2_with fail
        refine (LC _).out.mono ?_
        rintro _ w4 ⟨rfl, hb4⟩
        go_wp2
        go_roundw
        case rel => exact ⟨k + 1, B, X, T2, D2, by omega, rfl, rfl, rfl, rfl, by rfl, HT2, HD2, Lib.hid HN.out.1.symm, Lib.hid HX.out, HBA.out.trans (hb4.mono HBA.out.size)⟩
        case measure => simp [intOf]; omega
    · obtain rfl : k = n := by omega
      have t1 : decide (k < k) = false := decide_eq_false (by omega)
      have HE : Hid (B = R) := Lib.hid (by rw [HBs.out, ← HR.out])
      have HBr := Lib.hid hBr
      clear hBr
      go_wp2
      go_ret
      exact ⟨by rw [← HE.out]; rfl, HBr.out⟩
theorem lhalve_ok (w : World) (leaf : Bool) (v : Value) (l : List CV) (hc : CellsAt w v l) (hb : Bnd l) : Calls Try.prog 23 #[.bool leaf, v] w fun e w' => e = .returned (.int .i64 (Node.halveV leaf l : Nat)) ∧ Below w.heap.size w w' := by
  obtain ⟨A, cap, rfl, _, _⟩ := hc.form
  by_cases h2 : 2 ≤ l.length
  · exact lhalve_many w leaf A cap l hc hb h2
  · have e : Node.halveV leaf l = 0 := by
      unfold Node.halveV Node.halve
      have hzl : (Node.szs leaf l).length = l.length := by unfold Node.szs; rw [List.length_map]
      rw [hzl, show l.length - 1 = 0 by omega]
      rfl
    rw [e]
    exact lhalve_few w leaf A cap l.length (by omega)
end Go.Proofs.Ytegmffeokfahjaa
