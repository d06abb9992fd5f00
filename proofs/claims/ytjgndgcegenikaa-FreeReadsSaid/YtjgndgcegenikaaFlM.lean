/-
  The landed pieces of free pages: Encode. Conditions: those typed.
-/
import Derived.Test.YtjgndgcegenikaaFlL
namespace Go.Proofs.Ytjgndgcegenikaa
open Go.RowKit
namespace Fr
/-- what is laid of a piece with its first k pages -/
def part (next : Int) (l : List FP) (k : Nat) : List UInt8 := beB next.toNat 4 0 ++ (beB l.length 2 0 ++ (l.take k).flatMap item)
theorem part_all (next : Int) (l : List FP) : part next l l.length = bytes next l := by unfold part bytes; rw [List.take_length]
theorem part_next (next : Int) (l : List FP) (k : Nat) (h : k < l.length) : part next l (k + 1) = part next l k ++ beB l[k].1.toNat 8 0 ++ beB l[k].2.toNat 4 0 := by
  unfold part
  rw [bytes_snoc l k h]
  unfold item
  simp only [List.append_assoc]
theorem part_zero (next : Int) (l : List FP) : part next l 0 = beB next.toNat 4 0 ++ beB l.length 2 0 := by unfold part; simp
theorem part_length (next : Int) (l : List FP) (k : Nat) : (part next l k).length ≤ 6 + 12 * k := by
  unfold part
  rw [List.length_append, List.length_append, beB_length, beB_length, items_length, List.length_take]
  omega
end Fr
theorem lay_ba (l m : List UInt8) : (⟨((ba l).data.toList ++ m).toArray⟩ : ByteArray) = ba (l ++ m) := by unfold ba; simp
set_option maxRecDepth 100000 in
set_option maxHeartbeats 3200000 in
theorem flenc_ok (w : World) (next : Int) (v : Value) (l : List FP) (hv : FreesAt w v l) (hl : l.length ≤ 600) : Calls Try.prog 22 #[.int .i64 next, v] w fun e w' => e = .returned (.tuple #[.string (Fr.encS next l), .int .i64 (Fr.encE next l)]) ∧ Below w.heap.size w w' := by
  obtain ⟨A, cap, rfl, hcap, hcap2⟩ := hv.form
  have CR := Lib.hid (flright2_ok w next A cap l hv (by omega))
  have HI := Lib.hid hv
  have hz : ∀ w, (zeroValue 31).run Try.prog w = .ok (.agg #[.int .i64 0, .int .i64 0]) w := fun w => by kernel_rfl
  cases hok : Fr.okP next l with
  | false =>
    have hb := Fr.encS_bad (next := next) (l := l) (fun h => by have := (Fr.okP_iff next l).2 h; rw [hok] at this; cases this)
    have HB1 := Lib.hid hb.1
    have HB2 := Lib.hid hb.2
    rw [hok] at CR
    clear hb hok hl hcap hcap2 hv
    go_enter Try.func22, Try.ntmps22
    go_wp2_with fail
    refine CR.out.mono ?_
    rintro _ w2 ⟨rfl, hb2⟩
    go_wp2
    go_ret2
    rw [HB1.out, HB2.out]
    exact ⟨rfl, hb2⟩
  | true =>
    have hP := (Fr.okP_iff next l).1 hok
    have hg := Fr.encS_good hP
    have HG1 := Lib.hid hg.1
    have HG2 := Lib.hid hg.2
    have HR : Hid (∀ f ∈ l, Fr.right f = true) := Lib.hid hP.right
    obtain ⟨nx, rfl⟩ := Int.eq_ofNat_of_zero_le hP.lo
    have hnx : nx ≤ 511 := by have := hP.hi; omega
    have hl4 := hP.few
    have hpl : Hid (∀ k, k ≤ l.length → (ba (Fr.part nx l k)).size ≤ 600) := Lib.hid (fun k hk => by rw [ba_size]; have := Fr.part_length nx l k; omega)
    have C1 : Hid (∀ w, Calls Try.prog 36 #[.string ⟨#[]⟩, .int .i64 nx, .int .i64 4] w fun e w' => e = .returned (.string (ba (beB nx 4 0))) ∧ Below w.heap.size w w') := Lib.hid (fun w => fllay_ok w ⟨#[]⟩ nx 4 4 rfl (by decide) (by omega) (by omega) (by omega) (by omega))
    have C2 : Hid (∀ w, Calls Try.prog 36 #[.string (ba (beB nx 4 0)), .int .i64 (l.length : Nat), .int .i64 2] w fun e w' => e = .returned (.string (ba (Fr.part nx l 0))) ∧ Below w.heap.size w w') := Lib.hid (fun w => by
      have := fllay_ok w (ba (beB nx 4 0)) l.length 2 2 rfl (by rw [ba_size, beB_length]; omega) (by omega) (by omega) (by omega) (by omega)
      rw [lay_ba] at this
      rw [Fr.part_zero]
      exact this)
    have C3 : Hid (∀ k (hk : k < l.length) w, Calls Try.prog 36 #[.string (ba (Fr.part nx l k)), .int .i64 l[k].1, .int .i64 8] w fun e w' => e = .returned (.string (ba (Fr.part nx l k ++ beB l[k].1.toNat 8 0))) ∧ Below w.heap.size w w') := Lib.hid (fun k hk w => by
      have hr := (Fr.right_iff _).1 (HR.out l[k] (List.getElem_mem hk))
      have := fllay_ok w (ba (Fr.part nx l k)) l[k].1.toNat 8 8 rfl (by have := hpl.out k (by omega); omega) (by omega) (by omega) (by omega) (by omega)
      rw [lay_ba, Int.toNat_of_nonneg hr.1] at this
      exact this)
    have C4 : Hid (∀ k (hk : k < l.length) w, Calls Try.prog 36 #[.string (ba (Fr.part nx l k ++ beB l[k].1.toNat 8 0)), .int .i64 l[k].2, .int .i64 4] w fun e w' => e = .returned (.string (ba (Fr.part nx l (k + 1)))) ∧ Below w.heap.size w w') := Lib.hid (fun k hk w => by
      have hr := (Fr.right_iff _).1 (HR.out l[k] (List.getElem_mem hk))
      have := fllay_ok w (ba (Fr.part nx l k ++ beB l[k].1.toNat 8 0)) l[k].2.toNat 4 4 rfl (by rw [ba_size, List.length_append, beB_length]; have := Fr.part_length nx l k; omega) (by omega) (by omega) (by omega) (by omega)
      rw [lay_ba, Int.toNat_of_nonneg (by omega)] at this
      rw [Fr.part_next nx l k hk]
      exact this)
    rw [hok] at CR
    obtain ⟨n, hn⟩ : ∃ n, l.length = n := ⟨_, rfl⟩
    have HN := Lib.hid hn
    have HFIN : Hid (ba (Fr.part nx l n) = Fr.encS nx l) := Lib.hid (by rw [← hn, Fr.part_all, HG1.out])
    rw [hn] at CR HI C2 hl4 ⊢
    obtain ⟨B0, hB0⟩ : ∃ B, ba (beB nx 4 0) = B := ⟨_, rfl⟩
    rw [hB0] at C1 C2
    obtain ⟨Pt, hPt⟩ : ∃ Pt : Nat → ByteArray, (fun k => ba (Fr.part nx l k)) = Pt := ⟨_, rfl⟩
    have hPk : ∀ k, ba (Fr.part nx l k) = Pt k := fun k => by rw [← hPt]
    simp only [hPk] at C2 C3 C4 HFIN
    clear hg hok hl hcap hcap2 hv hP hn hB0 hPt hPk hnx hpl HR
    go_enter Try.func22, Try.ntmps22
    go_wp2_with fail
    refine CR.out.mono ?_
    rintro _ w2 ⟨rfl, hb2⟩
    go_wp2_with fail
    refine (C1.out _).mono ?_
    rintro _ w3 ⟨rfl, hb3⟩
    go_wp2_with fail
    refine (C2.out _).mono ?_
    rintro _ w4 ⟨rfl, hb4⟩
    have HB4 : Hid (Below w.heap.size w w4) := Lib.hid ((hb2.trans (hb3.mono hb2.size)).trans (hb4.mono (Nat.le_trans hb2.size hb3.size)))
    clear hb2 hb3 hb4 C1 C2 CR
    go_wp2
    go_loopw [6, 21] (fun s ii wr => ∃ k : Nat, k ≤ n ∧ ii = .int .i64 k ∧ s = .string (Pt k) ∧ Hid (Below w.heap.size w wr)) (fun _ ii _ => n - (intOf ii).toNat)
    case atStart => exact ⟨0, by omega, rfl, rfl, HB4⟩
    case round =>
      obtain ⟨k, hk, rfl, rfl, hbw⟩ := hrel
      by_cases hkn : k < n
      · have t1 : decide (k < n) = true := decide_eq_true hkn
        have hkl : k < l.length := by rw [HN.out]; exact hkn
        obtain ⟨g, off, hAd, hgl, c0, c1⟩ := HI.out.get k hkl
        subst hAd
        have d0 := (hbw.out.cell (p := ⟨g, off + k * 2, none⟩) hgl).trans c0
        have d1 := (hbw.out.cell (p := ⟨g, off + k * 2 + 1, none⟩) hgl).trans c1
        have hgr : g < wr.heap.size := Nat.lt_of_lt_of_le hgl hbw.out.size
        have C5 := Lib.hid (C3.out k hkl)
        have C6 := Lib.hid (C4.out k hkl)
        obtain ⟨S, hS⟩ : ∃ S, ba (Fr.part nx l k ++ beB l[k].1.toNat 8 0) = S := ⟨_, rfl⟩
        rw [hS] at C5 C6
        obtain ⟨x, hx⟩ : ∃ x, l[k].1 = x := ⟨_, rfl⟩
        obtain ⟨y, hy⟩ : ∃ y, l[k].2 = y := ⟨_, rfl⟩
        rw [hx] at C5 d0
        rw [hy] at C6 d1
        have i0 : (0 : Int) ≤ (k : Int) := by omega
        have i1 : (k : Int) < (n : Int) := by omega
        clear c0 c1 hgl hS hx hy hkl C3 C4 HI
        go_wp2_with fail
        refine (C5.out _).mono ?_
        rintro _ w5 ⟨rfl, hb5⟩
        have hX : Blk w5 wr.heap.size #[.int .i64 x, .int .i64 y] 31 := (hb5.block _ (by simp)).trans (heap_alloc_new wr _)
        have y1 : w5.cell? ⟨wr.heap.size, 1, none⟩ = some (.int .i64 y) := hX.cell 1
        have HB5 : Hid (Below w.heap.size w w5) := Lib.hid ((hbw.out.alloc hbw.out.size _).trans (hb5.mono (by have := hbw.out.size; simp; omega)))
        clear hX hb5
        go_wp2_with fail
        refine (C6.out _).mono ?_
        rintro _ w6 ⟨rfl, hb6⟩
        have HB6 : Hid (Below w.heap.size w w6) := Lib.hid (HB5.out.trans (hb6.mono HB5.out.size))
        clear hb6
        go_wp2
        go_roundw
        case rel => exact ⟨k + 1, by omega, by go_num, rfl, HB6⟩
        case measure => simp [intOf]; omega
      · have t1 : decide (k < n) = false := decide_eq_false hkn
        obtain rfl : k = n := by omega
        clear HI C3 C4
        go_wp2
        go_ret2
        rw [← HFIN.out, HG2.out]
        exact ⟨rfl, hbw.out⟩
end Go.Proofs.Ytjgndgcegenikaa
