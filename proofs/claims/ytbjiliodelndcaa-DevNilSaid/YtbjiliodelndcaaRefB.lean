/-
  Contracts of the reference's device (package rollbookref03): Write, Sync: what each call answers, and what becomes of the device in memory. Conditions: at most 1000000 calls before.
-/
import Derived.Test.YtbjiliodelndcaaRefA
import Derived.BigRegion
import Derived.Outline
import Derived.Deep.RegionHeld3
namespace Go.Proofs.Ytbjiliodelndcaa
open Go.RowKit
theorem info61 : (Try.prog.info? 65).map (fun i => (i.zero, i.size, i.bytes)) = some (some (.agg #[.int .i64 0, .string ⟨#[]⟩]), 2, 24) := by kernel_rfl
theorem rowCells_snoc (l : List (Nat × ByteArray)) (x : Nat × ByteArray) : rowCells (l ++ [x]) = rowCells l ++ [.int .i64 (x.1 : Int), .string x.2] := by
  simp [rowCells]
theorem nodup_grown {p : Nat} {a b : Option Nat} {g n : Nat} (hN : (p :: (a.toList ++ b.toList)).Nodup) (hp : p < n) (ha : ∀ k, a = some k → k < n) (hg : b = some g ∨ n ≤ g) : (p :: (a.toList ++ [g])).Nodup := by
  rcases hg with rfl | hg
  · exact hN
  · cases a with
    | none => simp; omega
    | some k =>
      have := ha k rfl
      simp at hN ⊢
      omega
theorem sep3 {p : Nat} {a b : Option Nat} (hN : (p :: (a.toList ++ b.toList)).Nodup) : a ≠ some p ∧ b ≠ some p ∧ ∀ k, a = some k → b ≠ some k := by
  refine ⟨?_, ?_, ?_⟩
  · rintro rfl; simp at hN
  · rintro rfl; simp at hN
  · rintro k rfl rfl; simp at hN
theorem nodup_head {p : Nat} {a : Option Nat} (h : a ≠ some p) : (p :: (a.toList ++ (none : Option Nat).toList)).Nodup := by
  cases a with
  | none => simp
  | some k => simp at h ⊢; omega
theorem mem2 {p k : Nat} {b : Option Nat} (h : k ∈ p :: b.toList) : k = p ∨ b = some k := by
  cases b <;> simp at h ⊢ <;> omega
theorem mem3 {p k : Nat} {a b : Option Nat} : k ∈ p :: (a.toList ++ b.toList) ↔ k = p ∨ a = some k ∨ b = some k := by
  cases a <;> cases b <;> simp <;> omega
set_option maxHeartbeats 800000 in
theorem ref_write (w : World) (p : Nat) (d : RD) (F : List Nat) (K : Nat) (hK : K ≤ 1000000) (ok : RD.Ok K d) (i : Int) (s : ByteArray) (h : RefAt w p d F) :
    Calls Try.prog 28 #[.pointer (some ⟨p, 0, none⟩), .int .i64 i, .string s] w (Did RefAt w p F (d.writeD i s) (.returned (.int .i64 (d.writeE i s)))) := by
  have hA := h
  obtain ⟨vs, vr, hb, hs, hr, hF, hN⟩ := h
  obtain ⟨A2, cap2, rfl⟩ := ownsRow_slice hs
  have c0 : w.cell? ⟨p, 0, none⟩ = some (.slice A2 d.sector.length cap2) := hb.cell 0
  have hl := ok.row
  have hl2 := ok.len
  have b5 := ok.wrote
  cases hh : d.has i
  · have HS : Hid (d.writeD i s = d) := Lib.hid (by unfold RD.writeD; rw [hh]; rfl)
    have HE : Hid (d.writeE i s = 1) := Lib.hid (by unfold RD.writeE; rw [hh]; rfl)
    by_cases h0 : i < 0
    · have d0 : decide (i < 0) = true := by simpa using h0
      clear hh h0
      go_enter Try.func28, Try.ntmps28
      go_wp2
      go_ret
      rw [HS.out, HE.out]
      exact ⟨rfl, F, hA, Touch.refl _ _, Grows.refl _ _⟩
    · have d0 : decide (i < 0) = false := by simpa using h0
      have d1 : decide ((d.sector.length : Int) ≤ i) = true := by
        unfold RD.has at hh
        simp at hh ⊢
        omega
      clear hh h0
      go_enter Try.func28, Try.ntmps28
      go_wp2
      go_ret
      rw [HS.out, HE.out]
      exact ⟨rfl, F, hA, Touch.refl _ _, Grows.refl _ _⟩
  · have hi0 : 0 ≤ i := by unfold RD.has at hh; simp at hh; omega
    have hi1 : i < d.sector.length := by unfold RD.has at hh; simp at hh; omega
    obtain ⟨q, rfl⟩ := Int.eq_ofNat_of_zero_le hi0
    have hq : q < d.sector.length := by omega
    have d0 : decide ((q : Int) < 0) = false := by simp
    have d1 : decide (d.sector.length ≤ q) = false := by simp; omega
    by_cases h8 : s.size = 128
    · have d8 : ((s.size : Int) != 128) = false := by rw [h8]; rfl
      have C := fun w => Lib.hid (ref_step w p d F K hK ok)
      cases hg : d.goes
      · have HS : Hid (d.writeD q s = d.stepped) := Lib.hid (by unfold RD.writeD; rw [hh, hg, h8]; rfl)
        have HE : Hid (d.writeE q s = 6) := Lib.hid (by unfold RD.writeE; rw [hh, hg, h8]; rfl)
        rw [hg] at C
        clear hh h8 hg
        go_enter Try.func28, Try.ntmps28
        go_wp2_with fail
        refine ((C _).out hA).mono ?_
        rintro _ w1 ⟨rfl, F1, hA1, hT1, hG1⟩
        go_wp2
        go_ret
        rw [HS.out, HE.out]
        exact ⟨rfl, F1, hA1, hT1, hG1⟩
      · have HS : Hid (d.writeD q s = { d.stepped with row := d.row ++ [(q, s)], wrote := d.wrote + 1 }) := Lib.hid (by unfold RD.writeD; rw [hh, hg, h8]; rfl)
        have HE : Hid (d.writeE q s = 0) := Lib.hid (by unfold RD.writeE; rw [hh, hg, h8]; rfl)
        have hsec := RD.stepped_sector d
        have hrow := RD.stepped_row d
        have hwro := RD.stepped_wrote d
        rw [hg] at C
        clear hh h8 hg
        obtain ⟨i0, hi, hz0, hz1, hz2⟩ := info_parts info61
        go_enter Try.func28, Try.ntmps28
        go_wp2_with fail
        refine ((C _).out hA).mono ?_
        rintro _ w1 ⟨rfl, F1, ⟨us, ur, kb, ks, kr, kF, kN⟩, hT1, hG1⟩
        rw [hrow] at kr
        rw [hsec] at ks
        have kb' : Blk w1 p #[us, ur, .bool d.stepped.off, .int .i64 d.stepped.left, .int .i64 d.stepped.count, .int .i64 d.wrote] 40 := by
          rw [← hwro]; exact kb
        have e1 : w1.cell? ⟨p, 1, none⟩ = some ur := kb'.cell 1
        have hlt := kb'.lt
        have hus : ∀ k, us.ownBlock = some k → k < w1.heap.size := fun k hk => ownsRow_lt ks k hk
        have hne : some p ≠ ur.ownBlock := by
          intro e
          subst kF
          rw [← e] at kN
          simp at kN
        have HSEC := Lib.hid hsec
        clear hsec hrow hwro kb
        go_wp2_with (at_builtin; refine wpList_append_lies _ rfl (.tmp 30) (.tmp 34) 38 rfl 0 65 i0 _ 2 24 Try.underlying38 hi hz0 hz1 hz2 rfl (by omega) ur d.row.length (rowCells d.row) (by rfl) (kr.alloc _) ⟨w1.heap.size, 0, none⟩ 1 1 [.int .i64 q, .string s] (by rfl) (by rfl) (World.news_of_block (heap_alloc_new w1 _)) (by simp [Value.oneCell']) (by omega) (by unfold maxLen; omega) (by omega) (by simp) (w1.heap.size + 1) (by simp) ?_; intro g cap w2 hown2 hgrow hat hlt2; have kb2 := (kb'.alloc (.cells #[.int .i64 q, .string s] 65)).grown hgrow hne; have g1c : w2.cell? ⟨p, 1, none⟩ = some ur := kb2.cell 1; have g1 := kb2.free 1; have g5 := kb2.free 5; have g6 : w2.cell? ⟨p, 5, none⟩ = some (.int .i64 d.wrote) := kb2.cell 5; have hlt3 := kb2.lt)
        go_ret
        rw [HS.out, HE.out]
        refine ⟨rfl, p :: (us.ownBlock.toList ++ [g]), ⟨us, .slice (some ⟨g, 0, none⟩) (d.row.length + 1) cap, (kb2.set 1 _).set 5 _, ?_, ?_, rfl, ?_⟩, ?_, ?_⟩
        · show World.ownsRow _ 0 9 1 us d.stepped.sector.length (d.stepped.sector.map Value.string)
          rw [HSEC.out]
          refine ownsRow_touch ks (((((Touch.refl (p :: ur.ownBlock.toList) w1).alloc _).grown hgrow ?_).setCell (by simp) _).setCell (by simp) _) ?_
          · intro k hk; left; simp [hk]
          · intro k hk hm
            subst kF
            obtain ⟨n1, n2, n3⟩ := sep3 kN
            rcases mem2 hm with rfl | hm
            · exact n1 hk
            · exact n3 k hk hm
        · show World.ownsRow _ 0 65 2 _ (d.row ++ [(q, s)]).length (rowCells (d.row ++ [(q, s)]))
          rw [rowCells_snoc, List.length_append]
          refine ownsRow_touch hown2 (((Touch.refl [p] w2).setCell (by simp) _).setCell (by simp) _) ?_
          intro k hk hm
          have hk : g = k := by simpa [Value.ownBlock] using hk
          simp only [List.mem_singleton] at hm
          subst hk hm
          rcases hat with hat | hat
          · exact hne hat.symm
          · omega
        · subst kF
          exact nodup_grown kN hlt hus (hat.elim .inl (fun e => .inr (by omega)))
        · refine hT1.trans (((((Touch.refl F1 w1).alloc _).grown hgrow ?_).setCell ?_ _).setCell ?_ _) hG1
          · intro k hk
            left
            subst kF
            simp [hk]
          · left; subst kF; simp
          · left; subst kF; simp
        · refine hG1.trans ?_ hT1.size
          intro k hk
          subst kF
          have hk := (mem3 (b := some g)).1 hk
          rcases hk with hk | hk | hk
          · left; exact mem3.2 (.inl hk)
          · left; exact mem3.2 (.inr (.inl hk))
          · rcases hat with hat | hat
            · left; exact mem3.2 (.inr (.inr (hat.trans hk)))
            · right
              have : g = k := by simpa using hk
              omega
    · have d8 : ((s.size : Int) != 128) = true := by simp; omega
      have HS : Hid (d.writeD q s = d) := Lib.hid (by unfold RD.writeD; rw [hh]; simp [h8])
      have HE : Hid (d.writeE q s = 1) := Lib.hid (by unfold RD.writeE; rw [hh]; simp [h8])
      clear hh h8
      go_enter Try.func28, Try.ntmps28
      go_wp2
      go_ret
      rw [HS.out, HE.out]
      exact ⟨rfl, F, hA, Touch.refl _ _, Grows.refl _ _⟩

/-- what holds at a round of Sync's loop -/
def SyncAt (w : World) (p : Nat) (vs vr : Value) (d : RD) (j : Nat) (wr : World) : Prop :=
  Blk wr p (refCells vs vr d) 40 ∧ wr.ownsRow 0 9 1 vs d.sector.length ((RD.synced (d.row.take j) d.sector).map Value.string) ∧ wr.ownsRow 0 65 2 vr d.row.length (rowCells d.row) ∧ Touch vs.ownBlock.toList w wr
set_option maxHeartbeats 800000 in
theorem ref_sync (w : World) (p : Nat) (d : RD) (F : List Nat) (K : Nat) (hK : K ≤ 1000000) (ok : RD.Ok K d) (h : RefAt w p d F) :
    Calls Try.prog 29 #[.pointer (some ⟨p, 0, none⟩)] w (Did RefAt w p F d.syncD (.returned (.int .i64 d.syncE))) := by
  have C := fun w => Lib.hid (ref_step w p d F K hK ok)
  have hl := ok.row
  have hl2 := ok.len
  have hat := Lib.hid ok.at_
  cases hg : d.goes
  · have HS : Hid (d.syncD = d.stepped) := Lib.hid (by unfold RD.syncD; rw [hg]; rfl)
    have HE : Hid (d.syncE = 6) := Lib.hid (by unfold RD.syncE; rw [hg]; rfl)
    rw [hg] at C
    clear hg
    go_enter Try.func29, Try.ntmps29
    go_wp2_with fail
    refine ((C _).out h).mono ?_
    rintro _ w1 ⟨rfl, F1, hA1, hT1, hG1⟩
    go_wp2
    go_ret
    rw [HS.out, HE.out]
    exact ⟨rfl, F1, hA1, hT1, hG1⟩
  · have HS : Hid (d.syncD = { d.stepped with sector := RD.synced d.row d.sector, row := [] }) := Lib.hid (by unfold RD.syncD; rw [hg]; rfl)
    have HE : Hid (d.syncE = 0) := Lib.hid (by unfold RD.syncE; rw [hg]; rfl)
    have hsec := RD.stepped_sector d
    have hrow := RD.stepped_row d
    rw [hg] at C
    clear hg
    go_enter Try.func29, Try.ntmps29
    go_wp2_with fail
    refine ((C _).out h).mono ?_
    rintro _ w1 ⟨rfl, F1, ⟨us, ur, kb, ks, kr, kF, kN⟩, hT1, hG1⟩
    rw [hrow] at kr
    rw [hsec] at ks
    have HSEC := Lib.hid hsec
    have HROW := Lib.hid hrow
    obtain ⟨A2, cap2, rfl⟩ := ownsRow_slice ks
    obtain ⟨A, cap, rfl⟩ := ownsRow_slice kr
    obtain ⟨dd, hdd⟩ : ∃ dd : RD, dd = { d with off := d.stepped.off, left := d.stepped.left, count := d.stepped.count, wrote := d.stepped.wrote } := ⟨_, rfl⟩
    have kb' : Blk w1 p (refCells (.slice A2 d.sector.length cap2) (.slice A d.row.length cap) dd) 40 := by rw [hdd]; exact kb
    have e1 : w1.cell? ⟨p, 1, none⟩ = some (.slice A d.row.length cap) := kb'.cell 1
    clear hsec hrow kb
    have HDD := Lib.hid hdd
    have q1 : dd.sector = d.sector := by rw [hdd]
    have q2 : dd.row = d.row := by rw [hdd]
    clear hdd
    go_wp2
    go_loopw [3] (fun k wr => ∃ j : Nat, j ≤ d.row.length ∧ k = .int .i64 j ∧ SyncAt w1 p (.slice A2 d.sector.length cap2) (.slice A d.row.length cap) dd j wr) (fun k _ => d.row.length - (intOf k).toNat)
    case atStart => exact ⟨0, by omega, rfl, kb', by rw [q1]; exact ks, by rw [q2]; exact kr, Touch.refl _ _⟩
    case round =>
      obtain ⟨j, hj, rfl, rb, rs, rr, rT⟩ := hrel
      rw [q1] at rs
      rw [q2] at rr rs
      have x1 : wr.cell? ⟨p, 1, none⟩ = some (.slice A d.row.length cap) := rb.cell 1
      have x0 : wr.cell? ⟨p, 0, none⟩ = some (.slice A2 d.sector.length cap2) := rb.cell 0
      by_cases hlt : j < d.row.length
      · obtain ⟨g, rfl, _, _, r1, r2⟩ := row_at rr j hlt
        have hq := hat.out d.row[j] (List.getElem_mem hlt)
        have rs' := rs
        rw [← RD.synced_length (d.row.take j) d.sector] at rs'
        obtain ⟨g2, rfl, _, hc2, t1⟩ := text_at rs' d.row[j].1 (by rw [RD.synced_length]; exact hq)
        have f1 := rs.frozenAt d.row[j].1
        have i1 : (0 : Int) ≤ (j : Int) := by omega
        have i2 : (j : Int) < (d.row.length : Int) := by omega
        have i3 : (0 : Int) ≤ (d.row[j].1 : Int) := by omega
        have i4 : (d.row[j].1 : Int) < (d.sector.length : Int) := by omega
        have away : ∀ (b o : Nat) (u : Value), b ≠ g2 → wr.cell? ⟨b, o, none⟩ = some u → (wr.setCell ⟨g2, d.row[j].1, none⟩ (.string d.row[j].2)).cell? ⟨b, o, none⟩ = some u := fun b o u hb hu =>
          (World.cell?_of_block (w := wr) (heap_setCell_other wr ⟨g2, d.row[j].1, none⟩ b _ hb)).trans hu
        have m1 : p ≠ g2 ∧ g ≠ g2 := by
          subst kF
          obtain ⟨n1, n2, n3⟩ := sep3 kN
          exact ⟨fun e => n1 (by rw [e]; rfl), fun e => n3 g2 rfl (by rw [e]; rfl)⟩
        have k0 := away p 0 _ m1.1 x0
        have k1 := away p 1 _ m1.1 x1
        have k2 := away g _ _ m1.2 r1
        have k3 := away g _ _ m1.2 r2
        have KK := Lib.hid (And.intro k0 (And.intro k1 (And.intro k2 k3)))
        have M1 := Lib.hid m1
        clear away k0 k1 k2 k3 m1
        go_wp2
        go_region_held3 (fun w' => w'.cell? ⟨p, 0, none⟩ = some (.slice (some ⟨g2, 0, none⟩) d.sector.length cap2) ∧ w'.cell? ⟨p, 1, none⟩ = some (.slice (some ⟨g, 0, none⟩) d.row.length cap) ∧ w'.cell? ⟨g, j * 2, none⟩ = some (.int .i64 (d.row[j].1 : Int)) ∧ w'.cell? ⟨g, j * 2 + 1, none⟩ = some (.string d.row[j].2)) (first | (go_keep; done) | exact KK.out) (fail)
        go_wp2
        go_roundw
        case rel =>
          refine ⟨j + 1, by omega, by go_num, rb.setOther M1.out.1 _, ?_, ?_, (rT.setCell (p := ⟨g2, d.row[j].1, none⟩) (.inl (by simp [Value.ownBlock])) _).drew⟩
          · rw [q1, q2, RD.synced_snoc d.row j hlt, List.map_set]
            exact (rs.stored _ _).1
          · rw [q2]
            refine ownsRow_touch (S := [g2]) rr ((Touch.refl [g2] wr).setCell (p := ⟨g2, d.row[j].1, none⟩) (.inl (by simp)) _).drew ?_
            intro k hk
            have hk : g = k := by simpa [Value.ownBlock] using hk
            subst hk
            simpa using M1.out.2
        case measure => simp [intOf]; omega
      · obtain rfl : j = d.row.length := by omega
        rw [List.take_length] at rs
        have y1 := rb.free 1
        have hlt3 := rb.lt
        go_wp2
        go_ret
        rw [HS.out, HE.out]
        subst kF
        obtain ⟨n1, n2, n3⟩ := sep3 kN
        refine ⟨rfl, p :: ((Value.slice A2 d.sector.length cap2).ownBlock.toList ++ (none : Option Nat).toList), ⟨.slice A2 d.sector.length cap2, .slice none 0 0, ?_, ?_, World.ownsRow_nil _ _ _ _, rfl, nodup_head n1⟩, ?_, ?_⟩
        · rw [HDD.out] at rb
          exact rb.set 1 _
        · show World.ownsRow _ 0 9 1 _ (RD.synced d.row d.sector).length _
          rw [RD.synced_length]
          refine ownsRow_touch (S := [p]) rs ((Touch.refl [p] wr).setCell (p := ⟨p, 1, none⟩) (.inl (by simp)) _) ?_
          intro k hk hm
          simp only [List.mem_singleton] at hm
          subst hm
          exact n1 hk
        · refine hT1.trans ((rT.more ?_).setCell (p := ⟨p, 1, none⟩) (.inl (by simp)) _) hG1
          intro k hk
          exact mem3.2 (.inr (.inl (by simpa using hk)))
        · refine hG1.trans ?_ hT1.size
          intro k hk
          rcases (mem3 (b := none)).1 hk with hk | hk | hk
          · exact .inl (mem3.2 (.inl hk))
          · exact .inl (mem3.2 (.inr (.inl hk)))
          · cases hk
end Go.Proofs.Ytbjiliodelndcaa
