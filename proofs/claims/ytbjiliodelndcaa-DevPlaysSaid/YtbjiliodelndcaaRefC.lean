/-
  Contract of the reference's device (package rollbookref03): Start: what it answers, and what becomes of the device in memory. Conditions: at most 1000000 calls before.
-/
import Derived.Test.YtbjiliodelndcaaRefB
namespace Go.Proofs.Ytbjiliodelndcaa
open Go.RowKit
/-- the slice v reads as the numbers l, outside of the blocks F -/
def NumsAt (w : World) (F : List Nat) (v : Value) (l : List Int) : Prop :=
  ∃ A cap, v = .slice A l.length cap ∧ l.length ≤ 9223372036854775807 ∧ (∀ z ∈ l, -9223372036854775808 ≤ z ∧ z ≤ 9223372036854775807) ∧
    ∀ j (h : j < l.length), ∃ b off, A = some ⟨b, off, none⟩ ∧ b ∉ F ∧ b < w.heap.size ∧ w.cell? ⟨b, off + j, none⟩ = some (.int .i64 l[j])
theorem NumsAt.touch {w w' : World} {F S : List Nat} {v : Value} {l : List Int} (h : NumsAt w F v l) (hT : Touch S w w') (hS : ∀ k ∈ S, k ∈ F) : NumsAt w' F v l := by
  obtain ⟨A, cap, hv, hl, hz, hc⟩ := h
  refine ⟨A, cap, hv, hl, hz, fun j hj => ?_⟩
  obtain ⟨b, off, hA, hb, hlt, hcell⟩ := hc j hj
  exact ⟨b, off, hA, hb, Nat.lt_of_lt_of_le hlt hT.size, (hT.cell (p := ⟨b, off + j, none⟩) hlt (fun hk => hb (hS _ hk))).trans hcell⟩
/-- what holds at a round of Start's loops -/
def StartAt (w0 : World) (p : Nat) (vs vr : Value) (d : RD) (s : List ByteArray) (wr : World) : Prop :=
  Blk wr p (refCells vs vr d) 40 ∧ wr.ownsRow 0 9 1 vs d.sector.length (s.map Value.string) ∧ wr.ownsRow 0 65 2 vr d.row.length (rowCells d.row) ∧ Touch vs.ownBlock.toList w0 wr ∧ s.length = d.sector.length
theorem StartAt.ref {w0 wr : World} {p : Nat} {vs vr : Value} {d : RD} {s : List ByteArray} (h : StartAt w0 p vs vr d s wr) (hN : (p :: (vs.ownBlock.toList ++ vr.ownBlock.toList)).Nodup) :
    RefAt wr p { d with sector := s } (p :: (vs.ownBlock.toList ++ vr.ownBlock.toList)) := by
  obtain ⟨h1, h2, h3, h4, h5⟩ := h
  exact ⟨vs, vr, h1, by rw [h5]; exact h2, h3, rfl, hN⟩
set_option maxRecDepth 100000 in
set_option maxHeartbeats 1600000 in
theorem ref_start (w : World) (p : Nat) (d : RD) (F : List Nat) (K : Nat) (hK : K ≤ 1000000) (ok : RD.Ok K d) (h : RefAt w p d F) (v : Value) (picks : List Int) (hp : NumsAt w F v picks) :
    Calls Try.prog 32 #[.pointer (some ⟨p, 0, none⟩), v] w (Did RefAt w p F (d.startD picks) (.returned (.int .i64 d.startE))) := by
  have hA := h
  obtain ⟨vs, vr, hb, hs, hr, hF, hN⟩ := h
  obtain ⟨PA, pcap, rfl, pl, pz, pc⟩ := hp
  have c2 : w.cell? ⟨p, 2, none⟩ = some (.bool d.off) := hb.cell 2
  cases ho : d.off
  · rw [ho] at c2
    have HS : Hid (d.startD picks = d) := Lib.hid (by unfold RD.startD; rw [ho]; rfl)
    have HE : Hid (d.startE = 10) := Lib.hid (by unfold RD.startE; rw [ho]; rfl)
    clear ho pc
    go_enter Try.func32, Try.ntmps32
    go_wp2
    go_ret
    rw [HS.out, HE.out]
    exact ⟨rfl, F, hA, Touch.refl _ _, Grows.refl _ _⟩
  · rw [ho] at c2
    have HS : Hid (d.startD picks = { d with sector := RD.started picks d.row d.sector.length 0 0 d.sector, row := [], off := false }) := Lib.hid (by unfold RD.startD; rw [ho]; rfl)
    have HE : Hid (d.startE = 0) := Lib.hid (by unfold RD.startE; rw [ho]; rfl)
    have HO := Lib.hid ho
    clear ho
    have hl := ok.row
    have hl2 := ok.len
    have OK := Lib.hid ok
    have PC := Lib.hid pc
    have PZ := Lib.hid pz
    clear pc pz
    subst hF
    have HB : Hid (StartAt w p vs vr d d.sector w) := Lib.hid ⟨hb, hs, hr, Touch.refl _ _, rfl⟩
    obtain ⟨A2, cap2, rfl⟩ := ownsRow_slice hs
    obtain ⟨A, cap, rfl⟩ := ownsRow_slice hr
    have HN := Lib.hid hN
    go_enter Try.func32, Try.ntmps32
    go_wp2
    go_loopw [5, 6] (fun t i wr => ∃ (j u : Nat) (s : List ByteArray), j ≤ d.sector.length ∧ u ≤ j ∧ i = .int .i64 j ∧ t = .int .i64 u ∧ StartAt w p (.slice A2 d.sector.length cap2) (.slice A d.row.length cap) d s wr ∧
      Hid (RD.started picks d.row (d.sector.length - j) j u s = RD.started picks d.row d.sector.length 0 0 d.sector)) (fun _ i _ => d.sector.length - (intOf i).toNat)
    case atStart => exact ⟨0, 0, d.sector, by omega, by omega, rfl, rfl, HB.out, Lib.hid rfl⟩
    case round =>
      obtain ⟨j, u, s, hj, hu, rfl, rfl, HSA, HST⟩ := hrel
      obtain ⟨rb, rs, rr, rT, rl⟩ := HSA
      have x0 : wr.cell? ⟨p, 0, none⟩ = some (.slice A2 d.sector.length cap2) := rb.cell 0
      have C := ref_waits wr p { d with sector := s } _ K hK ⟨by simp only; omega, ok.row, by simp only [rl]; exact ok.at_, ok.left, ok.count, ok.wrote⟩ (j : Int) (StartAt.ref ⟨rb, rs, rr, rT, rl⟩ HN.out)
      have hW : RD.waits { d with sector := s } (j : Int) = (RD.writes d.row j).length := by
        unfold RD.waits RD.waitsIn
        rw [if_pos (by omega)]
        rfl
      rw [hW] at C
      have CC := Lib.hid C
      have hwl := RD.writes_length_le d.row j
      have RL := Lib.hid rl
      clear C hW rl
      by_cases hlt : j < d.sector.length
      · obtain ⟨m, hm⟩ : ∃ m, (RD.writes d.row j).length = m := ⟨_, rfl⟩
        rw [hm] at hwl
        have HM := Lib.hid hm
        rw [hm] at CC
        by_cases hm0 : m = 0
        · subst hm0
          have HS2 := Lib.hid (RD.started_skip picks d.row (d.sector.length - (j + 1)) j u s hm)
          clear hm
          go_wp2_with fail
          refine CC.out.mono ?_
          rintro _ _ ⟨rfl, rfl⟩
          go_wp2
          go_roundw
          case rel => exact ⟨j + 1, u, s, by omega, by omega, by go_num, rfl, ⟨rb, rs, rr, rT, RL.out⟩, Lib.hid (by rw [← HST.out, ← HS2.out, show d.sector.length - (j + 1) + 1 = d.sector.length - j from by omega])⟩
          case measure => simp [intOf]; omega
        · have dm : ((m : Int) == 0) = false := by rw [beq_eq_false_iff_ne]; omega
          have hs2 := RD.started_take picks d.row (d.sector.length - (j + 1)) j u s (by rw [hm]; exact hm0)
          obtain ⟨KP, hKP⟩ : ∃ KP, RD.keeps picks u m = KP := ⟨_, rfl⟩
          rw [hm, hKP, show d.sector.length - (j + 1) + 1 = d.sector.length - j from by omega, HST.out] at hs2
          have HS2 := Lib.hid hs2
          have hkm := RD.keeps_le picks u m
          rw [hKP] at hkm
          have hmK : m ≤ 1000000 := by omega
          clear hs2 hm
          by_cases hn0 : picks.length = 0
          · have dA : decide (0 < picks.length) = false := decide_eq_false (by omega)
            have HK : Hid ((0 : Int) = (KP : Int)) := Lib.hid (by rw [← hKP]; unfold RD.keeps; rw [if_pos hn0]; rfl)
            clear hKP hn0
            go_wp2_with fail
            refine CC.out.mono ?_
            rintro _ _ ⟨rfl, rfl⟩
            go_wp2
            clear dA
            obtain ⟨wo, rfl⟩ : ∃ wo : World, wo = wr := ⟨_, rfl⟩
            go_loopw [8, 9] (fun r k wr => ∃ (q c : Nat), q ≤ d.row.length ∧ k = .int .i64 q ∧ r = .int .i64 c ∧ c ≤ KP ∧ StartAt w p (.slice A2 d.sector.length cap2) (.slice A d.row.length cap) d (RD.put (RD.writes (d.row.take q) j) j s) wr ∧
              Hid (c + (RD.writes (d.row.take q) j).length = KP)) (fun _ k _ => d.row.length - (intOf k).toNat)
            case atStart => exact ⟨0, KP, by omega, rfl, by rw [HK.out], by omega, ⟨rb, rs, rr, rT, RL.out⟩, Lib.hid (by simp [RD.writes])⟩
            case round =>
              obtain ⟨q, c, hq, rfl, rfl, hcK, HSA2, HQ⟩ := hrel
              obtain ⟨qb, qs, qr, qT, ql⟩ := HSA2
              have y1 : wr.cell? ⟨p, 1, none⟩ = some (.slice A d.row.length cap) := qb.cell 1
              have y0 : wr.cell? ⟨p, 0, none⟩ = some (.slice A2 d.sector.length cap2) := qb.cell 0
              have QL := Lib.hid ql
              clear ql
              by_cases hql : q < d.row.length
              · have e1 : decide (q < d.row.length) = true := decide_eq_true hql
                by_cases hc0 : 0 < c
                · have e2 : decide (0 < c) = true := decide_eq_true hc0
                  obtain ⟨g, rfl, _, _, r1, r2⟩ := row_at qr q hql
                  have hsn := RD.writes_snoc (d.row.take q) d.row[q] j
                  rw [← RD.take_snoc d.row q hql] at hsn
                  by_cases he : d.row[q].1 = j
                  · have e3 : ((d.row[q].1 : Int) == j) = true := by rw [beq_iff_eq]; omega
                    rw [if_pos he] at hsn
                    have HSN := Lib.hid hsn
                    have qs' := qs
                    have RL2 := Lib.hid (RL.out)
                    rw [← QL.out] at qs'
                    obtain ⟨g2, rfl, _, hc2, t1⟩ := text_at qs' j (by rw [QL.out]; exact hlt)
                    have f1 := qs.frozenAt j
                    have i1 : (0 : Int) ≤ (q : Int) := by omega
                    have i2 : (q : Int) < (d.row.length : Int) := by omega
                    have i3 : (0 : Int) ≤ (j : Int) := by omega
                    have i4 : (j : Int) < (d.sector.length : Int) := by omega
                    have away : ∀ (b o : Nat) (u : Value), b ≠ g2 → wr.cell? ⟨b, o, none⟩ = some u → (wr.setCell ⟨g2, j, none⟩ (.string d.row[q].2)).cell? ⟨b, o, none⟩ = some u := fun b o u hb hu =>
                      (World.cell?_of_block (w := wr) (heap_setCell_other wr ⟨g2, j, none⟩ b _ hb)).trans hu
                    have m1 : p ≠ g2 ∧ g ≠ g2 := by
                      obtain ⟨n1, n2, n3⟩ := sep3 HN.out
                      exact ⟨fun e => n1 (by rw [e]; rfl), fun e => n3 g2 rfl (by rw [e]; rfl)⟩
                    have k0 := away p 0 _ m1.1 y0
                    have k1 := away p 1 _ m1.1 y1
                    have k3 := away g _ _ m1.2 r2
                    have KK := Lib.hid (And.intro k0 (And.intro k1 k3))
                    have M1 := Lib.hid m1
                    clear away k0 k1 k3 m1 hsn
                    go_wp2
                    go_region_held3 (fun w' => w'.cell? ⟨p, 0, none⟩ = some (.slice (some ⟨g2, 0, none⟩) d.sector.length cap2) ∧ w'.cell? ⟨p, 1, none⟩ = some (.slice (some ⟨g, 0, none⟩) d.row.length cap) ∧ w'.cell? ⟨g, q * 2 + 1, none⟩ = some (.string d.row[q].2)) (first | (go_keep; done) | exact KK.out) (fail)
                    go_wp2
                    go_roundw
                    case rel =>
                      refine ⟨q + 1, c - 1, by omega, by go_num, by rw [show ((c - 1 : Nat) : Int) = (c : Int) - 1 from by omega], by omega, ⟨qb.setOther M1.out.1 _, ?_, ?_, (qT.setCell (p := ⟨g2, j, none⟩) (.inl (by simp [Value.ownBlock])) _).drew, ?_⟩, Lib.hid ?_⟩
                      · rw [HSN.out, RD.put_snoc, List.map_set]
                        exact (qs.stored _ _).1
                      · refine ownsRow_touch (S := [g2]) qr ((Touch.refl [g2] wr).setCell (p := ⟨g2, j, none⟩) (.inl (by simp)) _).drew ?_
                        intro k hk
                        have hk : g = k := by simpa [Value.ownBlock] using hk
                        subst hk
                        simpa using M1.out.2
                      · rw [RD.put_length]; exact RL.out
                      · rw [HSN.out, List.length_append]
                        have := HQ.out
                        simp only [List.length_singleton]
                        omega
                    case measure => simp [intOf]; omega
                  · have e3 : ((d.row[q].1 : Int) == j) = false := by rw [beq_eq_false_iff_ne]; omega
                    rw [if_neg he] at hsn
                    have HSN := Lib.hid hsn
                    clear hsn he
                    go_wp2
                    go_roundw
                    case rel => exact ⟨q + 1, c, by omega, by go_num, rfl, hcK, by rw [HSN.out]; exact ⟨qb, qs, qr, qT, QL.out⟩, Lib.hid (by rw [HSN.out]; exact HQ.out)⟩
                    case measure => simp [intOf]; omega
                · have e2 : decide (0 < c) = false := decide_eq_false hc0
                  have hkept := RD.put_kept d.row q j KP s (by have := HQ.out; omega)
                  have HKEPT := Lib.hid hkept
                  clear hkept hc0
                  go_wp2
                  go_roundw
                  case rel => exact ⟨j + 1, u + 1, _, by omega, by omega, by go_num, by go_num, ⟨qb, qs, qr, qT, QL.out⟩, Lib.hid (by rw [HKEPT.out]; exact HS2.out.symm)⟩
                  case measure => simp [intOf]; omega
              · obtain rfl : q = d.row.length := by omega
                have e1 : decide (d.row.length < d.row.length) = false := decide_eq_false (by omega)
                have hkept := RD.put_kept d.row d.row.length j KP s (by have := HQ.out; have := HM.out; rw [List.take_length] at *; omega)
                have HKEPT := Lib.hid hkept
                clear hkept hql
                go_wp2
                go_roundw
                case rel => exact ⟨j + 1, u + 1, _, by omega, by omega, by go_num, by go_num, ⟨qb, qs, qr, qT, QL.out⟩, Lib.hid (by rw [HKEPT.out]; exact HS2.out.symm)⟩
                case measure => simp [intOf]; omega
          · have dA : decide (0 < picks.length) = true := decide_eq_true (by omega)
            have hnp : 0 < picks.length := by omega
            have hmod : u % picks.length < picks.length := Nat.mod_lt _ hnp
            obtain ⟨pb, po, rfl, hpb, hpl, hpc⟩ := PC.out (u % picks.length) hmod
            have hz := PZ.out picks[u % picks.length] (List.getElem_mem hmod)
            obtain ⟨z, hzz⟩ : ∃ z, picks[u % picks.length] = z := ⟨_, rfl⟩
            have hgd : picks.getD (u % picks.length) 0 = z := by rw [← hzz]; simp [List.getD, hmod]
            rw [hzz] at hpc hz
            have hpw : wr.cell? ⟨pb, po + u % picks.length, none⟩ = some (.int .i64 z) := (rT.cell (p := ⟨pb, po + u % picks.length, none⟩) hpl (fun hk => hpb (mem3.2 (.inr (.inl (by simpa using hk)))))).trans hpc
            have hpk := RD.keeps picks u m
            by_cases hz0 : 0 < z
            · have dB : decide (0 < z) = true := by simpa using hz0
              have HK : Hid (z % ((m : Int) + 1) = (KP : Int)) := Lib.hid (by
                rw [← hKP]
                unfold RD.keeps
                rw [if_neg hn0, hgd, if_pos hz0]
                have := Int.emod_nonneg z (show (m : Int) + 1 ≠ 0 by omega)
                omega)
              clear hKP hn0 hgd hzz hpc hpk
              go_wp2_with fail
              refine CC.out.mono ?_
              rintro _ _ ⟨rfl, rfl⟩
              go_wp2
              clear dA
              obtain ⟨wo, rfl⟩ : ∃ wo : World, wo = wr := ⟨_, rfl⟩
              go_loopw [8, 9] (fun r k wr => ∃ (q c : Nat), q ≤ d.row.length ∧ k = .int .i64 q ∧ r = .int .i64 c ∧ c ≤ KP ∧ StartAt w p (.slice A2 d.sector.length cap2) (.slice A d.row.length cap) d (RD.put (RD.writes (d.row.take q) j) j s) wr ∧
                Hid (c + (RD.writes (d.row.take q) j).length = KP)) (fun _ k _ => d.row.length - (intOf k).toNat)
              case atStart => exact ⟨0, KP, by omega, rfl, by rw [HK.out], by omega, ⟨rb, rs, rr, rT, RL.out⟩, Lib.hid (by simp [RD.writes])⟩
              case round =>
                obtain ⟨q, c, hq, rfl, rfl, hcK, HSA2, HQ⟩ := hrel
                obtain ⟨qb, qs, qr, qT, ql⟩ := HSA2
                have y1 : wr.cell? ⟨p, 1, none⟩ = some (.slice A d.row.length cap) := qb.cell 1
                have y0 : wr.cell? ⟨p, 0, none⟩ = some (.slice A2 d.sector.length cap2) := qb.cell 0
                have QL := Lib.hid ql
                clear ql
                by_cases hql : q < d.row.length
                · have e1 : decide (q < d.row.length) = true := decide_eq_true hql
                  by_cases hc0 : 0 < c
                  · have e2 : decide (0 < c) = true := decide_eq_true hc0
                    obtain ⟨g, rfl, _, _, r1, r2⟩ := row_at qr q hql
                    have hsn := RD.writes_snoc (d.row.take q) d.row[q] j
                    rw [← RD.take_snoc d.row q hql] at hsn
                    by_cases he : d.row[q].1 = j
                    · have e3 : ((d.row[q].1 : Int) == j) = true := by rw [beq_iff_eq]; omega
                      rw [if_pos he] at hsn
                      have HSN := Lib.hid hsn
                      have qs' := qs
                      have RL2 := Lib.hid (RL.out)
                      rw [← QL.out] at qs'
                      obtain ⟨g2, rfl, _, hc2, t1⟩ := text_at qs' j (by rw [QL.out]; exact hlt)
                      have f1 := qs.frozenAt j
                      have i1 : (0 : Int) ≤ (q : Int) := by omega
                      have i2 : (q : Int) < (d.row.length : Int) := by omega
                      have i3 : (0 : Int) ≤ (j : Int) := by omega
                      have i4 : (j : Int) < (d.sector.length : Int) := by omega
                      have away : ∀ (b o : Nat) (u : Value), b ≠ g2 → wr.cell? ⟨b, o, none⟩ = some u → (wr.setCell ⟨g2, j, none⟩ (.string d.row[q].2)).cell? ⟨b, o, none⟩ = some u := fun b o u hb hu =>
                        (World.cell?_of_block (w := wr) (heap_setCell_other wr ⟨g2, j, none⟩ b _ hb)).trans hu
                      have m1 : p ≠ g2 ∧ g ≠ g2 := by
                        obtain ⟨n1, n2, n3⟩ := sep3 HN.out
                        exact ⟨fun e => n1 (by rw [e]; rfl), fun e => n3 g2 rfl (by rw [e]; rfl)⟩
                      have k0 := away p 0 _ m1.1 y0
                      have k1 := away p 1 _ m1.1 y1
                      have k3 := away g _ _ m1.2 r2
                      have KK := Lib.hid (And.intro k0 (And.intro k1 k3))
                      have M1 := Lib.hid m1
                      clear away k0 k1 k3 m1 hsn
                      go_wp2
                      go_region_held3 (fun w' => w'.cell? ⟨p, 0, none⟩ = some (.slice (some ⟨g2, 0, none⟩) d.sector.length cap2) ∧ w'.cell? ⟨p, 1, none⟩ = some (.slice (some ⟨g, 0, none⟩) d.row.length cap) ∧ w'.cell? ⟨g, q * 2 + 1, none⟩ = some (.string d.row[q].2)) (first | (go_keep; done) | exact KK.out) (fail)
                      go_wp2
                      go_roundw
                      case rel =>
                        refine ⟨q + 1, c - 1, by omega, by go_num, by rw [show ((c - 1 : Nat) : Int) = (c : Int) - 1 from by omega], by omega, ⟨qb.setOther M1.out.1 _, ?_, ?_, (qT.setCell (p := ⟨g2, j, none⟩) (.inl (by simp [Value.ownBlock])) _).drew, ?_⟩, Lib.hid ?_⟩
                        · rw [HSN.out, RD.put_snoc, List.map_set]
                          exact (qs.stored _ _).1
                        · refine ownsRow_touch (S := [g2]) qr ((Touch.refl [g2] wr).setCell (p := ⟨g2, j, none⟩) (.inl (by simp)) _).drew ?_
                          intro k hk
                          have hk : g = k := by simpa [Value.ownBlock] using hk
                          subst hk
                          simpa using M1.out.2
                        · rw [RD.put_length]; exact RL.out
                        · rw [HSN.out, List.length_append]
                          have := HQ.out
                          simp only [List.length_singleton]
                          omega
                      case measure => simp [intOf]; omega
                    · have e3 : ((d.row[q].1 : Int) == j) = false := by rw [beq_eq_false_iff_ne]; omega
                      rw [if_neg he] at hsn
                      have HSN := Lib.hid hsn
                      clear hsn he
                      go_wp2
                      go_roundw
                      case rel => exact ⟨q + 1, c, by omega, by go_num, rfl, hcK, by rw [HSN.out]; exact ⟨qb, qs, qr, qT, QL.out⟩, Lib.hid (by rw [HSN.out]; exact HQ.out)⟩
                      case measure => simp [intOf]; omega
                  · have e2 : decide (0 < c) = false := decide_eq_false hc0
                    have hkept := RD.put_kept d.row q j KP s (by have := HQ.out; omega)
                    have HKEPT := Lib.hid hkept
                    clear hkept hc0
                    go_wp2
                    go_roundw
                    case rel => exact ⟨j + 1, u + 1, _, by omega, by omega, by go_num, by go_num, ⟨qb, qs, qr, qT, QL.out⟩, Lib.hid (by rw [HKEPT.out]; exact HS2.out.symm)⟩
                    case measure => simp [intOf]; omega
                · obtain rfl : q = d.row.length := by omega
                  have e1 : decide (d.row.length < d.row.length) = false := decide_eq_false (by omega)
                  have hkept := RD.put_kept d.row d.row.length j KP s (by have := HQ.out; have := HM.out; rw [List.take_length] at *; omega)
                  have HKEPT := Lib.hid hkept
                  clear hkept hql
                  go_wp2
                  go_roundw
                  case rel => exact ⟨j + 1, u + 1, _, by omega, by omega, by go_num, by go_num, ⟨qb, qs, qr, qT, QL.out⟩, Lib.hid (by rw [HKEPT.out]; exact HS2.out.symm)⟩
                  case measure => simp [intOf]; omega
            · have dB : decide (0 < z) = false := by simpa using hz0
              have HK : Hid ((0 : Int) = (KP : Int)) := Lib.hid (by rw [← hKP]; unfold RD.keeps; rw [if_neg hn0, hgd, if_neg hz0]; rfl)
              clear hKP hn0 hgd hzz hpc hpk
              go_wp2_with fail
              refine CC.out.mono ?_
              rintro _ _ ⟨rfl, rfl⟩
              go_wp2
              clear dA
              obtain ⟨wo, rfl⟩ : ∃ wo : World, wo = wr := ⟨_, rfl⟩
              go_loopw [8, 9] (fun r k wr => ∃ (q c : Nat), q ≤ d.row.length ∧ k = .int .i64 q ∧ r = .int .i64 c ∧ c ≤ KP ∧ StartAt w p (.slice A2 d.sector.length cap2) (.slice A d.row.length cap) d (RD.put (RD.writes (d.row.take q) j) j s) wr ∧
                Hid (c + (RD.writes (d.row.take q) j).length = KP)) (fun _ k _ => d.row.length - (intOf k).toNat)
              case atStart => exact ⟨0, KP, by omega, rfl, by rw [HK.out], by omega, ⟨rb, rs, rr, rT, RL.out⟩, Lib.hid (by simp [RD.writes])⟩
              case round =>
                obtain ⟨q, c, hq, rfl, rfl, hcK, HSA2, HQ⟩ := hrel
                obtain ⟨qb, qs, qr, qT, ql⟩ := HSA2
                have y1 : wr.cell? ⟨p, 1, none⟩ = some (.slice A d.row.length cap) := qb.cell 1
                have y0 : wr.cell? ⟨p, 0, none⟩ = some (.slice A2 d.sector.length cap2) := qb.cell 0
                have QL := Lib.hid ql
                clear ql
                by_cases hql : q < d.row.length
                · have e1 : decide (q < d.row.length) = true := decide_eq_true hql
                  by_cases hc0 : 0 < c
                  · have e2 : decide (0 < c) = true := decide_eq_true hc0
                    obtain ⟨g, rfl, _, _, r1, r2⟩ := row_at qr q hql
                    have hsn := RD.writes_snoc (d.row.take q) d.row[q] j
                    rw [← RD.take_snoc d.row q hql] at hsn
                    by_cases he : d.row[q].1 = j
                    · have e3 : ((d.row[q].1 : Int) == j) = true := by rw [beq_iff_eq]; omega
                      rw [if_pos he] at hsn
                      have HSN := Lib.hid hsn
                      have qs' := qs
                      have RL2 := Lib.hid (RL.out)
                      rw [← QL.out] at qs'
                      obtain ⟨g2, rfl, _, hc2, t1⟩ := text_at qs' j (by rw [QL.out]; exact hlt)
                      have f1 := qs.frozenAt j
                      have i1 : (0 : Int) ≤ (q : Int) := by omega
                      have i2 : (q : Int) < (d.row.length : Int) := by omega
                      have i3 : (0 : Int) ≤ (j : Int) := by omega
                      have i4 : (j : Int) < (d.sector.length : Int) := by omega
                      have away : ∀ (b o : Nat) (u : Value), b ≠ g2 → wr.cell? ⟨b, o, none⟩ = some u → (wr.setCell ⟨g2, j, none⟩ (.string d.row[q].2)).cell? ⟨b, o, none⟩ = some u := fun b o u hb hu =>
                        (World.cell?_of_block (w := wr) (heap_setCell_other wr ⟨g2, j, none⟩ b _ hb)).trans hu
                      have m1 : p ≠ g2 ∧ g ≠ g2 := by
                        obtain ⟨n1, n2, n3⟩ := sep3 HN.out
                        exact ⟨fun e => n1 (by rw [e]; rfl), fun e => n3 g2 rfl (by rw [e]; rfl)⟩
                      have k0 := away p 0 _ m1.1 y0
                      have k1 := away p 1 _ m1.1 y1
                      have k3 := away g _ _ m1.2 r2
                      have KK := Lib.hid (And.intro k0 (And.intro k1 k3))
                      have M1 := Lib.hid m1
                      clear away k0 k1 k3 m1 hsn
                      go_wp2
                      go_region_held3 (fun w' => w'.cell? ⟨p, 0, none⟩ = some (.slice (some ⟨g2, 0, none⟩) d.sector.length cap2) ∧ w'.cell? ⟨p, 1, none⟩ = some (.slice (some ⟨g, 0, none⟩) d.row.length cap) ∧ w'.cell? ⟨g, q * 2 + 1, none⟩ = some (.string d.row[q].2)) (first | (go_keep; done) | exact KK.out) (fail)
                      go_wp2
                      go_roundw
                      case rel =>
                        refine ⟨q + 1, c - 1, by omega, by go_num, by rw [show ((c - 1 : Nat) : Int) = (c : Int) - 1 from by omega], by omega, ⟨qb.setOther M1.out.1 _, ?_, ?_, (qT.setCell (p := ⟨g2, j, none⟩) (.inl (by simp [Value.ownBlock])) _).drew, ?_⟩, Lib.hid ?_⟩
                        · rw [HSN.out, RD.put_snoc, List.map_set]
                          exact (qs.stored _ _).1
                        · refine ownsRow_touch (S := [g2]) qr ((Touch.refl [g2] wr).setCell (p := ⟨g2, j, none⟩) (.inl (by simp)) _).drew ?_
                          intro k hk
                          have hk : g = k := by simpa [Value.ownBlock] using hk
                          subst hk
                          simpa using M1.out.2
                        · rw [RD.put_length]; exact RL.out
                        · rw [HSN.out, List.length_append]
                          have := HQ.out
                          simp only [List.length_singleton]
                          omega
                      case measure => simp [intOf]; omega
                    · have e3 : ((d.row[q].1 : Int) == j) = false := by rw [beq_eq_false_iff_ne]; omega
                      rw [if_neg he] at hsn
                      have HSN := Lib.hid hsn
                      clear hsn he
                      go_wp2
                      go_roundw
                      case rel => exact ⟨q + 1, c, by omega, by go_num, rfl, hcK, by rw [HSN.out]; exact ⟨qb, qs, qr, qT, QL.out⟩, Lib.hid (by rw [HSN.out]; exact HQ.out)⟩
                      case measure => simp [intOf]; omega
                  · have e2 : decide (0 < c) = false := decide_eq_false hc0
                    have hkept := RD.put_kept d.row q j KP s (by have := HQ.out; omega)
                    have HKEPT := Lib.hid hkept
                    clear hkept hc0
                    go_wp2
                    go_roundw
                    case rel => exact ⟨j + 1, u + 1, _, by omega, by omega, by go_num, by go_num, ⟨qb, qs, qr, qT, QL.out⟩, Lib.hid (by rw [HKEPT.out]; exact HS2.out.symm)⟩
                    case measure => simp [intOf]; omega
                · obtain rfl : q = d.row.length := by omega
                  have e1 : decide (d.row.length < d.row.length) = false := decide_eq_false (by omega)
                  have hkept := RD.put_kept d.row d.row.length j KP s (by have := HQ.out; have := HM.out; rw [List.take_length] at *; omega)
                  have HKEPT := Lib.hid hkept
                  clear hkept hql
                  go_wp2
                  go_roundw
                  case rel => exact ⟨j + 1, u + 1, _, by omega, by omega, by go_num, by go_num, ⟨qb, qs, qr, qT, QL.out⟩, Lib.hid (by rw [HKEPT.out]; exact HS2.out.symm)⟩
                  case measure => simp [intOf]; omega
      · obtain rfl : j = d.sector.length := by omega
        have y1 := rb.free 1
        have y2 := rb.free 2
        have z1 : wr.cell? ⟨p, 1, none⟩ = some (.slice A d.row.length cap) := rb.cell 1
        have z2 : wr.cell? ⟨p, 2, none⟩ = some (.bool d.off) := rb.cell 2
        have hlt3 := rb.lt
        have HF : Hid (s = RD.started picks d.row d.sector.length 0 0 d.sector) := Lib.hid (by rw [← HST.out, Nat.sub_self]; rfl)
        clear CC
        go_wp2
        go_ret
        rw [HS.out, HE.out]
        obtain ⟨n1, n2, n3⟩ := sep3 HN.out
        refine ⟨rfl, p :: ((Value.slice A2 d.sector.length cap2).ownBlock.toList ++ (none : Option Nat).toList), ⟨.slice A2 d.sector.length cap2, .slice none 0 0, ?_, ?_, World.ownsRow_nil _ _ _ _, rfl, nodup_head n1⟩, ?_, ?_⟩
        · exact (rb.set 1 _).set 2 _
        · show World.ownsRow _ 0 9 1 _ (RD.started picks d.row d.sector.length 0 0 d.sector).length _
          rw [← HF.out, RL.out]
          refine ownsRow_touch (S := [p]) rs (((Touch.refl [p] wr).setCell (p := ⟨p, 1, none⟩) (.inl (by simp)) _).setCell (p := ⟨p, 2, none⟩) (.inl (by simp)) _) ?_
          intro k hk hm
          simp only [List.mem_singleton] at hm
          subst hm
          exact n1 hk
        · refine ((rT.more ?_).setCell (p := ⟨p, 1, none⟩) (.inl (by simp)) _).setCell (p := ⟨p, 2, none⟩) (.inl (by simp)) _
          intro k hk
          exact mem3.2 (.inr (.inl (by simpa using hk)))
        · intro k hk
          rcases (mem3 (b := none)).1 hk with hk | hk | hk
          · exact .inl (mem3.2 (.inl hk))
          · exact .inl (mem3.2 (.inr (.inl hk)))
          · cases hk
end Go.Proofs.Ytbjiliodelndcaa
