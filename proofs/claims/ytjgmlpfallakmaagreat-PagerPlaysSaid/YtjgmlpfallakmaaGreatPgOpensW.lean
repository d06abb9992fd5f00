/-
  Of any two sectors a file is opened by the newest meta, or refused (P5.1): the statement's function returns true at every two texts; of any device, page and pager that meet the kits. No conditions but those typed.
-/
import Derived.Test.YtjgmlpfallakmaaGreatPgFmtPure
import Derived.Test.YtjgmlpfallakmaaGreatB4
namespace Go.Proofs.YtjgmlpfallakmaaGreat
open Go.RowKit
abbrev LandUse (At : World → Nat → RD → List Nat → Prop) : Prop := DevUse At 35 47 32 33 34 70
/-- the newest of two metas is told -/
def HasNewest (f : FuncId) : Prop := ∀ (w : World) (a b : ByteArray), a.size ≤ 2000 → b.size ≤ 2000 → Calls Tryz.prog f #[.string a, .string b] w fun e w' => e = .returned (.tuple #[(newestM a b).val, .int .i64 (newestI a b), .int .i64 (newestE a b)]) ∧ Below w.heap.size w w'
/-- a device of 24 sectors, of which two were written -/
def twoW (a b : ByteArray) : RD := (beg0.writeD 0 a).writeD 1 b
theorem twoW_ok (a b : ByteArray) : RD.Ok 12 (twoW a b) := RD.write_ok (RD.write_ok beg0_ok 0 a) 1 b
theorem twoW_full (a b : ByteArray) : (twoW a b).Full := (beg0_full.write 0 a).write 1 b
theorem write_off {d : RD} (h : d.off = false) (hl : d.left = 0) (i : Int) (s : ByteArray) : (d.writeD i s).off = false ∧ (d.writeD i s).left = 0 := by
  unfold RD.writeD
  split
  · split
    · exact ⟨RD.stepped_off h (by omega), RD.stepped_left hl⟩
    · exact ⟨RD.stepped_off h (by omega), RD.stepped_left hl⟩
  · exact ⟨h, hl⟩
theorem twoW_len (a b : ByteArray) : (twoW a b).sector.length = 24 := by
  unfold twoW
  rw [RD.write_length, RD.write_length, beg0_len]
theorem twoW_read (a b : ByteArray) (i : Int) (h : 0 ≤ i ∧ i < 24) : (twoW a b).readE i = 0 := by
  obtain ⟨o1, l1⟩ := write_off (d := beg0) rfl rfl 0 a
  obtain ⟨o2, _⟩ := write_off o1 l1 1 b
  unfold RD.readE
  rw [if_pos (by rw [RD.has_iff, twoW_len]; exact h), if_neg]
  unfold twoW
  rw [o2]
  simp
theorem twoW_opens (a b : ByteArray) : (twoW a b).opens = (decide (newestE ((twoW a b).readS 0) ((twoW a b).readS 1) = 0) && decide ((newestM ((twoW a b).readS 0) ((twoW a b).readS 1)).limit ≤ 6)) ∧ (twoW a b).openE = if (twoW a b).opens then 0 else 4 := by
  have r0 := twoW_read a b 0 (by omega)
  have r1 := twoW_read a b 1 (by omega)
  have hl := twoW_len a b
  constructor
  · unfold RD.opens
    rw [r0, r1, hl]
    simp only [decide_true, Bool.true_and]
    congr 1
    exact decide_eq_decide.2 (by omega)
  · unfold RD.openE
    rw [r0, r1]
    rfl
end Go.Proofs.YtjgmlpfallakmaaGreat
