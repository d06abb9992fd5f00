/-
  The chapter's example (rollbooklaw04.awake), of any functions that answer as the list says: it returns true. No conditions but those typed.
-/
import Derived.Test.YtnhnfabgofncaaaPageNewest
namespace Go.Proofs.Ytnhnfabgofncaaa
open Go.RowKit
theorem awake_head (s : List UInt8) : (Page.withSum ⟨1, 3, 7, [120]⟩ s).take 10 = [82, 66, 1, 0, 0, 1, 0, 0, 0, 3] := by
  unfold Page.withSum
  have e1 : beB 1 1 0 = [1] := by decide
  have e2 : beB 1 2 0 = [0, 1] := by decide
  have e3 : beB 3 4 0 = [0, 0, 0, 3] := by decide
  simp only [e1, e2, e3, List.length_cons, List.length_nil]
  simp
theorem pawake_ok (K : PageKit 11 9 13 21 17 18 23) (w : World) : Calls Try.prog 8 #[] w fun e w' => e = .returned (.bool true) ∧ Below w.heap.size w w' := by
  have hr : (⟨1, 3, 7, ba [120]⟩ : PV).right = true := by rw [PV.right_iff, ba_size]; simp only [List.length_cons, List.length_nil]; omega
  have PC := K.pack w ⟨1, 3, 7, ba [120]⟩ (by rw [ba_size]; simp)
  have hE : (⟨1, 3, 7, ba [120]⟩ : PV).packE = 0 := by unfold PV.packE; rw [hr]; rfl
  have hS : (⟨1, 3, 7, ba [120]⟩ : PV).packS = ba (Page.packed ⟨1, 3, 7, [120]⟩) := by unfold PV.packS; rw [hr]; unfold PV.pg; rw [data_ba]; rfl
  rw [hE, hS] at PC
  unfold PV.val at PC
  simp only at PC
  have hl := Page.packed_length ⟨1, 3, 7, [120]⟩ (by simp)
  have hd := awake_head (beB (Page.sumOf ⟨1, 3, 7, [120]⟩) 4 0)
  have hd : (Page.packed ⟨1, 3, 7, [120]⟩).take 10 = [82, 66, 1, 0, 0, 1, 0, 0, 0, 3] := hd
  obtain ⟨L, hL⟩ : ∃ L, Page.packed ⟨1, 3, 7, [120]⟩ = L := ⟨_, rfl⟩
  rw [hL] at PC hl hd
  have hsz : (ba L).size = 512 := by rw [ba_size, hl]
  have hex : (ba L).extract 0 10 = ⟨#[82, 66, 1, 0, 0, 1, 0, 0, 0, 3]⟩ := by
    have := extract_ba (ba L) 0 10
    rw [data_ba, List.drop_zero, hd] at this
    exact this
  have hsl : ∀ w, (Instr.slice 9 (.string (ba L)) none (some (.int .i64 10)) none).run Try.prog w = .ok (.string ⟨#[82, 66, 1, 0, 0, 1, 0, 0, 0, 3]⟩) w := fun w => by
    have := run_slice_string_h (P := Try.prog) w 9 (ba L) Try.underlying9 .i64 10 (by omega) (by rw [hsz]; omega)
    rw [this, show (10 : Int).toNat = 10 from rfl, hex]
  have PC := Lib.hid PC
  obtain ⟨X, hX⟩ : ∃ X, ba L = X := ⟨_, rfl⟩
  rw [hX] at PC hsz hsl
  have d1 : ((X.size : Int) == 512) = true := by rw [hsz]; rfl
  clear hL hX hl hd hex hE hS hr hsz
  go_enter Try.func8, Try.ntmps8
  go_wp2_with fail
  refine PC.out.mono ?_
  rintro _ w2 ⟨rfl, hb2⟩
  go_wp2
  go_ret
  exact ⟨rfl, hb2⟩
end Go.Proofs.Ytnhnfabgofncaaa
