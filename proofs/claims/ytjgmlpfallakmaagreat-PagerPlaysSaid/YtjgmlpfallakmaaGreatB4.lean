/-
  Plain laws of no statement: results of which the first lies in a variable of several cells. Under any program. No conditions but those typed.
  Contracts of the reference's Noughts and Number (rollbookref04): what each call answers, and that nothing that was in memory before has changed. No conditions but the numbers' ranges.
  Contracts of the reference's Right and RightMeta (rollbookref04). No conditions.
  Plain laws of no statement: the register's numbers in the spelling of a walk (xor, complement, shifts by one). No conditions but the numbers' ranges.
  Contracts of the reference's On and Sum (rollbookref02): what each call answers; memory stays as it is. No conditions but the numbers' ranges.
  Plain laws of no statement: a region that draws its order, whose operations only read and whose callees leave a class of worlds alone: one operation at a time, in the text's order. Under any program. No conditions but those typed.
  Contract of the reference's PackMeta (rollbookref04). No conditions.
  Contract of the reference's With (rollbookref04): a page's bytes with four bytes as sum. No conditions but the numbers' ranges.
  Contract of the reference's Pack (rollbookref04). Condition: a body of at most 2000 bytes.
  Contract of the reference's Unpack (rollbookref04). No conditions.
  Contract of the reference's UnpackMeta (rollbookref04). No conditions.
  Contract of the reference's Newest (rollbookref04). No conditions.
-/
import Derived.WalkKit
import Derived.Laws.ResultCell
import Derived.Test.YtjgmlpfallakmaaGreatB3
import Derived.Lib.Hide
import Derived.Test.YtjgmlpfallakmaaGreatProg
import Derived.KernelRfl
import Derived.Laws.Bits64
import Derived.Deep.QuietTactic
import Derived.Test.YtjgmlpfallakmaaGreatB1
section
namespace Go.Proofs.YtjgmlpfallakmaaGreat
theorem results_cell2 {P : Program} {fn : Func} {p u : Tmp} {ty : TypeId} (h : fn.results = #[.cell p ty, .tmp u]) (tmps : Array Value) (w : World) (g : Nat) (t : TypeId) (cs : Array Value) (fr : Nat × Nat) (d : TypeDesc)
    (hp : tmps.getD p undef = .pointer (some ⟨g, 0, none⟩)) (hg : w.heap[g]? = some (.cells cs t fr)) (hu : P.underlying ty = some d) (hd : (match d with | .struct _ | .array _ _ => true | _ => false) = true) (hi : (P.info? ty).map (·.size) = some cs.size) :
    (results fn tmps).run P w = .ok (.tuple #[.agg cs, tmps.getD u undef]) w := by
  have hp' : tmps[p]?.getD undef = .pointer (some ⟨g, 0, none⟩) := by simpa using hp
  simp [results, h, hp', asAddr, run_loadVar_row w g t ty cs fr d hg hu hd hi]
theorem results_cell1 {P : Program} {fn : Func} {p : Tmp} {ty : TypeId} (h : fn.results = #[.cell p ty]) (tmps : Array Value) (w : World) (g : Nat) (t : TypeId) (cs : Array Value) (fr : Nat × Nat) (d : TypeDesc)
    (hp : tmps.getD p undef = .pointer (some ⟨g, 0, none⟩)) (hg : w.heap[g]? = some (.cells cs t fr)) (hu : P.underlying ty = some d) (hd : (match d with | .struct _ | .array _ _ => true | _ => false) = true) (hi : (P.info? ty).map (·.size) = some cs.size) :
    (results fn tmps).run P w = .ok (.agg cs) w := by
  have hp' : tmps[p]?.getD undef = .pointer (some ⟨g, 0, none⟩) := by simpa using hp
  simp [results, h, hp', asAddr, run_loadVar_row w g t ty cs fr d hg hu hd hi]
theorem results_cell3 {P : Program} {fn : Func} {p u v : Tmp} {ty : TypeId} (h : fn.results = #[.cell p ty, .tmp u, .tmp v]) (tmps : Array Value) (w : World) (g : Nat) (t : TypeId) (cs : Array Value) (fr : Nat × Nat) (d : TypeDesc)
    (hp : tmps.getD p undef = .pointer (some ⟨g, 0, none⟩)) (hg : w.heap[g]? = some (.cells cs t fr)) (hu : P.underlying ty = some d) (hd : (match d with | .struct _ | .array _ _ => true | _ => false) = true) (hi : (P.info? ty).map (·.size) = some cs.size) :
    (results fn tmps).run P w = .ok (.tuple #[.agg cs, tmps.getD u undef, tmps.getD v undef]) w := by
  have hp' : tmps[p]?.getD undef = .pointer (some ⟨g, 0, none⟩) := by simpa using hp
  simp [results, h, hp', asAddr, run_loadVar_row w g t ty cs fr d hg hu hd hi]
end Go.Proofs.YtjgmlpfallakmaaGreat
end
section
namespace Go.Proofs.YtjgmlpfallakmaaGreat
open Go.RowKit
theorem noughts_ok (n : Nat) (hn : n ≤ 1048576) (w : World) : Calls Tryz.prog 53 #[.int .i64 n] w fun e w' => e = .returned (.string ⟨(Page.noughts n).toArray⟩) ∧ Below w.heap.size w w' := by
  go_enter Tryz.func53, Tryz.ntmps53
  go_wp2
  go_loopw [3, 4] (fun b i wr => ∃ k : Nat, k ≤ n ∧ i = .int .i64 k ∧ OwnB wr w.heap.size 5 b (Page.noughts k) ∧ Below w.heap.size w wr) (fun _ i _ => n - (intOf i).toNat)
  case atStart => exact ⟨0, by omega, rfl, OwnB.empty _ _ _ (Nat.le_refl _), (Below.refl _ w).alloc (Nat.le_refl _) _⟩
  case round =>
    obtain ⟨k, hk, rfl, hown, hbel⟩ := hrel
    by_cases h : k < n
    · have d : decide ((k : Int) < (n : Int)) = true := decide_eq_true (by omega)
      have HC1 := Lib.hid (show (Page.noughts k).length + 1 ≤ 140737488355328 by unfold Page.noughts; rw [List.length_replicate]; omega)
      have HS := Lib.hid (show Page.noughts (k + 1) = Page.noughts k ++ [0] by unfold Page.noughts; rw [List.replicate_succ'])
      have hge := hbel.size
      go_wp2_with (at_builtin; refine wpList_append_byte _ rfl (.tmp 11) (.tmp 12) 66 rfl _ 5 Tryz.underlying66 byteInfo _ _ rfl hown 0 0 rfl rfl HC1.out hge ?_; intro v' w1 hown1 hbel1)
      go_roundw
      case rel => exact ⟨k + 1, by omega, by go_num, by rw [HS.out]; exact hown1, hbel.trans hbel1⟩
      case measure => simp [intOf]; omega
    · have d : decide ((k : Int) < (n : Int)) = false := decide_eq_false (by omega)
      obtain rfl : k = n := by omega
      have hc := run_string_B (P := Tryz.prog) wr 66 9 5 Tryz.underlying66 Tryz.underlying5 Tryz.underlying9 _ _ _ hown
      go_wp2
      go_ret
      exact ⟨rfl, hbel⟩
theorem conv_i64_u64 (n : Nat) (h : n < 2 ^ 63) : IntKind.u64.wrap (n : Int) = (n : Int) := by
  simp [IntKind.wrap, IntKind.bits, IntKind.signed]
  omega
theorem number_ok (n k : Nat) (hn : n < 2 ^ (8 * k)) (hn2 : n < 2 ^ 63) (hk : 1 ≤ k) (hk8 : k ≤ 8) (w : World) : Calls Tryz.prog 51 #[.int .i64 n, .int .i64 k] w fun e w' => e = .returned (.string ⟨(beB n k 0).toArray⟩) ∧ Below w.heap.size w w' := by
  have C := fun w => Lib.hid (rput_ok ⟨#[]⟩ n k (by decide) hn hk hk8 w)
  have hv := conv_i64_u64 n hn2
  clear hn hk hk8 hn2
  go_enter Tryz.func51, Tryz.ntmps51
  go_wp2_with fail
  refine (C _).out.mono ?_
  rintro _ w1 ⟨rfl, hb1⟩
  go_wp2
  go_ret
  exact ⟨rfl, hb1⟩
end Go.Proofs.YtjgmlpfallakmaaGreat
end
section
namespace Go.Proofs.YtjgmlpfallakmaaGreat
open Go.RowKit
set_option maxRecDepth 4000 in
set_option maxHeartbeats 800000 in
theorem rright_ok (w : World) (p : PV) : Calls Tryz.prog 83 #[p.val] w fun e w' => e = .returned (.bool p.right) ∧ Below w.heap.size w w' := by
  have hbl : Below w.heap.size w (w.alloc (.cells #[.int .i64 p.kind, .int .i64 p.no, .int .i64 p.txn, .string p.body] 38)) := (Below.refl _ w).alloc (Nat.le_refl _) _
  obtain ⟨kind, no, txn, body⟩ := p
  unfold PV.val
  simp only at hbl ⊢
  by_cases b0 : kind < 1
  · have d0 : decide (kind < 1) = true := decide_eq_true (by omega)
    have HR : Hid (PV.right ⟨kind, no, txn, body⟩ = false) := Lib.hid (by rw [← Bool.not_eq_true, PV.right_iff]; simp only; omega)
    clear b0
    go_enter Tryz.func83, Tryz.ntmps83
    go_wp2
    go_ret
    exact ⟨by rw [HR.out]; rfl, hbl⟩
  · have d0 : decide (kind < 1) = false := decide_eq_false (by omega)
    by_cases b1 : 4 < kind
    · have d1 : decide (4 < kind) = true := decide_eq_true (by omega)
      have HR : Hid (PV.right ⟨kind, no, txn, body⟩ = false) := Lib.hid (by rw [← Bool.not_eq_true, PV.right_iff]; simp only; omega)
      clear b0 b1
      go_enter Tryz.func83, Tryz.ntmps83
      go_wp2
      go_ret
      exact ⟨by rw [HR.out]; rfl, hbl⟩
    · have d1 : decide (4 < kind) = false := decide_eq_false (by omega)
      by_cases b2 : no < 1
      · have d2 : decide (no < 1) = true := decide_eq_true (by omega)
        have HR : Hid (PV.right ⟨kind, no, txn, body⟩ = false) := Lib.hid (by rw [← Bool.not_eq_true, PV.right_iff]; simp only; omega)
        clear b0 b1 b2
        go_enter Tryz.func83, Tryz.ntmps83
        go_wp2
        go_ret
        exact ⟨by rw [HR.out]; rfl, hbl⟩
      · have d2 : decide (no < 1) = false := decide_eq_false (by omega)
        by_cases b3 : 511 < no
        · have d3 : decide (511 < no) = true := decide_eq_true (by omega)
          have HR : Hid (PV.right ⟨kind, no, txn, body⟩ = false) := Lib.hid (by rw [← Bool.not_eq_true, PV.right_iff]; simp only; omega)
          clear b0 b1 b2 b3
          go_enter Tryz.func83, Tryz.ntmps83
          go_wp2
          go_ret
          exact ⟨by rw [HR.out]; rfl, hbl⟩
        · have d3 : decide (511 < no) = false := decide_eq_false (by omega)
          by_cases b4 : txn < 0
          · have d4 : decide (0 ≤ txn) = false := decide_eq_false (by omega)
            have HR : Hid (PV.right ⟨kind, no, txn, body⟩ = false) := Lib.hid (by rw [← Bool.not_eq_true, PV.right_iff]; simp only; omega)
            clear b0 b1 b2 b3 b4
            go_enter Tryz.func83, Tryz.ntmps83
            go_wp2
            go_ret
            exact ⟨by rw [HR.out]; rfl, hbl⟩
          · have d4 : decide (0 ≤ txn) = true := decide_eq_true (by omega)
            by_cases b5 : 1099511627776 < txn
            · have d5 : decide (txn ≤ 1099511627776) = false := decide_eq_false (by omega)
              have HR : Hid (PV.right ⟨kind, no, txn, body⟩ = false) := Lib.hid (by rw [← Bool.not_eq_true, PV.right_iff]; simp only; omega)
              clear b0 b1 b2 b3 b4 b5
              go_enter Tryz.func83, Tryz.ntmps83
              go_wp2
              go_ret
              exact ⟨by rw [HR.out]; rfl, hbl⟩
            · have d5 : decide (txn ≤ 1099511627776) = true := decide_eq_true (by omega)
              by_cases b6 : 488 < body.size
              · have d6 : decide ((body.size : Int) ≤ 488) = false := decide_eq_false (by omega)
                have HR : Hid (PV.right ⟨kind, no, txn, body⟩ = false) := Lib.hid (by rw [← Bool.not_eq_true, PV.right_iff]; simp only; omega)
                clear b0 b1 b2 b3 b4 b5 b6
                go_enter Tryz.func83, Tryz.ntmps83
                go_wp2
                go_ret
                exact ⟨by rw [HR.out]; rfl, hbl⟩
              · have d6 : decide ((body.size : Int) ≤ 488) = true := decide_eq_true (by omega)
                have HR : Hid (PV.right ⟨kind, no, txn, body⟩ = true) := Lib.hid (by rw [PV.right_iff]; simp only; omega)
                clear b0 b1 b2 b3 b4 b5 b6
                go_enter Tryz.func83, Tryz.ntmps83
                go_wp2
                go_ret
                exact ⟨by rw [HR.out]; rfl, hbl⟩
set_option maxRecDepth 4000 in
set_option maxHeartbeats 800000 in
theorem rrightM_ok (w : World) (p : MV) : Calls Tryz.prog 50 #[p.val] w fun e w' => e = .returned (.bool p.right) ∧ Below w.heap.size w w' := by
  have hbl : Below w.heap.size w (w.alloc (.cells #[.int .i64 p.txn, .int .i64 p.root, .int .i64 p.free, .int .i64 p.pages, .int .i64 p.limit] 40)) := (Below.refl _ w).alloc (Nat.le_refl _) _
  obtain ⟨txn, root, free, pages, limit⟩ := p
  unfold MV.val
  simp only at hbl ⊢
  by_cases b0 : txn < 0
  · have d0 : decide (txn < 0) = true := decide_eq_true (by omega)
    have HR : Hid (MV.right ⟨txn, root, free, pages, limit⟩ = false) := Lib.hid (by rw [← Bool.not_eq_true, MV.right_iff]; simp only; omega)
    clear b0
    go_enter Tryz.func50, Tryz.ntmps50
    go_wp2
    go_ret
    exact ⟨by rw [HR.out]; rfl, hbl⟩
  · have d0 : decide (txn < 0) = false := decide_eq_false (by omega)
    by_cases b1 : 1099511627776 < txn
    · have d1 : decide (1099511627776 < txn) = true := decide_eq_true (by omega)
      have HR : Hid (MV.right ⟨txn, root, free, pages, limit⟩ = false) := Lib.hid (by rw [← Bool.not_eq_true, MV.right_iff]; simp only; omega)
      clear b0 b1
      go_enter Tryz.func50, Tryz.ntmps50
      go_wp2
      go_ret
      exact ⟨by rw [HR.out]; rfl, hbl⟩
    · have d1 : decide (1099511627776 < txn) = false := decide_eq_false (by omega)
      by_cases b2 : limit < 2
      · have d2 : decide (limit < 2) = true := decide_eq_true (by omega)
        have HR : Hid (MV.right ⟨txn, root, free, pages, limit⟩ = false) := Lib.hid (by rw [← Bool.not_eq_true, MV.right_iff]; simp only; omega)
        clear b0 b1 b2
        go_enter Tryz.func50, Tryz.ntmps50
        go_wp2
        go_ret
        exact ⟨by rw [HR.out]; rfl, hbl⟩
      · have d2 : decide (limit < 2) = false := decide_eq_false (by omega)
        by_cases b3 : 512 < limit
        · have d3 : decide (512 < limit) = true := decide_eq_true (by omega)
          have HR : Hid (MV.right ⟨txn, root, free, pages, limit⟩ = false) := Lib.hid (by rw [← Bool.not_eq_true, MV.right_iff]; simp only; omega)
          clear b0 b1 b2 b3
          go_enter Tryz.func50, Tryz.ntmps50
          go_wp2
          go_ret
          exact ⟨by rw [HR.out]; rfl, hbl⟩
        · have d3 : decide (512 < limit) = false := decide_eq_false (by omega)
          by_cases b4 : pages < 1
          · have d4 : decide (pages < 1) = true := decide_eq_true (by omega)
            have HR : Hid (MV.right ⟨txn, root, free, pages, limit⟩ = false) := Lib.hid (by rw [← Bool.not_eq_true, MV.right_iff]; simp only; omega)
            clear b0 b1 b2 b3 b4
            go_enter Tryz.func50, Tryz.ntmps50
            go_wp2
            go_ret
            exact ⟨by rw [HR.out]; rfl, hbl⟩
          · have d4 : decide (pages < 1) = false := decide_eq_false (by omega)
            by_cases b5 : limit < pages
            · have d5 : decide (limit < pages) = true := decide_eq_true (by omega)
              have HR : Hid (MV.right ⟨txn, root, free, pages, limit⟩ = false) := Lib.hid (by rw [← Bool.not_eq_true, MV.right_iff]; simp only; omega)
              clear b0 b1 b2 b3 b4 b5
              go_enter Tryz.func50, Tryz.ntmps50
              go_wp2
              go_ret
              exact ⟨by rw [HR.out]; rfl, hbl⟩
            · have d5 : decide (limit < pages) = false := decide_eq_false (by omega)
              by_cases b6 : root < 0
              · have d6 : decide (0 ≤ root) = false := decide_eq_false (by omega)
                have HR : Hid (MV.right ⟨txn, root, free, pages, limit⟩ = false) := Lib.hid (by rw [← Bool.not_eq_true, MV.right_iff]; simp only; omega)
                clear b0 b1 b2 b3 b4 b5 b6
                go_enter Tryz.func50, Tryz.ntmps50
                go_wp2
                go_ret
                exact ⟨by rw [HR.out]; rfl, hbl⟩
              · have d6 : decide (0 ≤ root) = true := decide_eq_true (by omega)
                by_cases b7 : pages ≤ root
                · have d7 : decide (root < pages) = false := decide_eq_false (by omega)
                  have HR : Hid (MV.right ⟨txn, root, free, pages, limit⟩ = false) := Lib.hid (by rw [← Bool.not_eq_true, MV.right_iff]; simp only; omega)
                  clear b0 b1 b2 b3 b4 b5 b6 b7
                  go_enter Tryz.func50, Tryz.ntmps50
                  go_wp2
                  go_ret
                  exact ⟨by rw [HR.out]; rfl, hbl⟩
                · have d7 : decide (root < pages) = true := decide_eq_true (by omega)
                  by_cases b8 : free < 0
                  · have d8 : decide (0 ≤ free) = false := decide_eq_false (by omega)
                    have HR : Hid (MV.right ⟨txn, root, free, pages, limit⟩ = false) := Lib.hid (by rw [← Bool.not_eq_true, MV.right_iff]; simp only; omega)
                    clear b0 b1 b2 b3 b4 b5 b6 b7 b8
                    go_enter Tryz.func50, Tryz.ntmps50
                    go_wp2
                    go_ret
                    exact ⟨by rw [HR.out]; rfl, hbl⟩
                  · have d8 : decide (0 ≤ free) = true := decide_eq_true (by omega)
                    by_cases b9 : pages ≤ free
                    · have d9 : decide (free < pages) = false := decide_eq_false (by omega)
                      have HR : Hid (MV.right ⟨txn, root, free, pages, limit⟩ = false) := Lib.hid (by rw [← Bool.not_eq_true, MV.right_iff]; simp only; omega)
                      clear b0 b1 b2 b3 b4 b5 b6 b7 b8 b9
                      go_enter Tryz.func50, Tryz.ntmps50
                      go_wp2
                      go_ret
                      exact ⟨by rw [HR.out]; rfl, hbl⟩
                    · have d9 : decide (free < pages) = true := decide_eq_true (by omega)
                      have HR : Hid (MV.right ⟨txn, root, free, pages, limit⟩ = true) := Lib.hid (by rw [MV.right_iff]; simp only; omega)
                      clear b0 b1 b2 b3 b4 b5 b6 b7 b8 b9
                      go_enter Tryz.func50, Tryz.ntmps50
                      go_wp2
                      go_ret
                      exact ⟨by rw [HR.out]; rfl, hbl⟩
end Go.Proofs.YtjgmlpfallakmaaGreat
end
section
namespace Go.Proofs.YtjgmlpfallakmaaGreat
open Go.RowKit
theorem wrap_u32n (n : Int) : IntKind.u32.wrap n = n % 4294967296 := by simp [IntKind.wrap, IntKind.bits, IntKind.signed]
theorem bits_xor_u32_nat (a b : Nat) (ha : a < 4294967296) (hb : b < 4294967296) : bits .xor .u32 (a : Int) (b : Int) = ((a ^^^ b : Nat) : Int) := by
  have hx : a ^^^ b < 2 ^ 32 := Nat.xor_lt_two_pow (by omega) (by omega)
  have h1 : (BitVec.ofInt 32 (a : Int)).toNat = a := by
    rw [BitVec.ofInt_natCast, BitVec.toNat_ofNat]; exact Nat.mod_eq_of_lt (by omega)
  have h2 : (BitVec.ofInt 32 (b : Int)).toNat = b := by
    rw [BitVec.ofInt_natCast, BitVec.toNat_ofNat]; exact Nat.mod_eq_of_lt (by omega)
  show IntKind.u32.wrap ((BitVec.ofInt 32 (a : Int) ^^^ BitVec.ofInt 32 (b : Int)).toNat : Int) = _
  rw [BitVec.toNat_xor, h1, h2, wrap_u32n]
  omega
theorem steps_snoc (k r : Nat) : Crc.steps (k + 1) r = Crc.step (Crc.steps k r) := by
  rw [Crc.steps_add]; rfl
theorem conv_u8_u32 (b : UInt8) : IntKind.u32.wrap (b.toNat : Int) = (b.toNat : Int) := by
  have := b.toNat_lt
  rw [wrap_u32n]; omega
theorem bits_not_u32 (x : Nat) (h : x < 4294967296) : bits .xor .u32 IntKind.u32.max (x : Int) = ((4294967295 - x : Nat) : Int) := by
  have e : IntKind.u32.max = ((4294967295 : Nat) : Int) := by decide
  rw [e, bits_xor_u32_nat _ _ (by omega) h]
  have h2 : (4294967295 : Nat) ^^^ x = 4294967295 - x := by
    have := congrArg BitVec.toNat (BitVec.allOnes_xor (x := BitVec.ofNat 32 x))
    rw [BitVec.toNat_xor, BitVec.toNat_not, BitVec.toNat_allOnes, BitVec.toNat_ofNat, Nat.mod_eq_of_lt (by omega)] at this
    simpa using this
  rw [h2]
theorem reg_take (r : Nat) (s : ByteArray) (k : Nat) (h : k < s.size) : Crc.reg r (s.data.toList.take (k + 1)) = Crc.byte (Crc.reg r (s.data.toList.take k)) s[k] := by
  rw [List.take_succ_eq_append_getElem (by simpa using h), Crc.reg_append]
  rfl
theorem sub_u32 (x : Nat) (h : x < 4294967296) : (4294967295 : Int) - (x : Int) = ((4294967295 - x : Nat) : Int) := by
  omega
theorem step_xor_form (x : Nat) (h : x % 2 = 1) (hx : x < 4294967296) : bits .xor .u32 ((x : Int) / 2) 3988292384 = ((Crc.step x : Nat) : Int) := by
  have := bits_xor_u32_nat (x / 2) 3988292384 (by omega) (by omega)
  unfold Crc.step
  rw [if_pos h, ← this]
  rfl
theorem conv_u8_mod (b : UInt8) : (b.toNat : Int) % 4294967296 = (b.toNat : Int) := by
  have := b.toNat_lt
  omega
theorem awake_sum : Crc.on 0 [49, 50, 51, 52, 53, 54, 55, 56, 57] = 3421780262 := by decide +kernel
end Go.Proofs.YtjgmlpfallakmaaGreat
end
section
namespace Go.Proofs.YtjgmlpfallakmaaGreat
open Go.RowKit
theorem ron_ok (c : Nat) (hc : c < 4294967296) (s : ByteArray) (hs : s.size ≤ 9223372036854775807) (w : World) : Calls Tryz.prog 75 #[.int .u32 c, .string s] w fun e w' => e = .returned (.int .u32 (Crc.on c s.data.toList)) ∧ w = w' := by
  have HN := Lib.hid (sub_u32 c hc)
  have HL := Lib.hid (fun l => Crc.reg_lt l (4294967295 - c) (by omega))
  go_enter Tryz.func75, Tryz.ntmps75
  go_wp2
  go_loop [5, 6] (fun v i => ∃ k : Nat, k ≤ s.size ∧ i = .int .i64 k ∧ v = .int .u32 (Crc.reg (4294967295 - c) (s.data.toList.take k))) (fun _ i => s.size - (intOf i).toNat)
  case atStart =>
    refine ⟨0, by omega, rfl, ?_⟩
    rw [HN.out]; rfl
  case round =>
    obtain ⟨k, hk, rfl, rfl⟩ := hrel
    have hlt := HL.out (s.data.toList.take k)
    by_cases h8 : k < s.size
    · have HS := Lib.hid (reg_take (4294967295 - c) s k h8)
      have hx : Crc.reg (4294967295 - c) (s.data.toList.take k) ^^^ s[k].toNat < 2 ^ 32 := Nat.xor_lt_two_pow (by omega) (by have := s[k].toNat_lt; omega)
      have HX := Lib.hid (bits_xor_u32_nat (Crc.reg (4294967295 - c) (s.data.toList.take k)) s[k].toNat (by omega) (by have := s[k].toNat_lt; omega))
      have HC := Lib.hid (conv_u8_mod s[k])
      have HR := Lib.hid (fun j => Crc.steps_lt j (Crc.reg (4294967295 - c) (s.data.toList.take k) ^^^ s[k].toNat) hx)
      clear hx hlt
      go_wp2
      go_loop [5, 7] (fun v i => ∃ j : Nat, j ≤ 8 ∧ i = .int .i64 j ∧ v = .int .u32 (Crc.steps j (Crc.reg (4294967295 - c) (s.data.toList.take k) ^^^ s[k].toNat))) (fun _ i => 8 - (intOf i).toNat)
      case atStart =>
        refine ⟨0, by omega, rfl, ?_⟩
        first | (rw [HC.out, HX.out]; rfl) | (rw [HX.out]; rfl)
      case round =>
        obtain ⟨j, hj, rfl, rfl⟩ := hrel
        have hjl := HR.out j
        by_cases h9 : j < 8
        · have HT := Lib.hid (steps_snoc j (Crc.reg (4294967295 - c) (s.data.toList.take k) ^^^ s[k].toNat))
          obtain ⟨X, hX⟩ : ∃ X, Crc.steps j (Crc.reg (4294967295 - c) (s.data.toList.take k) ^^^ s[k].toNat) = X := ⟨_, rfl⟩
          rw [hX] at hjl HT ⊢
          by_cases ho : X % 2 = 1
          · have d : ((X : Int) % 2 == 1) = true := by rw [beq_iff_eq]; omega
            have HF := Lib.hid (step_xor_form X ho (by omega))
            clear hX ho
            go_wp2
            go_round
            case rel => exact ⟨j + 1, by omega, by go_num, by rw [HT.out, HF.out]⟩
            case measure => simp [intOf]; omega
          · have d : ((X : Int) % 2 == 1) = false := by rw [beq_eq_false_iff_ne]; omega
            have HF := Lib.hid (show Crc.step X = X / 2 by unfold Crc.step; rw [if_neg ho])
            clear hX ho
            go_wp2
            go_round
            case rel => exact ⟨j + 1, by omega, by go_num, by rw [HT.out, HF.out]; rfl⟩
            case measure => simp [intOf]; omega
        · obtain rfl : j = 8 := by omega
          go_wp2
          go_round
          case rel => exact ⟨k + 1, by omega, by go_num, by rw [HS.out]; rfl⟩
          case measure => simp [intOf]; omega
    · obtain rfl : k = s.size := by omega
      have HE := Lib.hid (sub_u32 _ hlt)
      go_wp2
      go_ret
      refine ⟨?_, rfl⟩
      rw [HE.out, List.take_of_length_le (by simp)]
      rfl
theorem rsum_ok (s : ByteArray) (hs : s.size ≤ 9223372036854775807) (w : World) : Calls Tryz.prog 52 #[.string s] w fun e w' => e = .returned (.int .u32 (Crc.on 0 s.data.toList)) ∧ w = w' := by
  go_enter Tryz.func52, Tryz.ntmps52
  go_wp2_with (go_at_call 75; refine (ron_ok 0 (by omega) s hs _).mono ?_; rintro e w' ⟨rfl, rfl⟩)
  go_ret
  exact ⟨rfl, rfl⟩
end Go.Proofs.YtjgmlpfallakmaaGreat
end
section
namespace Go.Proofs.YtjgmlpfallakmaaGreat
theorem region_q {P : Program} {C : World → Prop} {id : Nat} {Q : Exit → Act → World → Prop} {a : Act} {w : World} {l : List Oper} (hm : P.follows .mixedOrders = true) (hB : Region.lexB .any l.toArray = true) (hC : C w.drew)
    (h : wpQuiet P l.toArray C (fun a' => ∀ w', C w' → Q .normal a' w') l a) : (Code.region id l.toArray true).wp P Q a w := wp_region_quiet (C := C) hm hB hC (by simpa using h)
section
variable {P : Program} {ops : Array Oper} {C : World → Prop} {Q : Act → Prop} {o : Oper} {rest : List Oper} {a : Act}
theorem q_op (v : Value) (hgd : o.guard = none) (hr : ∀ w, C w → (execOp a.eval o).run P w = .ok (.value v) w) (h : wpQuiet P ops C Q rest (a.put o.dst v)) : wpQuiet P ops C Q (o :: rest) a := by
  unfold wpQuiet
  rw [if_pos (by simp [Region.wanted, hgd])]
  exact ⟨v, fun w hw => by unfold Oper.quietAt; rw [hr w hw]; exact ⟨rfl, rfl⟩, h⟩
theorem func_enters {f : FuncId} {fn : Func} {c : Code} (hf : P.funcs[f]? = some fn) (hname : (fn.name == "runtime.NumGoroutine") = false) (hb : fn.body = some c) (args : Array Value) (w : World) : (callFunc f args).run P w = .ok (.enter f args) w := by
  have h1 : fn.name ≠ "runtime.NumGoroutine" := by simpa using hname
  simp [callFunc, hf, h1, hb, mark]
theorem q_call1 (v : Value) (hgd : o.guard = none) (f : FuncId) (x : Operand) (ts : Array TypeId) (ho : o.op = .call { callee := .value (.func f), args := #[x], argTypes := ts }) (u : Value) (hx : a.eval x = u)
    (hE : ∀ args w, (callFunc f args).run P w = .ok (.enter f args) w) (hc : ∀ w, C w → Calls P f #[u] w fun e w' => e = .returned v ∧ C w') (h : wpQuiet P ops C Q rest (a.put o.dst v)) : wpQuiet P ops C Q (o :: rest) a := by
  unfold wpQuiet
  rw [if_pos (by simp [Region.wanted, hgd])]
  refine ⟨v, fun w hw => ?_, h⟩
  have hf : a.eval (.func f) = .func (.func f) #[] #[] := rfl
  have hr : (execOp a.eval o).run P w = .ok (.enter f #[u]) w := by
    unfold execOp
    simp only [ho, resolve, List.map_toArray, List.map_cons, List.map_nil, hx, hf]
    simp [Deferred.ofValue, invoke, hE]
  unfold Oper.quietAt
  rw [hr]
  exact ⟨rfl, hc w hw⟩
theorem q_call2 (v : Value) (hgd : o.guard = none) (f : FuncId) (x y : Operand) (ts : Array TypeId) (ho : o.op = .call { callee := .value (.func f), args := #[x, y], argTypes := ts }) (u s : Value) (hx : a.eval x = u) (hy : a.eval y = s)
    (hE : ∀ args w, (callFunc f args).run P w = .ok (.enter f args) w) (hc : ∀ w, C w → Calls P f #[u, s] w fun e w' => e = .returned v ∧ C w') (h : wpQuiet P ops C Q rest (a.put o.dst v)) : wpQuiet P ops C Q (o :: rest) a := by
  unfold wpQuiet
  rw [if_pos (by simp [Region.wanted, hgd])]
  refine ⟨v, fun w hw => ?_, h⟩
  have hf : a.eval (.func f) = .func (.func f) #[] #[] := rfl
  have hr : (execOp a.eval o).run P w = .ok (.enter f #[u, s]) w := by
    unfold execOp
    simp only [ho, resolve, List.map_toArray, List.map_cons, List.map_nil, hx, hy, hf]
    simp [Deferred.ofValue, invoke, hE]
  unfold Oper.quietAt
  rw [hr]
  exact ⟨rfl, hc w hw⟩
/-- a guarded operation that is wanted -/
theorem q_opw (v : Value) (hw : Region.wanted o (yielded ops a.tmps) = true) (hr : ∀ w, C w → (execOp a.eval o).run P w = .ok (.value v) w) (h : wpQuiet P ops C Q rest (a.put o.dst v)) : wpQuiet P ops C Q (o :: rest) a := by
  unfold wpQuiet
  rw [if_pos hw]
  exact ⟨v, fun w hw => by unfold Oper.quietAt; rw [hr w hw]; exact ⟨rfl, rfl⟩, h⟩
theorem q_call1w (v : Value) (hw : Region.wanted o (yielded ops a.tmps) = true) (f : FuncId) (x : Operand) (ts : Array TypeId) (ho : o.op = .call { callee := .value (.func f), args := #[x], argTypes := ts }) (u : Value) (hx : a.eval x = u)
    (hE : ∀ args w, (callFunc f args).run P w = .ok (.enter f args) w) (hc : ∀ w, C w → Calls P f #[u] w fun e w' => e = .returned v ∧ C w') (h : wpQuiet P ops C Q rest (a.put o.dst v)) : wpQuiet P ops C Q (o :: rest) a := by
  unfold wpQuiet
  rw [if_pos hw]
  refine ⟨v, fun w hw => ?_, h⟩
  have hf : a.eval (.func f) = .func (.func f) #[] #[] := rfl
  have hr : (execOp a.eval o).run P w = .ok (.enter f #[u]) w := by
    unfold execOp
    simp only [ho, resolve, List.map_toArray, List.map_cons, List.map_nil, hx, hf]
    simp [Deferred.ofValue, invoke, hE]
  unfold Oper.quietAt
  rw [hr]
  exact ⟨rfl, hc w hw⟩
/-- a guarded operation that is not wanted -/
theorem q_skip (hw : Region.wanted o (yielded ops a.tmps) = false) (h : wpQuiet P ops C Q rest (a.put o.dst undef)) : wpQuiet P ops C Q (o :: rest) a := by
  unfold wpQuiet
  rw [if_neg (by rw [hw]; simp)]
  exact h
/-- 's + t' on texts -/
theorem q_add (hgd : o.guard = none) (t : TypeId) (x y : Operand) (ho : o.op = .binOp .add t x y t) (s u : ByteArray) (hx : a.eval x = .string s) (hy : a.eval y = .string u)
    (hn : s.size + u.size ≤ 9223372036854775807) (h : wpQuiet P ops C Q rest (a.put o.dst (.string (s ++ u)))) : wpQuiet P ops C Q (o :: rest) a := by
  refine q_op _ hgd (fun w _ => ?_) h
  unfold execOp
  simp only [ho, hx, hy]
  have hg : (eqGuard .add t x y (.string s) (.string u)).run P w = .ok () w := by simp [eqGuard]
  have hb : (binOp .add t (.string s) (.string u)).run P w = .ok (.string (s ++ u)) w := run_string_add_sum _ _ _ hn
  simp [hg, hb, Result.andThen]
end
/-! The same under a cover: what is left of the region is not laid open by what looks at a goal's type (regions with many guarded operations that are not wanted). -/
structure Cov (p : Prop) : Prop where
  out : p
theorem region_qh {P : Program} {C : World → Prop} {id : Nat} {Q : Exit → Act → World → Prop} {a : Act} {w : World} {l : List Oper} (hm : P.follows .mixedOrders = true) (hB : Region.lexB .any l.toArray = true) (hC : C w.drew)
    (h : Cov (wpQuiet P l.toArray C (fun a' => ∀ w', C w' → Q .normal a' w') l a)) : (Code.region id l.toArray true).wp P Q a w := region_q hm hB hC h.out
section
variable {P : Program} {ops : Array Oper} {C : World → Prop} {Q : Act → Prop} {o : Oper} {rest : List Oper} {a : Act}
theorem qh_nil (h : Cov (Q a)) : Cov (wpQuiet P ops C Q [] a) := Cov.mk (wpQuiet_nil h.out)
theorem qh_op (v : Value) (hgd : o.guard = none) (hr : ∀ w, C w → (execOp a.eval o).run P w = .ok (.value v) w) (h : Cov (wpQuiet P ops C Q rest (a.put o.dst v))) : Cov (wpQuiet P ops C Q (o :: rest) a) := Cov.mk (q_op v hgd hr h.out)
theorem qh_opw (v : Value) (hw : Region.wanted o (yielded ops a.tmps) = true) (hr : ∀ w, C w → (execOp a.eval o).run P w = .ok (.value v) w) (h : Cov (wpQuiet P ops C Q rest (a.put o.dst v))) : Cov (wpQuiet P ops C Q (o :: rest) a) := Cov.mk (q_opw v hw hr h.out)
theorem qh_skip (hw : Region.wanted o (yielded ops a.tmps) = false) (h : Cov (wpQuiet P ops C Q rest (a.put o.dst undef))) : Cov (wpQuiet P ops C Q (o :: rest) a) := Cov.mk (q_skip hw h.out)
theorem qh_call1 (v : Value) (hgd : o.guard = none) (f : FuncId) (x : Operand) (ts : Array TypeId) (ho : o.op = .call { callee := .value (.func f), args := #[x], argTypes := ts }) (u : Value) (hx : a.eval x = u)
    (hE : ∀ args w, (callFunc f args).run P w = .ok (.enter f args) w) (hc : ∀ w, C w → Calls P f #[u] w fun e w' => e = .returned v ∧ C w') (h : Cov (wpQuiet P ops C Q rest (a.put o.dst v))) : Cov (wpQuiet P ops C Q (o :: rest) a) := Cov.mk (q_call1 v hgd f x ts ho u hx hE hc h.out)
theorem qh_call1w (v : Value) (hw : Region.wanted o (yielded ops a.tmps) = true) (f : FuncId) (x : Operand) (ts : Array TypeId) (ho : o.op = .call { callee := .value (.func f), args := #[x], argTypes := ts }) (u : Value) (hx : a.eval x = u)
    (hE : ∀ args w, (callFunc f args).run P w = .ok (.enter f args) w) (hc : ∀ w, C w → Calls P f #[u] w fun e w' => e = .returned v ∧ C w') (h : Cov (wpQuiet P ops C Q rest (a.put o.dst v))) : Cov (wpQuiet P ops C Q (o :: rest) a) := Cov.mk (q_call1w v hw f x ts ho u hx hE hc h.out)
end
end Go.Proofs.YtjgmlpfallakmaaGreat
end
section
namespace Go.Proofs.YtjgmlpfallakmaaGreat
open Go.RowKit
theorem head_bytes (m : Page.ME) : ba (Page.headM m) = ba [82, 79, 76, 76, 66, 79, 79, 75] ++ ba (beB m.txn 8 0) ++ ba (beB m.root 4 0) ++ ba (beB m.free 4 0) ++ ba (beB m.pages 4 0) ++ ba (beB m.limit 4 0) := by
  simp only [ba_append]
  congr 1
set_option maxRecDepth 4000 in
set_option maxHeartbeats 1600000 in
theorem rpackM_ok (w : World) (m : MV) : Calls Tryz.prog 21 #[m.val] w fun e w' => e = .returned (.tuple #[.string m.packS, .int .i64 m.packE]) ∧ Below w.heap.size w w' := by
  have RR := fun w => Lib.hid (rrightM_ok w m)
  have hbl : Below w.heap.size w (w.alloc (.cells #[.int .i64 m.txn, .int .i64 m.root, .int .i64 m.free, .int .i64 m.pages, .int .i64 m.limit] 40)) := (Below.refl _ w).alloc (Nat.le_refl _) _
  cases hr : m.right
  · have HP : Hid (m.packS = ⟨#[]⟩ ∧ m.packE = 4) := Lib.hid (by unfold MV.packS MV.packE; rw [hr]; exact ⟨rfl, rfl⟩)
    simp only [hr] at RR
    clear hr
    obtain ⟨txn, root, free, pages, limit⟩ := m
    unfold MV.val at RR ⊢
    simp only at RR hbl ⊢
    go_enter Tryz.func21, Tryz.ntmps21
    go_wp2_with (go_at_call 50; refine (RR _).out.mono ?_; rintro _ w2 ⟨rfl, hb2⟩)
    go_ret2
    exact ⟨by rw [HP.out.1, HP.out.2]; rfl, hbl.trans (hb2.mono hbl.size)⟩
  · have hri := (MV.right_iff m).1 hr
    have HP : Hid (m.packS = ba (Page.headM m.me ++ (beB (Crc.on 0 (Page.headM m.me)) 4 0 ++ Page.noughts 92)) ∧ m.packE = 0) := Lib.hid (by unfold MV.packS MV.packE; rw [hr]; exact ⟨rfl, rfl⟩)
    simp only [hr] at RR
    clear hr
    obtain ⟨txn, root, free, pages, limit⟩ := m
    unfold MV.val at RR ⊢
    simp only at RR hbl hri ⊢
    obtain ⟨h1, h2, h3, h4, h5, h6, h7, h8, h9, h10⟩ := hri
    obtain ⟨txn, rfl⟩ := Int.eq_ofNat_of_zero_le (show 0 ≤ txn by omega)
    obtain ⟨root, rfl⟩ := Int.eq_ofNat_of_zero_le (show 0 ≤ root by omega)
    obtain ⟨free, rfl⟩ := Int.eq_ofNat_of_zero_le (show 0 ≤ free by omega)
    obtain ⟨pages, rfl⟩ := Int.eq_ofNat_of_zero_le (show 0 ≤ pages by omega)
    obtain ⟨limit, rfl⟩ := Int.eq_ofNat_of_zero_le (show 0 ≤ limit by omega)
    unfold MV.me at HP
    simp only [Int.toNat_natCast] at HP
    have HH := Lib.hid (head_bytes ⟨txn, root, free, pages, limit⟩)
    simp only at HH
    have hhl := Page.headM_length ⟨txn, root, free, pages, limit⟩
    obtain ⟨H, hH⟩ : ∃ H, Page.headM ⟨txn, root, free, pages, limit⟩ = H := ⟨_, rfl⟩
    rw [hH] at HP HH hhl
    have E30 := func_enters Tryz.func51 (by kernel_rfl) rfl
    obtain ⟨w1, hw1⟩ : ∃ w1, w.alloc (.cells #[.int .i64 txn, .int .i64 root, .int .i64 free, .int .i64 pages, .int .i64 limit] 40) = w1 := ⟨_, rfl⟩
    rw [hw1] at hbl
    have hsz : w1.heap.size = w.heap.size + 1 := by rw [← hw1]; simp
    have hnew : w1.heap[w.heap.size]? = some (.cells #[.int .i64 txn, .int .i64 root, .int .i64 free, .int .i64 pages, .int .i64 limit] 40 (0, 0)) := by rw [← hw1]; exact heap_alloc_new w _
    have cell : ∀ wS, Below w1.heap.size w1 wS → ∀ i, wS.cell? ⟨w.heap.size, i, none⟩ = (#[.int .i64 txn, .int .i64 root, .int .i64 free, .int .i64 pages, .int .i64 limit] : Array Value)[i]? := fun wS h i => by
      rw [cell_of_row wS w.heap.size i _ 40 (0, 0) ((h.block _ (by omega)).trans hnew)]
    have K0 : ∀ wS, Below w1.heap.size w1 wS → wS.cell? ⟨w.heap.size, 0, none⟩ = some (.int .i64 txn) := fun wS h => cell wS h 0
    have K1 : ∀ wS, Below w1.heap.size w1 wS → wS.cell? ⟨w.heap.size, 1, none⟩ = some (.int .i64 root) := fun wS h => cell wS h 1
    have K2 : ∀ wS, Below w1.heap.size w1 wS → wS.cell? ⟨w.heap.size, 2, none⟩ = some (.int .i64 free) := fun wS h => cell wS h 2
    have K3 : ∀ wS, Below w1.heap.size w1 wS → wS.cell? ⟨w.heap.size, 3, none⟩ = some (.int .i64 pages) := fun wS h => cell wS h 3
    have K4 : ∀ wS, Below w1.heap.size w1 wS → wS.cell? ⟨w.heap.size, 4, none⟩ = some (.int .i64 limit) := fun wS h => cell wS h 4
    have c0 := K0 w1 (Below.refl _ _)
    have c1 := K1 w1 (Below.refl _ _)
    have c2 := K2 w1 (Below.refl _ _)
    have c3 := K3 w1 (Below.refl _ _)
    have c4 := K4 w1 (Below.refl _ _)
    have num : ∀ n k : Nat, n < 2 ^ (8 * k) → n < 2 ^ 63 → 1 ≤ k → k ≤ 8 → Hid (∀ wS, Below w1.heap.size w1 wS → Calls Tryz.prog 51 #[.int .i64 n, .int .i64 k] wS fun e w' => e = .returned (.string (ba (beB n k 0))) ∧ Below w1.heap.size w1 w') := fun n k h1 h2 h3 h4 =>
      Lib.hid (fun wS hS => (number_ok n k h1 h2 h3 h4 wS).mono fun _ _ ⟨e, hb⟩ => ⟨e, hS.trans (hb.mono hS.size)⟩)
    obtain ⟨n, hn⟩ : ∃ n : Nat, Crc.on 0 H = n := ⟨_, rfl⟩
    have hn32 : n < 2 ^ 32 := by rw [← hn]; exact Page.on_lt _ _
    rw [hn] at HP
    have SC : Hid (∀ wS, Calls Tryz.prog 52 #[.string (ba H)] wS fun e w' => e = .returned (.int .u32 n) ∧ wS = w') :=
      Lib.hid (fun wS => (rsum_ok (ba H) (by rw [ba_size, hhl]; omega) wS).mono fun _ _ ⟨e, hb⟩ => ⟨by rw [e, data_ba, hn], hb⟩)
    have NC := Lib.hid (fun wS => number_ok n 4 (by omega) (by omega) (by omega) (by omega) wS)
    have ZC := Lib.hid (fun wS => noughts_ok 92 (by omega) wS)
    have HB : Hid (ba (H ++ (beB n 4 0 ++ Page.noughts 92)) = ba H ++ ba (beB n 4 0) ++ ba (Page.noughts 92)) := Lib.hid (by simp only [ba_append, List.append_assoc])
    have x1 : (ba H).size = 32 := by rw [ba_size, hhl]
    have x2 : (ba (beB n 4 0)).size = 4 := by rw [ba_size, beB_length]
    have x3 : (ba (Page.noughts 92)).size = 92 := by rw [ba_size]; simp [Page.noughts]
    have N0c := num txn 8 (by omega) (by omega) (by omega) (by omega)
    have y0 : (ba (beB txn 8 0)).size = 8 := by rw [ba_size, beB_length]
    obtain ⟨N0, g0⟩ : ∃ N, ba (beB txn 8 0) = N := ⟨_, rfl⟩
    rw [g0] at y0 N0c HH
    have N1c := num root 4 (by omega) (by omega) (by omega) (by omega)
    have y1 : (ba (beB root 4 0)).size = 4 := by rw [ba_size, beB_length]
    obtain ⟨N1, g1⟩ : ∃ N, ba (beB root 4 0) = N := ⟨_, rfl⟩
    rw [g1] at y1 N1c HH
    have N2c := num free 4 (by omega) (by omega) (by omega) (by omega)
    have y2 : (ba (beB free 4 0)).size = 4 := by rw [ba_size, beB_length]
    obtain ⟨N2, g2⟩ : ∃ N, ba (beB free 4 0) = N := ⟨_, rfl⟩
    rw [g2] at y2 N2c HH
    have N3c := num pages 4 (by omega) (by omega) (by omega) (by omega)
    have y3 : (ba (beB pages 4 0)).size = 4 := by rw [ba_size, beB_length]
    obtain ⟨N3, g3⟩ : ∃ N, ba (beB pages 4 0) = N := ⟨_, rfl⟩
    rw [g3] at y3 N3c HH
    have N4c := num limit 4 (by omega) (by omega) (by omega) (by omega)
    have y4 : (ba (beB limit 4 0)).size = 4 := by rw [ba_size, beB_length]
    obtain ⟨N4, g4⟩ : ∃ N, ba (beB limit 4 0) = N := ⟨_, rfl⟩
    rw [g4] at y4 N4c HH
    have y8 : (ba [82, 79, 76, 76, 66, 79, 79, 75]).size = 8 := by rw [ba_size]; rfl
    obtain ⟨X, hX⟩ : ∃ X, ba H = X := ⟨_, rfl⟩
    obtain ⟨Y, hY⟩ : ∃ Y, ba (beB n 4 0) = Y := ⟨_, rfl⟩
    obtain ⟨Z, hZ⟩ : ∃ Z, ba (Page.noughts 92) = Z := ⟨_, rfl⟩
    rw [hX] at HH SC HB x1
    rw [show (⟨(beB n 4 0).toArray⟩ : ByteArray) = Y from hY] at NC
    rw [hY] at HB x2
    rw [show (⟨(Page.noughts 92).toArray⟩ : ByteArray) = Z from hZ] at ZC
    rw [hZ] at HB x3
    rw [HB.out] at HP
    have hcv : IntKind.i64.wrap (n : Int) = (n : Int) := IntWalk.i64_in _ (by omega)
    have q1 : ¬ ((9223372036854775807 : Int) < (X.size : Int) + (Y.size : Int)) := by omega
    have q2 : ¬ ((9223372036854775807 : Int) < (X.size : Int) + (Y.size : Int) + (Z.size : Int)) := by omega
    clear num cell hn hH hX hY hZ hhl h1 h2 h3 h4 h5 h6 h7 h8 h9 h10 g0 g1 g2 g3 g4
    go_enter Tryz.func21, Tryz.ntmps21
    go_wp2_with (go_at_call 50; refine (RR _).out.mono ?_; rintro _ w2 ⟨rfl, hb2⟩)
    refine region_q (C := fun w' => Below w1.heap.size w1 w') (by kernel_rfl) (by kernel_rfl) hb2.drew ?_
    refine q_op (.pointer (some ⟨w.heap.size, 0, none⟩)) rfl (fun wS hSw => by go_simp; try with_reducible rfl) ?_
    simp only [Act.put, List.setIfInBounds_toArray, List.set_cons_zero, List.set_cons_succ]
    refine q_op (.int .i64 txn) rfl (fun wS hSw => by have h0 := K0 wS hSw; go_simp; try with_reducible rfl) ?_
    simp only [Act.put, List.setIfInBounds_toArray, List.set_cons_zero, List.set_cons_succ]
    refine q_call2 (.string N0) rfl 51 _ _ _ rfl (.int .i64 txn) (.int .i64 (8 : Nat)) (by rfl) (by rfl) E30 (fun wS hSw => N0c.out wS hSw) ?_
    simp only [Act.put, List.setIfInBounds_toArray, List.set_cons_zero, List.set_cons_succ]
    refine q_add rfl 9 _ _ rfl (ba [82, 79, 76, 76, 66, 79, 79, 75]) (N0) (by rfl) (by rfl) (by omega) ?_
    obtain ⟨S1, e1⟩ : ∃ S, ba [82, 79, 76, 76, 66, 79, 79, 75] ++ N0 = S := ⟨_, rfl⟩
    have z1 : S1.size = (ba [82, 79, 76, 76, 66, 79, 79, 75]).size + (N0).size := by rw [← e1, ByteArray.size_append]
    rw [e1]
    have E1 := Lib.hid e1
    clear e1
    simp only [Act.put, List.setIfInBounds_toArray, List.set_cons_zero, List.set_cons_succ]
    refine q_op (.pointer (some ⟨w.heap.size, 1, none⟩)) rfl (fun wS hSw => by go_simp; try with_reducible rfl) ?_
    simp only [Act.put, List.setIfInBounds_toArray, List.set_cons_zero, List.set_cons_succ]
    refine q_op (.int .i64 root) rfl (fun wS hSw => by have h0 := K1 wS hSw; go_simp; try with_reducible rfl) ?_
    simp only [Act.put, List.setIfInBounds_toArray, List.set_cons_zero, List.set_cons_succ]
    refine q_call2 (.string N1) rfl 51 _ _ _ rfl (.int .i64 root) (.int .i64 (4 : Nat)) (by rfl) (by rfl) E30 (fun wS hSw => N1c.out wS hSw) ?_
    simp only [Act.put, List.setIfInBounds_toArray, List.set_cons_zero, List.set_cons_succ]
    refine q_add rfl 9 _ _ rfl (S1) (N1) (by rfl) (by rfl) (by omega) ?_
    obtain ⟨S2, e2⟩ : ∃ S, S1 ++ N1 = S := ⟨_, rfl⟩
    have z2 : S2.size = (S1).size + (N1).size := by rw [← e2, ByteArray.size_append]
    rw [e2]
    have E2 := Lib.hid e2
    clear e2
    simp only [Act.put, List.setIfInBounds_toArray, List.set_cons_zero, List.set_cons_succ]
    refine q_op (.pointer (some ⟨w.heap.size, 2, none⟩)) rfl (fun wS hSw => by go_simp; try with_reducible rfl) ?_
    simp only [Act.put, List.setIfInBounds_toArray, List.set_cons_zero, List.set_cons_succ]
    refine q_op (.int .i64 free) rfl (fun wS hSw => by have h0 := K2 wS hSw; go_simp; try with_reducible rfl) ?_
    simp only [Act.put, List.setIfInBounds_toArray, List.set_cons_zero, List.set_cons_succ]
    refine q_call2 (.string N2) rfl 51 _ _ _ rfl (.int .i64 free) (.int .i64 (4 : Nat)) (by rfl) (by rfl) E30 (fun wS hSw => N2c.out wS hSw) ?_
    simp only [Act.put, List.setIfInBounds_toArray, List.set_cons_zero, List.set_cons_succ]
    refine q_add rfl 9 _ _ rfl (S2) (N2) (by rfl) (by rfl) (by omega) ?_
    obtain ⟨S3, e3⟩ : ∃ S, S2 ++ N2 = S := ⟨_, rfl⟩
    have z3 : S3.size = (S2).size + (N2).size := by rw [← e3, ByteArray.size_append]
    rw [e3]
    have E3 := Lib.hid e3
    clear e3
    simp only [Act.put, List.setIfInBounds_toArray, List.set_cons_zero, List.set_cons_succ]
    refine q_op (.pointer (some ⟨w.heap.size, 3, none⟩)) rfl (fun wS hSw => by go_simp; try with_reducible rfl) ?_
    simp only [Act.put, List.setIfInBounds_toArray, List.set_cons_zero, List.set_cons_succ]
    refine q_op (.int .i64 pages) rfl (fun wS hSw => by have h0 := K3 wS hSw; go_simp; try with_reducible rfl) ?_
    simp only [Act.put, List.setIfInBounds_toArray, List.set_cons_zero, List.set_cons_succ]
    refine q_call2 (.string N3) rfl 51 _ _ _ rfl (.int .i64 pages) (.int .i64 (4 : Nat)) (by rfl) (by rfl) E30 (fun wS hSw => N3c.out wS hSw) ?_
    simp only [Act.put, List.setIfInBounds_toArray, List.set_cons_zero, List.set_cons_succ]
    refine q_add rfl 9 _ _ rfl (S3) (N3) (by rfl) (by rfl) (by omega) ?_
    obtain ⟨S4, e4⟩ : ∃ S, S3 ++ N3 = S := ⟨_, rfl⟩
    have z4 : S4.size = (S3).size + (N3).size := by rw [← e4, ByteArray.size_append]
    rw [e4]
    have E4 := Lib.hid e4
    clear e4
    simp only [Act.put, List.setIfInBounds_toArray, List.set_cons_zero, List.set_cons_succ]
    refine q_op (.pointer (some ⟨w.heap.size, 4, none⟩)) rfl (fun wS hSw => by go_simp; try with_reducible rfl) ?_
    simp only [Act.put, List.setIfInBounds_toArray, List.set_cons_zero, List.set_cons_succ]
    refine q_op (.int .i64 limit) rfl (fun wS hSw => by have h0 := K4 wS hSw; go_simp; try with_reducible rfl) ?_
    simp only [Act.put, List.setIfInBounds_toArray, List.set_cons_zero, List.set_cons_succ]
    refine q_call2 (.string N4) rfl 51 _ _ _ rfl (.int .i64 limit) (.int .i64 (4 : Nat)) (by rfl) (by rfl) E30 (fun wS hSw => N4c.out wS hSw) ?_
    simp only [Act.put, List.setIfInBounds_toArray, List.set_cons_zero, List.set_cons_succ]
    refine q_add rfl 9 _ _ rfl (S4) (N4) (by rfl) (by rfl) (by omega) ?_
    obtain ⟨S5, e5⟩ : ∃ S, S4 ++ N4 = S := ⟨_, rfl⟩
    have z5 : S5.size = (S4).size + (N4).size := by rw [← e5, ByteArray.size_append]
    rw [e5]
    have E5 := Lib.hid e5
    clear e5
    simp only [Act.put, List.setIfInBounds_toArray, List.set_cons_zero, List.set_cons_succ]
    refine q_op (.string S5) rfl (fun wS hSw => by go_simp; try with_reducible rfl) ?_
    simp only [Act.put, List.setIfInBounds_toArray, List.set_cons_zero, List.set_cons_succ]
    refine wpQuiet_nil ?_
    intro w3 hw3
    have HX : Hid (S5 = X) := Lib.hid (by rw [HH.out, E1.out, E2.out, E3.out, E4.out, E5.out])
    obtain rfl := HX.out
    clear HX E1 E2 E3 E4 E5 HH z1 z2 z3 z4 z5 y0 y1 y2 y3 y4 y8
    go_wp2_with (first | (go_at_call 52; refine (SC.out _).mono ?_; rintro _ _ ⟨rfl, rfl⟩) | (go_at_call 51; refine (NC.out _).mono ?_; rintro _ w4 ⟨rfl, hb4⟩) | (go_at_call 53; refine (ZC.out _).mono ?_; rintro _ w5 ⟨rfl, hb5⟩))
    go_ret2
    have B4 := hw3.trans (hb4.mono hw3.size)
    exact ⟨by rw [HP.out.1, HP.out.2]; rfl, hbl.trans ((B4.trans (hb5.mono B4.size)).mono (by omega))⟩
end Go.Proofs.YtjgmlpfallakmaaGreat
end
section
namespace Go.Proofs.YtjgmlpfallakmaaGreat
open Go.RowKit
theorem with_bytes (p : Page.PG) (sum : ByteArray) : ba (Page.withSum p sum.data.toList) = (ba [82, 66] ++ ba (beB p.kind 1 0) ++ ba (Page.noughts 1) ++ ba (beB p.body.length 2 0) ++ ba (beB p.no 4 0) ++ ba (beB p.txn 8 0) ++ sum ++ ba (Page.noughts 2) ++ ba p.body ++ ba (Page.noughts (488 - p.body.length))) := by
  conv => rhs; rw [← ba_data sum]
  simp only [ba_append]
  congr 1
  unfold Page.withSum Page.noughts
  simp [List.replicate]
set_option maxRecDepth 4000 in
set_option maxHeartbeats 1600000 in
theorem with_ok (kind no txn : Nat) (body sum : ByteArray) (hk : kind < 2 ^ 8) (hno : no < 2 ^ 32) (ht : txn < 2 ^ 63) (hb : body.size ≤ 488) (hs : sum.size = 4) (w : World) :
    Calls Tryz.prog 84 #[.agg #[.int .i64 kind, .int .i64 no, .int .i64 txn, .string body], .string sum] w fun e w' => e = .returned (.string (ba (Page.withSum ⟨kind, no, txn, body.data.toList⟩ sum.data.toList))) ∧ Below w.heap.size w w' := by
  have E29 := func_enters Tryz.func53 (by kernel_rfl) rfl
  have E30 := func_enters Tryz.func51 (by kernel_rfl) rfl
  obtain ⟨w1, hw1⟩ : ∃ w1, w.alloc (.cells #[.int .i64 kind, .int .i64 no, .int .i64 txn, .string body] 38) = w1 := ⟨_, rfl⟩
  have hsz : w1.heap.size = w.heap.size + 1 := by rw [← hw1]; simp
  have hbel : Below w.heap.size w w1 := by rw [← hw1]; exact (Below.refl _ w).alloc (Nat.le_refl _) _
  have hnew : w1.heap[w.heap.size]? = some (.cells #[.int .i64 kind, .int .i64 no, .int .i64 txn, .string body] 38 (0, 0)) := by rw [← hw1]; exact heap_alloc_new w _
  have cell : ∀ wS, Below w1.heap.size w1 wS → ∀ i, wS.cell? ⟨w.heap.size, i, none⟩ = (#[.int .i64 kind, .int .i64 no, .int .i64 txn, .string body] : Array Value)[i]? := fun wS h i => by
    rw [cell_of_row wS w.heap.size i _ 38 (0, 0) ((h.block _ (by omega)).trans hnew)]
  have K0 : ∀ wS, Below w1.heap.size w1 wS → wS.cell? ⟨w.heap.size, 0, none⟩ = some (.int .i64 kind) := fun wS h => cell wS h 0
  have K1 : ∀ wS, Below w1.heap.size w1 wS → wS.cell? ⟨w.heap.size, 1, none⟩ = some (.int .i64 no) := fun wS h => cell wS h 1
  have K2 : ∀ wS, Below w1.heap.size w1 wS → wS.cell? ⟨w.heap.size, 2, none⟩ = some (.int .i64 txn) := fun wS h => cell wS h 2
  have K3 : ∀ wS, Below w1.heap.size w1 wS → wS.cell? ⟨w.heap.size, 3, none⟩ = some (.string body) := fun wS h => cell wS h 3
  have num : ∀ n k : Nat, n < 2 ^ (8 * k) → n < 2 ^ 63 → 1 ≤ k → k ≤ 8 → Hid (∀ wS, Below w1.heap.size w1 wS → Calls Tryz.prog 51 #[.int .i64 n, .int .i64 k] wS fun e w' => e = .returned (.string (ba (beB n k 0))) ∧ Below w1.heap.size w1 w') := fun n k h1 h2 h3 h4 =>
    Lib.hid (fun wS hS => (number_ok n k h1 h2 h3 h4 wS).mono fun _ _ ⟨e, hb⟩ => ⟨e, hS.trans (hb.mono hS.size)⟩)
  have nou : ∀ n : Nat, n ≤ 1048576 → Hid (∀ wS, Below w1.heap.size w1 wS → Calls Tryz.prog 53 #[.int .i64 n] wS fun e w' => e = .returned (.string (ba (Page.noughts n))) ∧ Below w1.heap.size w1 w') := fun n h =>
    Lib.hid (fun wS hS => (noughts_ok n h wS).mono fun _ _ ⟨e, hb⟩ => ⟨e, hS.trans (hb.mono hS.size)⟩)
  have HW := Lib.hid (with_bytes ⟨kind, no, txn, body.data.toList⟩ sum)
  simp only [ba_data, Array.length_toList] at HW
  rw [show body.data.size = body.size from rfl] at HW
  obtain ⟨r, hr⟩ : ∃ r : Nat, 488 - body.size = r := ⟨_, rfl⟩
  have hr2 : (488 : Int) - (body.size : Int) = (r : Int) := by omega
  have N1c := num kind 1 (by omega) (by omega) (by omega) (by omega)
  have N2c := num body.size 2 (by omega) (by omega) (by omega) (by omega)
  have N3c := num no 4 (by omega) (by omega) (by omega) (by omega)
  have N4c := num txn 8 (by omega) (by omega) (by omega) (by omega)
  have Z1c := nou 1 (by omega)
  have Z2c := nou 2 (by omega)
  have Z3c := nou r (by omega)
  rw [hr] at HW
  have y1 : (ba (beB kind 1 0)).size = 1 := by rw [ba_size, beB_length]
  have y2 : (ba (beB body.size 2 0)).size = 2 := by rw [ba_size, beB_length]
  have y3 : (ba (beB no 4 0)).size = 4 := by rw [ba_size, beB_length]
  have y4 : (ba (beB txn 8 0)).size = 8 := by rw [ba_size, beB_length]
  have y5 : (ba (Page.noughts 1)).size = 1 := by rw [ba_size]; rfl
  have y6 : (ba (Page.noughts 2)).size = 2 := by rw [ba_size]; rfl
  have y7 : (ba (Page.noughts r)).size = r := by rw [ba_size]; simp [Page.noughts]
  have y8 : (ba [82, 66]).size = 2 := by rw [ba_size]; rfl
  obtain ⟨N1, g1⟩ : ∃ N, ba (beB kind 1 0) = N := ⟨_, rfl⟩
  obtain ⟨N2, g2⟩ : ∃ N, ba (beB body.size 2 0) = N := ⟨_, rfl⟩
  obtain ⟨N3, g3⟩ : ∃ N, ba (beB no 4 0) = N := ⟨_, rfl⟩
  obtain ⟨N4, g4⟩ : ∃ N, ba (beB txn 8 0) = N := ⟨_, rfl⟩
  obtain ⟨Z1, g5⟩ : ∃ N, ba (Page.noughts 1) = N := ⟨_, rfl⟩
  obtain ⟨Z2, g6⟩ : ∃ N, ba (Page.noughts 2) = N := ⟨_, rfl⟩
  obtain ⟨Z3, g7⟩ : ∃ N, ba (Page.noughts r) = N := ⟨_, rfl⟩
  rw [g1] at y1 N1c HW
  rw [g2] at y2 N2c HW
  rw [g3] at y3 N3c HW
  rw [g4] at y4 N4c HW
  rw [g5] at y5 Z1c HW
  rw [g6] at y6 Z2c HW
  rw [g7] at y7 Z3c HW
  obtain ⟨X, hX⟩ : ∃ X, ba (Page.withSum ⟨kind, no, txn, body.data.toList⟩ sum.data.toList) = X := ⟨_, rfl⟩
  rw [hX] at HW ⊢
  clear num nou g1 g2 g3 g4 g5 g6 g7 hX hr cell hk hno ht
  go_enter Tryz.func84, Tryz.ntmps84
  go_wp2
  refine region_q (C := fun w' => Below w1.heap.size w1 w') (by kernel_rfl) (by kernel_rfl) (Below.refl _ w1).drew ?_
  refine q_op (.pointer (some ⟨w.heap.size, 0, none⟩)) rfl (fun wS hSw => by go_simp; try with_reducible rfl) ?_
  simp only [Act.put, List.setIfInBounds_toArray, List.set_cons_zero, List.set_cons_succ]
  refine q_op (.int .i64 kind) rfl (fun wS hSw => by have h0 := K0 wS hSw; go_simp; try with_reducible rfl) ?_
  simp only [Act.put, List.setIfInBounds_toArray, List.set_cons_zero, List.set_cons_succ]
  refine q_call2 (.string N1) rfl 51 _ _ _ rfl (.int .i64 kind) (.int .i64 1) (by rfl) (by rfl) E30 (fun wS hSw => N1c.out wS hSw) ?_
  simp only [Act.put, List.setIfInBounds_toArray, List.set_cons_zero, List.set_cons_succ]
  refine q_add rfl 9 _ _ rfl (ba [82, 66]) (N1) (by rfl) (by rfl) (by omega) ?_
  obtain ⟨S1, e1⟩ : ∃ S, ba [82, 66] ++ N1 = S := ⟨_, rfl⟩
  have z1 : S1.size = (ba [82, 66]).size + (N1).size := by rw [← e1, ByteArray.size_append]
  rw [e1]
  have E1 := Lib.hid e1
  clear e1
  simp only [Act.put, List.setIfInBounds_toArray, List.set_cons_zero, List.set_cons_succ]
  refine q_call1 (.string Z1) rfl 53 _ _ rfl (.int .i64 1) (by rfl) E29 (fun wS hSw => Z1c.out wS hSw) ?_
  simp only [Act.put, List.setIfInBounds_toArray, List.set_cons_zero, List.set_cons_succ]
  refine q_add rfl 9 _ _ rfl (S1) (Z1) (by rfl) (by rfl) (by omega) ?_
  obtain ⟨S2, e2⟩ : ∃ S, S1 ++ Z1 = S := ⟨_, rfl⟩
  have z2 : S2.size = (S1).size + (Z1).size := by rw [← e2, ByteArray.size_append]
  rw [e2]
  have E2 := Lib.hid e2
  clear e2
  simp only [Act.put, List.setIfInBounds_toArray, List.set_cons_zero, List.set_cons_succ]
  refine q_op (.pointer (some ⟨w.heap.size, 3, none⟩)) rfl (fun wS hSw => by go_simp; try with_reducible rfl) ?_
  simp only [Act.put, List.setIfInBounds_toArray, List.set_cons_zero, List.set_cons_succ]
  refine q_op (.string body) rfl (fun wS hSw => by have h0 := K3 wS hSw; go_simp; try with_reducible rfl) ?_
  simp only [Act.put, List.setIfInBounds_toArray, List.set_cons_zero, List.set_cons_succ]
  refine q_op (.int .i64 body.size) rfl (fun wS hSw => by go_simp; try with_reducible rfl) ?_
  simp only [Act.put, List.setIfInBounds_toArray, List.set_cons_zero, List.set_cons_succ]
  refine q_call2 (.string N2) rfl 51 _ _ _ rfl (.int .i64 body.size) (.int .i64 2) (by rfl) (by rfl) E30 (fun wS hSw => N2c.out wS hSw) ?_
  simp only [Act.put, List.setIfInBounds_toArray, List.set_cons_zero, List.set_cons_succ]
  refine q_add rfl 9 _ _ rfl (S2) (N2) (by rfl) (by rfl) (by omega) ?_
  obtain ⟨S3, e3⟩ : ∃ S, S2 ++ N2 = S := ⟨_, rfl⟩
  have z3 : S3.size = (S2).size + (N2).size := by rw [← e3, ByteArray.size_append]
  rw [e3]
  have E3 := Lib.hid e3
  clear e3
  simp only [Act.put, List.setIfInBounds_toArray, List.set_cons_zero, List.set_cons_succ]
  refine q_op (.pointer (some ⟨w.heap.size, 1, none⟩)) rfl (fun wS hSw => by go_simp; try with_reducible rfl) ?_
  simp only [Act.put, List.setIfInBounds_toArray, List.set_cons_zero, List.set_cons_succ]
  refine q_op (.int .i64 no) rfl (fun wS hSw => by have h0 := K1 wS hSw; go_simp; try with_reducible rfl) ?_
  simp only [Act.put, List.setIfInBounds_toArray, List.set_cons_zero, List.set_cons_succ]
  refine q_call2 (.string N3) rfl 51 _ _ _ rfl (.int .i64 no) (.int .i64 4) (by rfl) (by rfl) E30 (fun wS hSw => N3c.out wS hSw) ?_
  simp only [Act.put, List.setIfInBounds_toArray, List.set_cons_zero, List.set_cons_succ]
  refine q_add rfl 9 _ _ rfl (S3) (N3) (by rfl) (by rfl) (by omega) ?_
  obtain ⟨S4, e4⟩ : ∃ S, S3 ++ N3 = S := ⟨_, rfl⟩
  have z4 : S4.size = (S3).size + (N3).size := by rw [← e4, ByteArray.size_append]
  rw [e4]
  have E4 := Lib.hid e4
  clear e4
  simp only [Act.put, List.setIfInBounds_toArray, List.set_cons_zero, List.set_cons_succ]
  refine q_op (.pointer (some ⟨w.heap.size, 2, none⟩)) rfl (fun wS hSw => by go_simp; try with_reducible rfl) ?_
  simp only [Act.put, List.setIfInBounds_toArray, List.set_cons_zero, List.set_cons_succ]
  refine q_op (.int .i64 txn) rfl (fun wS hSw => by have h0 := K2 wS hSw; go_simp; try with_reducible rfl) ?_
  simp only [Act.put, List.setIfInBounds_toArray, List.set_cons_zero, List.set_cons_succ]
  refine q_call2 (.string N4) rfl 51 _ _ _ rfl (.int .i64 txn) (.int .i64 8) (by rfl) (by rfl) E30 (fun wS hSw => N4c.out wS hSw) ?_
  simp only [Act.put, List.setIfInBounds_toArray, List.set_cons_zero, List.set_cons_succ]
  refine q_add rfl 9 _ _ rfl (S4) (N4) (by rfl) (by rfl) (by omega) ?_
  obtain ⟨S5, e5⟩ : ∃ S, S4 ++ N4 = S := ⟨_, rfl⟩
  have z5 : S5.size = (S4).size + (N4).size := by rw [← e5, ByteArray.size_append]
  rw [e5]
  have E5 := Lib.hid e5
  clear e5
  simp only [Act.put, List.setIfInBounds_toArray, List.set_cons_zero, List.set_cons_succ]
  refine q_op (.string sum) rfl (fun wS hSw => by go_simp; try with_reducible rfl) ?_
  simp only [Act.put, List.setIfInBounds_toArray, List.set_cons_zero, List.set_cons_succ]
  refine q_add rfl 9 _ _ rfl (S5) (sum) (by rfl) (by rfl) (by omega) ?_
  obtain ⟨S6, e6⟩ : ∃ S, S5 ++ sum = S := ⟨_, rfl⟩
  have z6 : S6.size = (S5).size + (sum).size := by rw [← e6, ByteArray.size_append]
  rw [e6]
  have E6 := Lib.hid e6
  clear e6
  simp only [Act.put, List.setIfInBounds_toArray, List.set_cons_zero, List.set_cons_succ]
  refine q_call1 (.string Z2) rfl 53 _ _ rfl (.int .i64 2) (by rfl) E29 (fun wS hSw => Z2c.out wS hSw) ?_
  simp only [Act.put, List.setIfInBounds_toArray, List.set_cons_zero, List.set_cons_succ]
  refine q_add rfl 9 _ _ rfl (S6) (Z2) (by rfl) (by rfl) (by omega) ?_
  obtain ⟨S7, e7⟩ : ∃ S, S6 ++ Z2 = S := ⟨_, rfl⟩
  have z7 : S7.size = (S6).size + (Z2).size := by rw [← e7, ByteArray.size_append]
  rw [e7]
  have E7 := Lib.hid e7
  clear e7
  simp only [Act.put, List.setIfInBounds_toArray, List.set_cons_zero, List.set_cons_succ]
  refine q_op (.pointer (some ⟨w.heap.size, 3, none⟩)) rfl (fun wS hSw => by go_simp; try with_reducible rfl) ?_
  simp only [Act.put, List.setIfInBounds_toArray, List.set_cons_zero, List.set_cons_succ]
  refine q_op (.string body) rfl (fun wS hSw => by have h0 := K3 wS hSw; go_simp; try with_reducible rfl) ?_
  simp only [Act.put, List.setIfInBounds_toArray, List.set_cons_zero, List.set_cons_succ]
  refine q_add rfl 9 _ _ rfl (S7) (body) (by rfl) (by rfl) (by omega) ?_
  obtain ⟨S8, e8⟩ : ∃ S, S7 ++ body = S := ⟨_, rfl⟩
  have z8 : S8.size = (S7).size + (body).size := by rw [← e8, ByteArray.size_append]
  rw [e8]
  have E8 := Lib.hid e8
  clear e8
  simp only [Act.put, List.setIfInBounds_toArray, List.set_cons_zero, List.set_cons_succ]
  refine q_op (.pointer (some ⟨w.heap.size, 3, none⟩)) rfl (fun wS hSw => by go_simp; try with_reducible rfl) ?_
  simp only [Act.put, List.setIfInBounds_toArray, List.set_cons_zero, List.set_cons_succ]
  refine q_op (.string body) rfl (fun wS hSw => by have h0 := K3 wS hSw; go_simp; try with_reducible rfl) ?_
  simp only [Act.put, List.setIfInBounds_toArray, List.set_cons_zero, List.set_cons_succ]
  refine q_op (.int .i64 body.size) rfl (fun wS hSw => by go_simp; try with_reducible rfl) ?_
  simp only [Act.put, List.setIfInBounds_toArray, List.set_cons_zero, List.set_cons_succ]
  refine q_op (.int .i64 r) rfl (fun wS hSw => by go_simp; exact IntWalk.i64_in _ (by omega)) ?_
  simp only [Act.put, List.setIfInBounds_toArray, List.set_cons_zero, List.set_cons_succ]
  refine q_call1 (.string Z3) rfl 53 _ _ rfl (.int .i64 r) (by rfl) E29 (fun wS hSw => Z3c.out wS hSw) ?_
  simp only [Act.put, List.setIfInBounds_toArray, List.set_cons_zero, List.set_cons_succ]
  refine q_add rfl 9 _ _ rfl (S8) (Z3) (by rfl) (by rfl) (by omega) ?_
  obtain ⟨S9, e9⟩ : ∃ S, S8 ++ Z3 = S := ⟨_, rfl⟩
  have z9 : S9.size = (S8).size + (Z3).size := by rw [← e9, ByteArray.size_append]
  rw [e9]
  have E9 := Lib.hid e9
  clear e9
  simp only [Act.put, List.setIfInBounds_toArray, List.set_cons_zero, List.set_cons_succ]
  refine q_op (.string S9) rfl (fun wS hSw => by go_simp; try with_reducible rfl) ?_
  simp only [Act.put, List.setIfInBounds_toArray, List.set_cons_zero, List.set_cons_succ]
  refine wpQuiet_nil ?_
  intro w9 hw9
  go_wp2
  go_ret
  exact ⟨by rw [HW.out, E1.out, E2.out, E3.out, E4.out, E5.out, E6.out, E7.out, E8.out, E9.out]; rfl, hbel.trans (hw9.mono (by omega))⟩
end Go.Proofs.YtjgmlpfallakmaaGreat
end
section
namespace Go.Proofs.YtjgmlpfallakmaaGreat
open Go.RowKit
set_option maxRecDepth 4000 in
set_option maxHeartbeats 1600000 in
theorem rpack_ok (w : World) (p : PV) : Calls Tryz.prog 68 #[p.val] w fun e w' => e = .returned (.tuple #[.string p.packS, .int .i64 p.packE]) ∧ Below w.heap.size w w' := by
  have RR := fun w => Lib.hid (rright_ok w p)
  have hbl : Below w.heap.size w (w.alloc (.cells #[.int .i64 p.kind, .int .i64 p.no, .int .i64 p.txn, .string p.body] 38)) := (Below.refl _ w).alloc (Nat.le_refl _) _
  cases hr : p.right
  · have HP : Hid (p.packS = ⟨#[]⟩ ∧ p.packE = 4) := Lib.hid (by unfold PV.packS PV.packE; rw [hr]; exact ⟨rfl, rfl⟩)
    simp only [hr] at RR
    clear hr
    obtain ⟨kind, no, txn, body⟩ := p
    unfold PV.val at RR ⊢
    simp only at RR hbl ⊢
    go_enter Tryz.func68, Tryz.ntmps68
    go_wp2_with (go_at_call 83; refine (RR _).out.mono ?_; rintro _ w2 ⟨rfl, hb2⟩)
    go_ret2
    exact ⟨by rw [HP.out.1, HP.out.2]; rfl, hbl.trans (hb2.mono hbl.size)⟩
  · have hri := (PV.right_iff p).1 hr
    have HP : Hid (p.packS = ba (Page.withSum p.pg (beB (Page.sumOf p.pg) 4 0)) ∧ p.packE = 0) := Lib.hid (by unfold PV.packS PV.packE; rw [hr]; exact ⟨rfl, rfl⟩)
    simp only [hr] at RR
    clear hr
    obtain ⟨kind, no, txn, body⟩ := p
    unfold PV.val at RR ⊢
    simp only at RR hbl hri ⊢
    obtain ⟨h1, h2, h3, h4, h5, h6, h7⟩ := hri
    obtain ⟨kind, rfl⟩ := Int.eq_ofNat_of_zero_le (show 0 ≤ kind by omega)
    obtain ⟨no, rfl⟩ := Int.eq_ofNat_of_zero_le (show 0 ≤ no by omega)
    obtain ⟨txn, rfl⟩ := Int.eq_ofNat_of_zero_le h5
    unfold PV.pg at HP
    simp only [Int.toNat_natCast] at HP
    obtain ⟨pg, hpg⟩ : ∃ pg : Page.PG, (⟨kind, no, txn, body.data.toList⟩ : Page.PG) = pg := ⟨_, rfl⟩
    have E27 := func_enters Tryz.func52 (by kernel_rfl) rfl
    have E28 := func_enters Tryz.func84 (by kernel_rfl) rfl
    have E29 := func_enters Tryz.func53 (by kernel_rfl) rfl
    have E30 := func_enters Tryz.func51 (by kernel_rfl) rfl
    obtain ⟨w1, hw1⟩ : ∃ w1, w.alloc (.cells #[.int .i64 kind, .int .i64 no, .int .i64 txn, .string body] 38) = w1 := ⟨_, rfl⟩
    rw [hw1] at hbl
    have hsz : w1.heap.size = w.heap.size + 1 := by rw [← hw1]; simp
    have hnew : w1.heap[w.heap.size]? = some (.cells #[.int .i64 kind, .int .i64 no, .int .i64 txn, .string body] 38 (0, 0)) := by rw [← hw1]; exact heap_alloc_new w _
    have cell : ∀ wS, Below w1.heap.size w1 wS → ∀ i, wS.cell? ⟨w.heap.size, i, none⟩ = (#[.int .i64 kind, .int .i64 no, .int .i64 txn, .string body] : Array Value)[i]? := fun wS h i => by
      rw [cell_of_row wS w.heap.size i _ 38 (0, 0) ((h.block _ (by omega)).trans hnew)]
    have K0 : ∀ wS, Below w1.heap.size w1 wS → wS.cell? ⟨w.heap.size, 0, none⟩ = some (.int .i64 kind) := fun wS h => cell wS h 0
    have K1 : ∀ wS, Below w1.heap.size w1 wS → wS.cell? ⟨w.heap.size, 1, none⟩ = some (.int .i64 no) := fun wS h => cell wS h 1
    have K2 : ∀ wS, Below w1.heap.size w1 wS → wS.cell? ⟨w.heap.size, 2, none⟩ = some (.int .i64 txn) := fun wS h => cell wS h 2
    have K3 : ∀ wS, Below w1.heap.size w1 wS → wS.cell? ⟨w.heap.size, 3, none⟩ = some (.string body) := fun wS h => cell wS h 3
    have hb8 : pg.body.length = body.size := by rw [← hpg]; simp only [Array.length_toList]; rfl
    have Z4 : Hid (∀ wS, Below w1.heap.size w1 wS → Calls Tryz.prog 53 #[.int .i64 (4 : Nat)] wS fun e w' => e = .returned (.string (ba (Page.noughts 4))) ∧ Below w1.heap.size w1 w') :=
      Lib.hid (fun wS hS => (noughts_ok 4 (by omega) wS).mono fun _ _ ⟨e, hb⟩ => ⟨e, hS.trans (hb.mono hS.size)⟩)
    have WC : ∀ sum : List UInt8, sum.length = 4 → Hid (∀ wS, Below w1.heap.size w1 wS → Calls Tryz.prog 84 #[.agg #[.int .i64 kind, .int .i64 no, .int .i64 txn, .string body], .string (ba sum)] wS fun e w' => e = .returned (.string (ba (Page.withSum pg sum))) ∧ Below w1.heap.size w1 w') := fun sum hs =>
      Lib.hid (fun wS hS => (with_ok kind no txn body (ba sum) (by omega) (by omega) (by omega) h7 (by rw [ba_size]; exact hs) wS).mono fun _ _ ⟨e, hb⟩ => ⟨by rw [e, hpg, data_ba], hS.trans (hb.mono hS.size)⟩)
    have WC0 := WC (Page.noughts 4) (by simp [Page.noughts])
    obtain ⟨n, hn⟩ : ∃ n : Nat, Page.sumOf pg = n := ⟨_, rfl⟩
    have hn32 : n < 2 ^ 32 := by rw [← hn]; exact Page.on_lt _ _
    have SC : Hid (∀ wS, Below w1.heap.size w1 wS → Calls Tryz.prog 52 #[.string (ba (Page.withSum pg (Page.noughts 4)))] wS fun e w' => e = .returned (.int .u32 n) ∧ Below w1.heap.size w1 w') :=
      Lib.hid (fun wS hS => (rsum_ok (ba (Page.withSum pg (Page.noughts 4))) (by rw [ba_size, Page.withSum_length _ _ (by simp [Page.noughts]) (by omega)]; omega) wS).mono fun _ _ ⟨e, hb⟩ => ⟨by rw [e, data_ba, ← hn]; rfl, hb ▸ hS⟩)
    have NC : Hid (∀ wS, Below w1.heap.size w1 wS → Calls Tryz.prog 51 #[.int .i64 n, .int .i64 (4 : Nat)] wS fun e w' => e = .returned (.string (ba (beB n 4 0))) ∧ Below w1.heap.size w1 w') :=
      Lib.hid (fun wS hS => (number_ok n 4 (by omega) (by omega) (by omega) (by omega) wS).mono fun _ _ ⟨e, hb⟩ => ⟨e, hS.trans (hb.mono hS.size)⟩)
    have WC1 := WC (beB n 4 0) (beB_length _ _ _)
    rw [hpg, hn] at HP
    obtain ⟨A0, a0⟩ : ∃ A, ba (Page.noughts 4) = A := ⟨_, rfl⟩
    obtain ⟨A1, a1⟩ : ∃ A, ba (Page.withSum pg (Page.noughts 4)) = A := ⟨_, rfl⟩
    obtain ⟨A2, a2⟩ : ∃ A, ba (beB n 4 0) = A := ⟨_, rfl⟩
    obtain ⟨A3, a3⟩ : ∃ A, ba (Page.withSum pg (beB n 4 0)) = A := ⟨_, rfl⟩
    rw [a0] at Z4 WC0
    rw [a1] at WC0 SC
    rw [a2] at NC WC1
    rw [a3] at WC1 HP
    have hcv : IntKind.i64.wrap (n : Int) = (n : Int) := IntWalk.i64_in _ (by omega)
    have c0 := K0 w1 (Below.refl _ _)
    have c1 := K1 w1 (Below.refl _ _)
    have c2 := K2 w1 (Below.refl _ _)
    have c3 := K3 w1 (Below.refl _ _)
    clear WC a0 a1 a2 a3 hn hpg cell h1 h2 h3 h4 h5 h6
    go_enter Tryz.func68, Tryz.ntmps68
    go_wp2_with (go_at_call 83; refine (RR _).out.mono ?_; rintro _ w2 ⟨rfl, hb2⟩)
    refine region_q (C := fun w' => Below w1.heap.size w1 w') (by kernel_rfl) (by kernel_rfl) hb2.drew ?_
    refine q_op (.agg #[.int .i64 kind, .int .i64 no, .int .i64 txn, .string body]) rfl (fun wS hSw => by have k0 := K0 wS hSw; have k1 := K1 wS hSw; have k2 := K2 wS hSw; have k3 := K3 wS hSw; go_simp; try with_reducible rfl) ?_
    simp only [Act.put, List.setIfInBounds_toArray, List.set_cons_zero, List.set_cons_succ]
    refine q_call1 (.string A0) rfl 53 _ _ rfl (.int .i64 (4 : Nat)) (by rfl) E29 (fun wS hSw => Z4.out wS hSw) ?_
    simp only [Act.put, List.setIfInBounds_toArray, List.set_cons_zero, List.set_cons_succ]
    refine q_call2 (.string A1) rfl 84 _ _ _ rfl (.agg #[.int .i64 kind, .int .i64 no, .int .i64 txn, .string body]) (.string A0) (by rfl) (by rfl) E28 (fun wS hSw => WC0.out wS hSw) ?_
    simp only [Act.put, List.setIfInBounds_toArray, List.set_cons_zero, List.set_cons_succ]
    refine q_call1 (.int .u32 n) rfl 52 _ _ rfl (.string A1) (by rfl) E27 (fun wS hSw => SC.out wS hSw) ?_
    simp only [Act.put, List.setIfInBounds_toArray, List.set_cons_zero, List.set_cons_succ]
    refine q_op (.int .u32 n) rfl (fun wS hSw => by go_simp; try with_reducible rfl) ?_
    simp only [Act.put, List.setIfInBounds_toArray, List.set_cons_zero, List.set_cons_succ]
    refine wpQuiet_nil ?_
    intro w3 hw3
    go_wp2_with fail
    refine region_q (C := fun w' => Below w1.heap.size w1 w') (by kernel_rfl) (by kernel_rfl) hw3.drew ?_
    refine q_op (.agg #[.int .i64 kind, .int .i64 no, .int .i64 txn, .string body]) rfl (fun wS hSw => by have k0 := K0 wS hSw; have k1 := K1 wS hSw; have k2 := K2 wS hSw; have k3 := K3 wS hSw; go_simp; try with_reducible rfl) ?_
    simp only [Act.put, List.setIfInBounds_toArray, List.set_cons_zero, List.set_cons_succ]
    refine q_op (.int .u32 n) rfl (fun wS hSw => by go_simp; try with_reducible rfl) ?_
    simp only [Act.put, List.setIfInBounds_toArray, List.set_cons_zero, List.set_cons_succ]
    refine q_op (.int .i64 n) rfl (fun wS hSw => by go_simp; try with_reducible rfl) ?_
    simp only [Act.put, List.setIfInBounds_toArray, List.set_cons_zero, List.set_cons_succ]
    refine q_call2 (.string A2) rfl 51 _ _ _ rfl (.int .i64 n) (.int .i64 (4 : Nat)) (by rfl) (by rfl) E30 (fun wS hSw => NC.out wS hSw) ?_
    simp only [Act.put, List.setIfInBounds_toArray, List.set_cons_zero, List.set_cons_succ]
    refine q_call2 (.string A3) rfl 84 _ _ _ rfl (.agg #[.int .i64 kind, .int .i64 no, .int .i64 txn, .string body]) (.string A2) (by rfl) (by rfl) E28 (fun wS hSw => WC1.out wS hSw) ?_
    simp only [Act.put, List.setIfInBounds_toArray, List.set_cons_zero, List.set_cons_succ]
    refine q_op (.string A3) rfl (fun wS hSw => by go_simp; try with_reducible rfl) ?_
    simp only [Act.put, List.setIfInBounds_toArray, List.set_cons_zero, List.set_cons_succ]
    refine q_op (.int .i64 0) rfl (fun wS hSw => by go_simp; try with_reducible rfl) ?_
    simp only [Act.put, List.setIfInBounds_toArray, List.set_cons_zero, List.set_cons_succ]
    refine wpQuiet_nil ?_
    intro w4 hw4
    go_wp2
    go_ret2
    exact ⟨by rw [HP.out.1, HP.out.2]; rfl, hbl.trans (hw4.mono (by omega))⟩
end Go.Proofs.YtjgmlpfallakmaaGreat
end
section
namespace Go.Proofs.YtjgmlpfallakmaaGreat
open Go.RowKit
theorem runpack_not (s : ByteArray) (h : Page.read s.data.toList = none) : unpackP s = PV.none ∧ unpackE s = 4 := by
  unfold unpackP unpackE
  rw [h]
  exact ⟨rfl, rfl⟩
theorem extract_ba (s : ByteArray) (a n : Nat) : s.extract a (a + n) = ba ((s.data.toList.drop a).take n) := by
  apply ByteArray.ext
  apply Array.ext'
  rw [data_ba]
  simp [ByteArray.data_extract]
theorem list_size (s : ByteArray) : s.data.toList.length = s.size := by rw [Array.length_toList]; rfl
set_option maxRecDepth 4000 in
set_option maxHeartbeats 1600000 in
theorem runpack_ok (w : World) (s : ByteArray) : Calls Tryz.prog 44 #[.string s] w fun e w' => e = .returned (.tuple #[(unpackP s).val, .int .i64 (unpackE s)]) ∧ Below w.heap.size w w' := by
  have hbl : Below w.heap.size w (w.alloc (.cells #[.int .i64 0, .int .i64 0, .int .i64 0, .string ⟨#[]⟩] 38)) := (Below.refl _ w).alloc (Nat.le_refl _) _
  have hz : ∀ w, (zeroValue 38).run Tryz.prog w = .ok (.agg #[.int .i64 0, .int .i64 0, .int .i64 0, .string ⟨#[]⟩]) w := fun w => by kernel_rfl
  have N0 : Hid (PV.none.val = .agg #[.int .i64 0, .int .i64 0, .int .i64 0, .string ⟨#[]⟩]) := Lib.hid rfl
  by_cases h5 : s.size = 512
  · obtain ⟨l, hl⟩ : ∃ l, s.data.toList = l := ⟨_, rfl⟩
    have hll : l.length = 512 := by rw [← hl, list_size, h5]
    have d0 : ((s.size : Int) != 512) = false := by rw [h5]; rfl
    have T1 := fun w => Lib.hid (rtake_ok s (by omega) 2 1 (by omega) (by omega) (by omega) w)
    have T2 := fun w => Lib.hid (rtake_ok s (by omega) 4 2 (by omega) (by omega) (by omega) w)
    have T3 := fun w => Lib.hid (rtake_ok s (by omega) 6 4 (by omega) (by omega) (by omega) w)
    have T4 := fun w => Lib.hid (rtake_ok s (by omega) 10 8 (by omega) (by omega) (by omega) w)
    rw [hl] at T1 T2 T3 T4
    have f1 : beN ((l.drop 2).take 1) = Page.at_ l 2 1 := rfl
    have f2 : beN ((l.drop 4).take 2) = Page.at_ l 4 2 := rfl
    have f3 : beN ((l.drop 6).take 4) = Page.at_ l 6 4 := rfl
    have f4 : beN ((l.drop 10).take 8) = Page.at_ l 10 8 := rfl
    simp only [f1] at T1
    simp only [f2] at T2
    simp only [f3] at T3
    simp only [f4] at T4
    have lt : ∀ a k, Page.at_ l a k < 2 ^ (8 * ((l.drop a).take k).length) := fun a k => beN_lt _
    have g1 : Page.at_ l 2 1 < 2 ^ 8 := by have := lt 2 1; rw [List.length_take, List.length_drop, hll] at this; exact this
    have g2 : Page.at_ l 4 2 < 2 ^ 16 := by have := lt 4 2; rw [List.length_take, List.length_drop, hll] at this; exact this
    have g3 : Page.at_ l 6 4 < 2 ^ 32 := by have := lt 6 4; rw [List.length_take, List.length_drop, hll] at this; exact this
    have HF : Hid (Page.fields l = ⟨Page.at_ l 2 1, Page.at_ l 6 4, Page.at_ l 10 8, (l.drop 24).take (Page.at_ l 4 2)⟩) := Lib.hid rfl
    have HRD : Hid (Page.read l = if l.length = 512 ∧ Page.at_ l 4 2 ≤ 488 ∧ Page.at_ l 10 8 ≤ 1099511627776 ∧ Page.right (Page.fields l) = true ∧ Page.packed (Page.fields l) = l then some (Page.fields l) else none) := Lib.hid rfl
    obtain ⟨kn, hkn⟩ : ∃ n, Page.at_ l 2 1 = n := ⟨_, rfl⟩
    obtain ⟨nn, hnn⟩ : ∃ n, Page.at_ l 4 2 = n := ⟨_, rfl⟩
    obtain ⟨on, hon⟩ : ∃ n, Page.at_ l 6 4 = n := ⟨_, rfl⟩
    obtain ⟨tn, htn⟩ : ∃ n, Page.at_ l 10 8 = n := ⟨_, rfl⟩
    rw [hkn] at g1 HF
    rw [hnn] at g2 HF HRD
    rw [hon] at g3 HF
    rw [htn] at HF HRD
    simp only [hkn] at T1
    simp only [hnn] at T2
    simp only [hon] at T3
    simp only [htn] at T4
    clear hkn hnn hon htn f1 f2 f3 f4 lt
    by_cases k1 : nn ≤ 488
    · have d1 : decide (488 < (nn : Int)) = false := decide_eq_false (by omega)
      by_cases k2 : tn ≤ 1099511627776
      · have d2 : decide (1099511627776 < (tn : Int)) = false := decide_eq_false (by omega)
        obtain ⟨body, hbody⟩ : ∃ b, ba ((l.drop 24).take nn) = b := ⟨_, rfl⟩
        have hsl : ∀ w, (Instr.slice 9 (.string s) (some (.int .i64 24)) (some (.int .i64 (24 + (nn : Int)))) none).run Tryz.prog w = .ok (.string body) w := fun w => by
          rw [run_slice_string w 9 s .i64 .i64 24 (24 + (nn : Int)) Tryz.underlying9 (by omega) (by omega) (by omega), show (24 : Int).toNat = 24 from rfl, show (24 + (nn : Int)).toNat = 24 + nn by omega, extract_ba, hl, hbody]
        have c1 : IntKind.i64.wrap (kn : Int) = kn := IntWalk.i64_in _ (by omega)
        have c2 : IntKind.i64.wrap (nn : Int) = nn := IntWalk.i64_in _ (by omega)
        have c3 : IntKind.i64.wrap (on : Int) = on := IntWalk.i64_in _ (by omega)
        have c4 : IntKind.i64.wrap (tn : Int) = tn := IntWalk.i64_in _ (by omega)
        have hp : (⟨kn, on, tn, body⟩ : PV) = ofPG (Page.fields l) := by rw [HF.out, ← hbody]; rfl
        have hpr : (⟨kn, on, tn, body⟩ : PV).right = Page.right (Page.fields l) := by rw [hp, right_ofPG]
        have hpp : (⟨kn, on, tn, body⟩ : PV).pg = Page.fields l := by rw [hp, pg_ofPG]
        have PC := fun w => rpack_ok w ⟨kn, on, tn, body⟩
        unfold PV.val at PC
        simp only at PC
        have i1 : (24 : Int) + (nn : Int) ≤ (s.size : Int) := by omega
        have i2 : (24 : Int) ≤ 24 + (nn : Int) := by omega
        by_cases k3 : Page.right (Page.fields l) = true
        · have hE : (⟨kn, on, tn, body⟩ : PV).packE = 0 := by unfold PV.packE; rw [hpr, k3]; rfl
          have hS : (⟨kn, on, tn, body⟩ : PV).packS = ba (Page.packed (Page.fields l)) := by unfold PV.packS; rw [hpr, k3, hpp]; rfl
          rw [hE, hS] at PC
          by_cases k4 : Page.packed (Page.fields l) = l
          · rw [k4, ← hl, ba_data] at PC
            have PC := fun w => Lib.hid (PC w)
            have q1 : (s.toList != s.toList) = false := by simp
            have hrd : Page.read l = some (Page.fields l) := by rw [HRD.out, if_pos ⟨hll, k1, k2, k3, k4⟩]
            have HU : Hid ((unpackP s).val = .agg #[.int .i64 kn, .int .i64 on, .int .i64 tn, .string body] ∧ unpackE s = 0) := Lib.hid (by
              unfold unpackP unpackE; rw [hl, hrd]; exact ⟨by show (ofPG (Page.fields l)).val = _; rw [← hp]; rfl, rfl⟩)
            clear hp hpr hpp hE hS k4 k3 hrd hbody hl hll HRD HF
            go_enter Tryz.func44, Tryz.ntmps44
            go_wp2_with fail
            refine (T1 _).out.mono ?_
            rintro _ _ ⟨rfl, rfl⟩
            go_wp2_with fail
            refine (T2 _).out.mono ?_
            rintro _ _ ⟨rfl, rfl⟩
            go_wp2_with fail
            refine (T3 _).out.mono ?_
            rintro _ _ ⟨rfl, rfl⟩
            go_wp2_with fail
            refine (T4 _).out.mono ?_
            rintro _ _ ⟨rfl, rfl⟩
            go_wp2_with fail
            refine (PC _).out.mono ?_
            rintro _ w3 ⟨rfl, hb3⟩
            have hZ : Blk w3 w.heap.size #[.int .i64 0, .int .i64 0, .int .i64 0, .string ⟨#[]⟩] 38 := (hb3.block _ (by simp; omega)).trans ((Below.heap_alloc _ _ _ (by simp)).trans (heap_alloc_new w _))
            have hP : Blk w3 (w.heap.size + 1) #[.int .i64 kn, .int .i64 on, .int .i64 tn, .string body] 38 := (hb3.block _ (by simp)).trans (by have := heap_alloc_new (w.alloc (.cells #[.int .i64 0, .int .i64 0, .int .i64 0, .string ⟨#[]⟩] 38)) (.cells #[.int .i64 kn, .int .i64 on, .int .i64 tn, .string body] 38); simpa using this)
            have hB3 : Below w.heap.size w w3 := (hbl.alloc hbl.size (.cells #[.int .i64 kn, .int .i64 on, .int .i64 tn, .string body] 38)).trans (hb3.mono (by simp; omega))
            have u0 : w3.cell? ⟨w.heap.size, 0, none⟩ = some (.int .i64 0) := hZ.cell 0
            have u1 : w3.cell? ⟨w.heap.size, 1, none⟩ = some (.int .i64 0) := hZ.cell 1
            have u2 : w3.cell? ⟨w.heap.size, 2, none⟩ = some (.int .i64 0) := hZ.cell 2
            have u3 : w3.cell? ⟨w.heap.size, 3, none⟩ = some (.string ⟨#[]⟩) := hZ.cell 3
            have v0 : w3.cell? ⟨w.heap.size + 1, 0, none⟩ = some (.int .i64 kn) := hP.cell 0
            have v1 : w3.cell? ⟨w.heap.size + 1, 1, none⟩ = some (.int .i64 on) := hP.cell 1
            have v2 : w3.cell? ⟨w.heap.size + 1, 2, none⟩ = some (.int .i64 tn) := hP.cell 2
            have v3 : w3.cell? ⟨w.heap.size + 1, 3, none⟩ = some (.string body) := hP.cell 3
            have m0 := hZ.free 0
            have m1 := hZ.free 1
            have m2 := hZ.free 2
            have m3 := hZ.free 3
            have hlt := hZ.lt
            have HZ := Lib.hid hZ
            have HB3 := Lib.hid hB3
            clear hZ hP hB3 hb3
            go_wp2
            refine bodyPost_ret (results_cell2 rfl _ _ w.heap.size 38 _ (0, 0) _ rfl ((((HZ.out.set 0 _).set 1 _).set 2 _).set 3 _) Tryz.underlying38 rfl (by kernel_rfl)) rfl ⟨?_, (((HB3.out.setCell (p := ⟨w.heap.size, 0, none⟩) (Nat.le_refl _) _).setCell (p := ⟨w.heap.size, 1, none⟩) (Nat.le_refl _) _).setCell (p := ⟨w.heap.size, 2, none⟩) (Nat.le_refl _) _).setCell (p := ⟨w.heap.size, 3, none⟩) (Nat.le_refl _) _⟩
            rw [HU.out.1, HU.out.2]
            rfl
          · have hne : ba (Page.packed (Page.fields l)) ≠ s := fun e => k4 (by rw [← data_ba (Page.packed (Page.fields l)), e, hl])
            obtain ⟨X, hX⟩ : ∃ X, ba (Page.packed (Page.fields l)) = X := ⟨_, rfl⟩
            rw [hX] at PC hne
            have PC := fun w => Lib.hid (PC w)
            have q1 : (X.toList == s.toList) = false := by
              rw [beq_eq_false_iff_ne]
              intro e
              rw [ByteArray.toList_eq, ByteArray.toList_eq] at e
              exact hne (ByteArray.ext (Array.ext' e))
            obtain ⟨U1, U2⟩ := runpack_not s (by rw [hl, HRD.out, if_neg (fun e => k4 e.2.2.2.2)])
            have HU := Lib.hid (And.intro U1 U2)
            clear hp hpr hpp hE hS k4 k3 hbody hl hll HRD HF U1 U2 hX hne
            go_enter Tryz.func44, Tryz.ntmps44
            go_wp2_with fail
            refine (T1 _).out.mono ?_
            rintro _ _ ⟨rfl, rfl⟩
            go_wp2_with fail
            refine (T2 _).out.mono ?_
            rintro _ _ ⟨rfl, rfl⟩
            go_wp2_with fail
            refine (T3 _).out.mono ?_
            rintro _ _ ⟨rfl, rfl⟩
            go_wp2_with fail
            refine (T4 _).out.mono ?_
            rintro _ _ ⟨rfl, rfl⟩
            go_wp2_with fail
            refine (PC _).out.mono ?_
            rintro _ w3 ⟨rfl, hb3⟩
            have hZ : Blk w3 w.heap.size #[.int .i64 0, .int .i64 0, .int .i64 0, .string ⟨#[]⟩] 38 := (hb3.block _ (by simp; omega)).trans ((Below.heap_alloc _ _ _ (by simp)).trans (heap_alloc_new w _))
            have hP : Blk w3 (w.heap.size + 1) #[.int .i64 kn, .int .i64 on, .int .i64 tn, .string body] 38 := (hb3.block _ (by simp)).trans (by have := heap_alloc_new (w.alloc (.cells #[.int .i64 0, .int .i64 0, .int .i64 0, .string ⟨#[]⟩] 38)) (.cells #[.int .i64 kn, .int .i64 on, .int .i64 tn, .string body] 38); simpa using this)
            have hB3 : Below w.heap.size w w3 := (hbl.alloc hbl.size (.cells #[.int .i64 kn, .int .i64 on, .int .i64 tn, .string body] 38)).trans (hb3.mono (by simp; omega))
            have u0 : w3.cell? ⟨w.heap.size, 0, none⟩ = some (.int .i64 0) := hZ.cell 0
            have u1 : w3.cell? ⟨w.heap.size, 1, none⟩ = some (.int .i64 0) := hZ.cell 1
            have u2 : w3.cell? ⟨w.heap.size, 2, none⟩ = some (.int .i64 0) := hZ.cell 2
            have u3 : w3.cell? ⟨w.heap.size, 3, none⟩ = some (.string ⟨#[]⟩) := hZ.cell 3
            have v0 : w3.cell? ⟨w.heap.size + 1, 0, none⟩ = some (.int .i64 kn) := hP.cell 0
            have v1 : w3.cell? ⟨w.heap.size + 1, 1, none⟩ = some (.int .i64 on) := hP.cell 1
            have v2 : w3.cell? ⟨w.heap.size + 1, 2, none⟩ = some (.int .i64 tn) := hP.cell 2
            have v3 : w3.cell? ⟨w.heap.size + 1, 3, none⟩ = some (.string body) := hP.cell 3
            have m0 := hZ.free 0
            have m1 := hZ.free 1
            have m2 := hZ.free 2
            have m3 := hZ.free 3
            have hlt := hZ.lt
            have HZ := Lib.hid hZ
            have HB3 := Lib.hid hB3
            clear hZ hP hB3 hb3
            go_wp2
            refine bodyPost_ret (results_cell2 rfl _ _ w.heap.size 38 _ (0, 0) _ rfl ((((HZ.out.set 0 _).set 1 _).set 2 _).set 3 _) Tryz.underlying38 rfl (by kernel_rfl)) rfl ⟨?_, (((HB3.out.setCell (p := ⟨w.heap.size, 0, none⟩) (Nat.le_refl _) _).setCell (p := ⟨w.heap.size, 1, none⟩) (Nat.le_refl _) _).setCell (p := ⟨w.heap.size, 2, none⟩) (Nat.le_refl _) _).setCell (p := ⟨w.heap.size, 3, none⟩) (Nat.le_refl _) _⟩
            rw [HU.out.1, HU.out.2, N0.out]
            rfl
        · have hE : (⟨kn, on, tn, body⟩ : PV).packE = 4 := by unfold PV.packE; rw [hpr, if_neg k3]
          rw [hE] at PC
          obtain ⟨X, hX⟩ : ∃ X, (⟨kn, on, tn, body⟩ : PV).packS = X := ⟨_, rfl⟩
          rw [hX] at PC
          have PC := fun w => Lib.hid (PC w)
          obtain ⟨U1, U2⟩ := runpack_not s (by rw [hl, HRD.out, if_neg (fun e => k3 e.2.2.2.1)])
          have HU := Lib.hid (And.intro U1 U2)
          clear hp hpr hpp hE k3 hbody hl hll HRD HF U1 U2 hX
          go_enter Tryz.func44, Tryz.ntmps44
          go_wp2_with fail
          refine (T1 _).out.mono ?_
          rintro _ _ ⟨rfl, rfl⟩
          go_wp2_with fail
          refine (T2 _).out.mono ?_
          rintro _ _ ⟨rfl, rfl⟩
          go_wp2_with fail
          refine (T3 _).out.mono ?_
          rintro _ _ ⟨rfl, rfl⟩
          go_wp2_with fail
          refine (T4 _).out.mono ?_
          rintro _ _ ⟨rfl, rfl⟩
          go_wp2_with fail
          refine (PC _).out.mono ?_
          rintro _ w3 ⟨rfl, hb3⟩
          have hZ : Blk w3 w.heap.size #[.int .i64 0, .int .i64 0, .int .i64 0, .string ⟨#[]⟩] 38 := (hb3.block _ (by simp; omega)).trans ((Below.heap_alloc _ _ _ (by simp)).trans (heap_alloc_new w _))
          have hP : Blk w3 (w.heap.size + 1) #[.int .i64 kn, .int .i64 on, .int .i64 tn, .string body] 38 := (hb3.block _ (by simp)).trans (by have := heap_alloc_new (w.alloc (.cells #[.int .i64 0, .int .i64 0, .int .i64 0, .string ⟨#[]⟩] 38)) (.cells #[.int .i64 kn, .int .i64 on, .int .i64 tn, .string body] 38); simpa using this)
          have hB3 : Below w.heap.size w w3 := (hbl.alloc hbl.size (.cells #[.int .i64 kn, .int .i64 on, .int .i64 tn, .string body] 38)).trans (hb3.mono (by simp; omega))
          have u0 : w3.cell? ⟨w.heap.size, 0, none⟩ = some (.int .i64 0) := hZ.cell 0
          have u1 : w3.cell? ⟨w.heap.size, 1, none⟩ = some (.int .i64 0) := hZ.cell 1
          have u2 : w3.cell? ⟨w.heap.size, 2, none⟩ = some (.int .i64 0) := hZ.cell 2
          have u3 : w3.cell? ⟨w.heap.size, 3, none⟩ = some (.string ⟨#[]⟩) := hZ.cell 3
          have v0 : w3.cell? ⟨w.heap.size + 1, 0, none⟩ = some (.int .i64 kn) := hP.cell 0
          have v1 : w3.cell? ⟨w.heap.size + 1, 1, none⟩ = some (.int .i64 on) := hP.cell 1
          have v2 : w3.cell? ⟨w.heap.size + 1, 2, none⟩ = some (.int .i64 tn) := hP.cell 2
          have v3 : w3.cell? ⟨w.heap.size + 1, 3, none⟩ = some (.string body) := hP.cell 3
          have m0 := hZ.free 0
          have m1 := hZ.free 1
          have m2 := hZ.free 2
          have m3 := hZ.free 3
          have hlt := hZ.lt
          have HZ := Lib.hid hZ
          have HB3 := Lib.hid hB3
          clear hZ hP hB3 hb3
          go_wp2
          refine bodyPost_ret (results_cell2 rfl _ _ w.heap.size 38 _ (0, 0) _ rfl ((((HZ.out.set 0 _).set 1 _).set 2 _).set 3 _) Tryz.underlying38 rfl (by kernel_rfl)) rfl ⟨?_, (((HB3.out.setCell (p := ⟨w.heap.size, 0, none⟩) (Nat.le_refl _) _).setCell (p := ⟨w.heap.size, 1, none⟩) (Nat.le_refl _) _).setCell (p := ⟨w.heap.size, 2, none⟩) (Nat.le_refl _) _).setCell (p := ⟨w.heap.size, 3, none⟩) (Nat.le_refl _) _⟩
          rw [HU.out.1, HU.out.2, N0.out]
          rfl
      · have d2 : decide (1099511627776 < (tn : Int)) = true := decide_eq_true (by omega)
        obtain ⟨U1, U2⟩ := runpack_not s (by rw [hl, HRD.out, if_neg (fun e => k2 e.2.2.1)])
        have HU := Lib.hid (And.intro U1 U2)
        clear hl hll HRD HF U1 U2 k2
        go_enter Tryz.func44, Tryz.ntmps44
        go_wp2_with fail
        refine (T1 _).out.mono ?_
        rintro _ _ ⟨rfl, rfl⟩
        go_wp2_with fail
        refine (T2 _).out.mono ?_
        rintro _ _ ⟨rfl, rfl⟩
        go_wp2_with fail
        refine (T3 _).out.mono ?_
        rintro _ _ ⟨rfl, rfl⟩
        go_wp2_with fail
        refine (T4 _).out.mono ?_
        rintro _ _ ⟨rfl, rfl⟩
        go_wp2
        refine bodyPost_ret (results_cell2 rfl _ _ w.heap.size 38 _ (0, 0) _ rfl (heap_alloc_new w _) Tryz.underlying38 rfl (by kernel_rfl)) rfl ⟨?_, hbl⟩
        rw [HU.out.1, HU.out.2, N0.out]
        rfl
    · have d1 : decide (488 < (nn : Int)) = true := decide_eq_true (by omega)
      obtain ⟨U1, U2⟩ := runpack_not s (by rw [hl, HRD.out, if_neg (fun e => k1 e.2.1)])
      have HU := Lib.hid (And.intro U1 U2)
      clear hl hll HRD HF U1 U2 k1
      go_enter Tryz.func44, Tryz.ntmps44
      go_wp2_with fail
      refine (T1 _).out.mono ?_
      rintro _ _ ⟨rfl, rfl⟩
      go_wp2_with fail
      refine (T2 _).out.mono ?_
      rintro _ _ ⟨rfl, rfl⟩
      go_wp2_with fail
      refine (T3 _).out.mono ?_
      rintro _ _ ⟨rfl, rfl⟩
      go_wp2_with fail
      refine (T4 _).out.mono ?_
      rintro _ _ ⟨rfl, rfl⟩
      go_wp2
      refine bodyPost_ret (results_cell2 rfl _ _ w.heap.size 38 _ (0, 0) _ rfl (heap_alloc_new w _) Tryz.underlying38 rfl (by kernel_rfl)) rfl ⟨?_, hbl⟩
      rw [HU.out.1, HU.out.2, N0.out]
      rfl
  · have d0 : ((s.size : Int) != 512) = true := by simp; omega
    obtain ⟨U1, U2⟩ := runpack_not s (Page.read_long _ (by rw [list_size]; exact h5))
    have HU := Lib.hid (And.intro U1 U2)
    clear U1 U2 h5
    go_enter Tryz.func44, Tryz.ntmps44
    go_wp2
    refine bodyPost_ret (results_cell2 rfl _ _ w.heap.size 38 _ (0, 0) _ rfl (heap_alloc_new w _) Tryz.underlying38 rfl (by kernel_rfl)) rfl ⟨?_, hbl⟩
    rw [HU.out.1, HU.out.2, N0.out]
    rfl
end Go.Proofs.YtjgmlpfallakmaaGreat
end
section
namespace Go.Proofs.YtjgmlpfallakmaaGreat
open Go.RowKit
theorem runpackM_not (s : ByteArray) (h : Page.readM s.data.toList = none) : unpackM s = MV.none ∧ unpackME s = 4 := by
  unfold unpackM unpackME
  rw [h]
  exact ⟨rfl, rfl⟩
set_option maxRecDepth 4000 in
set_option maxHeartbeats 1600000 in
theorem runpackM_ok (w : World) (s : ByteArray) : Calls Tryz.prog 26 #[.string s] w fun e w' => e = .returned (.tuple #[(unpackM s).val, .int .i64 (unpackME s)]) ∧ Below w.heap.size w w' := by
  have hbl : Below w.heap.size w (w.alloc (.cells #[.int .i64 0, .int .i64 0, .int .i64 0, .int .i64 0, .int .i64 0] 40)) := (Below.refl _ w).alloc (Nat.le_refl _) _
  have hz : ∀ w, (zeroValue 40).run Tryz.prog w = .ok (.agg #[.int .i64 0, .int .i64 0, .int .i64 0, .int .i64 0, .int .i64 0]) w := fun w => by kernel_rfl
  have N0 : Hid (MV.none.val = .agg #[.int .i64 0, .int .i64 0, .int .i64 0, .int .i64 0, .int .i64 0]) := Lib.hid rfl
  by_cases h5 : s.size = 128
  · obtain ⟨l, hl⟩ : ∃ l, s.data.toList = l := ⟨_, rfl⟩
    have hll : l.length = 128 := by rw [← hl, list_size, h5]
    have d0 : ((s.size : Int) != 128) = false := by rw [h5]; rfl
    have T1 := fun w => Lib.hid (rtake_ok s (by omega) 8 8 (by omega) (by omega) (by omega) w)
    have T2 := fun w => Lib.hid (rtake_ok s (by omega) 16 4 (by omega) (by omega) (by omega) w)
    have T3 := fun w => Lib.hid (rtake_ok s (by omega) 20 4 (by omega) (by omega) (by omega) w)
    have T4 := fun w => Lib.hid (rtake_ok s (by omega) 24 4 (by omega) (by omega) (by omega) w)
    have T5 := fun w => Lib.hid (rtake_ok s (by omega) 28 4 (by omega) (by omega) (by omega) w)
    rw [hl] at T1 T2 T3 T4 T5
    have f1 : beN ((l.drop 8).take 8) = Page.at_ l 8 8 := rfl
    simp only [f1] at T1
    have f2 : beN ((l.drop 16).take 4) = Page.at_ l 16 4 := rfl
    simp only [f2] at T2
    have f3 : beN ((l.drop 20).take 4) = Page.at_ l 20 4 := rfl
    simp only [f3] at T3
    have f4 : beN ((l.drop 24).take 4) = Page.at_ l 24 4 := rfl
    simp only [f4] at T4
    have f5 : beN ((l.drop 28).take 4) = Page.at_ l 28 4 := rfl
    simp only [f5] at T5
    have lt : ∀ a k, Page.at_ l a k < 2 ^ (8 * ((l.drop a).take k).length) := fun a k => beN_lt _
    have g2 : Page.at_ l 16 4 < 2 ^ 32 := by have := lt 16 4; rw [List.length_take, List.length_drop, hll] at this; exact this
    have g3 : Page.at_ l 20 4 < 2 ^ 32 := by have := lt 20 4; rw [List.length_take, List.length_drop, hll] at this; exact this
    have g4 : Page.at_ l 24 4 < 2 ^ 32 := by have := lt 24 4; rw [List.length_take, List.length_drop, hll] at this; exact this
    have g5 : Page.at_ l 28 4 < 2 ^ 32 := by have := lt 28 4; rw [List.length_take, List.length_drop, hll] at this; exact this
    have HF : Hid (Page.fieldsM l = ⟨Page.at_ l 8 8, Page.at_ l 16 4, Page.at_ l 20 4, Page.at_ l 24 4, Page.at_ l 28 4⟩) := Lib.hid rfl
    have HRD : Hid (Page.readM l = if l.length = 128 ∧ Page.at_ l 8 8 ≤ 1099511627776 ∧ Page.rightM (Page.fieldsM l) = true ∧ Page.packedM (Page.fieldsM l) = l then some (Page.fieldsM l) else none) := Lib.hid rfl
    obtain ⟨tn, htn⟩ : ∃ n, Page.at_ l 8 8 = n := ⟨_, rfl⟩
    rw [htn] at HF HRD
    simp only [htn] at T1
    obtain ⟨rn, hrn⟩ : ∃ n, Page.at_ l 16 4 = n := ⟨_, rfl⟩
    rw [hrn] at g2 HF
    simp only [hrn] at T2
    obtain ⟨fn, hfn⟩ : ∃ n, Page.at_ l 20 4 = n := ⟨_, rfl⟩
    rw [hfn] at g3 HF
    simp only [hfn] at T3
    obtain ⟨pn, hpn⟩ : ∃ n, Page.at_ l 24 4 = n := ⟨_, rfl⟩
    rw [hpn] at g4 HF
    simp only [hpn] at T4
    obtain ⟨ln, hln⟩ : ∃ n, Page.at_ l 28 4 = n := ⟨_, rfl⟩
    rw [hln] at g5 HF
    simp only [hln] at T5
    clear htn hrn hfn hpn hln f1 f2 f3 f4 f5 lt
    by_cases k2 : tn ≤ 1099511627776
    · have d2 : decide (1099511627776 < (tn : Int)) = false := decide_eq_false (by omega)
      have ctn : IntKind.i64.wrap (tn : Int) = tn := IntWalk.i64_in _ (by omega)
      have crn : IntKind.i64.wrap (rn : Int) = rn := IntWalk.i64_in _ (by omega)
      have cfn : IntKind.i64.wrap (fn : Int) = fn := IntWalk.i64_in _ (by omega)
      have cpn : IntKind.i64.wrap (pn : Int) = pn := IntWalk.i64_in _ (by omega)
      have cln : IntKind.i64.wrap (ln : Int) = ln := IntWalk.i64_in _ (by omega)
      have hp : (⟨tn, rn, fn, pn, ln⟩ : MV) = ofME (Page.fieldsM l) := by rw [HF.out]; rfl
      have hpr : (⟨tn, rn, fn, pn, ln⟩ : MV).right = Page.rightM (Page.fieldsM l) := by rw [hp, right_ofME]
      have hpp : (⟨tn, rn, fn, pn, ln⟩ : MV).me = Page.fieldsM l := by rw [hp, me_ofME]
      have PC := fun w => rpackM_ok w ⟨tn, rn, fn, pn, ln⟩
      unfold MV.val at PC
      simp only at PC
      by_cases k3 : Page.rightM (Page.fieldsM l) = true
      · have hE : (⟨tn, rn, fn, pn, ln⟩ : MV).packE = 0 := by unfold MV.packE; rw [hpr, k3]; rfl
        have hS : (⟨tn, rn, fn, pn, ln⟩ : MV).packS = ba (Page.packedM (Page.fieldsM l)) := by unfold MV.packS; rw [hpr, k3, hpp]; rfl
        rw [hE, hS] at PC
        by_cases k4 : Page.packedM (Page.fieldsM l) = l
        · rw [k4, ← hl, ba_data] at PC
          have PC := fun w => Lib.hid (PC w)
          have q1 : (s.toList == s.toList) = true := by simp
          have hrd : Page.readM l = some (Page.fieldsM l) := by rw [HRD.out, if_pos ⟨hll, k2, k3, k4⟩]
          have HU : Hid ((unpackM s).val = .agg #[.int .i64 tn, .int .i64 rn, .int .i64 fn, .int .i64 pn, .int .i64 ln] ∧ unpackME s = 0) := Lib.hid (by
            unfold unpackM unpackME; rw [hl, hrd]; exact ⟨by show (ofME (Page.fieldsM l)).val = _; rw [← hp]; rfl, rfl⟩)
          clear hp hpr hpp hE hS k4 k3 hrd hl hll HRD HF
          go_enter Tryz.func26, Tryz.ntmps26
          go_wp2_with fail
          refine (T1 _).out.mono ?_
          rintro _ _ ⟨rfl, rfl⟩
          go_wp2_with fail
          refine (T2 _).out.mono ?_
          rintro _ _ ⟨rfl, rfl⟩
          go_wp2_with fail
          refine (T3 _).out.mono ?_
          rintro _ _ ⟨rfl, rfl⟩
          go_wp2_with fail
          refine (T4 _).out.mono ?_
          rintro _ _ ⟨rfl, rfl⟩
          go_wp2_with fail
          refine (T5 _).out.mono ?_
          rintro _ _ ⟨rfl, rfl⟩
          go_wp2_with fail
          refine (PC _).out.mono ?_
          rintro _ w3 ⟨rfl, hb3⟩
          have hZ : Blk w3 w.heap.size #[.int .i64 0, .int .i64 0, .int .i64 0, .int .i64 0, .int .i64 0] 40 := (hb3.block _ (by simp; omega)).trans ((Below.heap_alloc _ _ _ (by simp)).trans (heap_alloc_new w _))
          have hP : Blk w3 (w.heap.size + 1) #[.int .i64 tn, .int .i64 rn, .int .i64 fn, .int .i64 pn, .int .i64 ln] 40 := (hb3.block _ (by simp)).trans (by have := heap_alloc_new (w.alloc (.cells #[.int .i64 0, .int .i64 0, .int .i64 0, .int .i64 0, .int .i64 0] 40)) (.cells #[.int .i64 tn, .int .i64 rn, .int .i64 fn, .int .i64 pn, .int .i64 ln] 40); simpa using this)
          have hB3 : Below w.heap.size w w3 := (hbl.alloc hbl.size (.cells #[.int .i64 tn, .int .i64 rn, .int .i64 fn, .int .i64 pn, .int .i64 ln] 40)).trans (hb3.mono (by simp; omega))
          have u0 : w3.cell? ⟨w.heap.size, 0, none⟩ = some (.int .i64 0) := hZ.cell 0
          have v0 : w3.cell? ⟨w.heap.size + 1, 0, none⟩ = some (.int .i64 tn) := hP.cell 0
          have m0 := hZ.free 0
          have u1 : w3.cell? ⟨w.heap.size, 1, none⟩ = some (.int .i64 0) := hZ.cell 1
          have v1 : w3.cell? ⟨w.heap.size + 1, 1, none⟩ = some (.int .i64 rn) := hP.cell 1
          have m1 := hZ.free 1
          have u2 : w3.cell? ⟨w.heap.size, 2, none⟩ = some (.int .i64 0) := hZ.cell 2
          have v2 : w3.cell? ⟨w.heap.size + 1, 2, none⟩ = some (.int .i64 fn) := hP.cell 2
          have m2 := hZ.free 2
          have u3 : w3.cell? ⟨w.heap.size, 3, none⟩ = some (.int .i64 0) := hZ.cell 3
          have v3 : w3.cell? ⟨w.heap.size + 1, 3, none⟩ = some (.int .i64 pn) := hP.cell 3
          have m3 := hZ.free 3
          have u4 : w3.cell? ⟨w.heap.size, 4, none⟩ = some (.int .i64 0) := hZ.cell 4
          have v4 : w3.cell? ⟨w.heap.size + 1, 4, none⟩ = some (.int .i64 ln) := hP.cell 4
          have m4 := hZ.free 4
          have hlt := hZ.lt
          have HZ := Lib.hid hZ
          have HB3 := Lib.hid hB3
          clear hZ hP hB3 hb3
          go_wp2
          refine bodyPost_ret (results_cell2 rfl _ _ w.heap.size 40 _ (0, 0) _ rfl (((((HZ.out.set 0 _).set 1 _).set 2 _).set 3 _).set 4 _) Tryz.underlying40 rfl (by kernel_rfl)) rfl ⟨?_, (((((HB3.out.setCell (p := ⟨w.heap.size, 0, none⟩) (Nat.le_refl _) _).setCell (p := ⟨w.heap.size, 1, none⟩) (Nat.le_refl _) _).setCell (p := ⟨w.heap.size, 2, none⟩) (Nat.le_refl _) _).setCell (p := ⟨w.heap.size, 3, none⟩) (Nat.le_refl _) _).setCell (p := ⟨w.heap.size, 4, none⟩) (Nat.le_refl _) _)⟩
          rw [HU.out.1, HU.out.2]
          rfl
        · have hne : ba (Page.packedM (Page.fieldsM l)) ≠ s := fun e => k4 (by rw [← data_ba (Page.packedM (Page.fieldsM l)), e, hl])
          obtain ⟨X, hX⟩ : ∃ X, ba (Page.packedM (Page.fieldsM l)) = X := ⟨_, rfl⟩
          rw [hX] at PC hne
          have PC := fun w => Lib.hid (PC w)
          have q1 : (X.toList == s.toList) = false := by
            rw [beq_eq_false_iff_ne]
            intro e
            rw [ByteArray.toList_eq, ByteArray.toList_eq] at e
            exact hne (ByteArray.ext (Array.ext' e))
          obtain ⟨U1, U2⟩ := runpackM_not s (by rw [hl, HRD.out, if_neg (fun e => k4 e.2.2.2)])
          have HU := Lib.hid (And.intro U1 U2)
          clear hp hpr hpp hE hS k4 k3 hl hll HRD HF U1 U2 hX hne
          go_enter Tryz.func26, Tryz.ntmps26
          go_wp2_with fail
          refine (T1 _).out.mono ?_
          rintro _ _ ⟨rfl, rfl⟩
          go_wp2_with fail
          refine (T2 _).out.mono ?_
          rintro _ _ ⟨rfl, rfl⟩
          go_wp2_with fail
          refine (T3 _).out.mono ?_
          rintro _ _ ⟨rfl, rfl⟩
          go_wp2_with fail
          refine (T4 _).out.mono ?_
          rintro _ _ ⟨rfl, rfl⟩
          go_wp2_with fail
          refine (T5 _).out.mono ?_
          rintro _ _ ⟨rfl, rfl⟩
          go_wp2_with fail
          refine (PC _).out.mono ?_
          rintro _ w3 ⟨rfl, hb3⟩
          have hZ : Blk w3 w.heap.size #[.int .i64 0, .int .i64 0, .int .i64 0, .int .i64 0, .int .i64 0] 40 := (hb3.block _ (by simp; omega)).trans ((Below.heap_alloc _ _ _ (by simp)).trans (heap_alloc_new w _))
          have hP : Blk w3 (w.heap.size + 1) #[.int .i64 tn, .int .i64 rn, .int .i64 fn, .int .i64 pn, .int .i64 ln] 40 := (hb3.block _ (by simp)).trans (by have := heap_alloc_new (w.alloc (.cells #[.int .i64 0, .int .i64 0, .int .i64 0, .int .i64 0, .int .i64 0] 40)) (.cells #[.int .i64 tn, .int .i64 rn, .int .i64 fn, .int .i64 pn, .int .i64 ln] 40); simpa using this)
          have hB3 : Below w.heap.size w w3 := (hbl.alloc hbl.size (.cells #[.int .i64 tn, .int .i64 rn, .int .i64 fn, .int .i64 pn, .int .i64 ln] 40)).trans (hb3.mono (by simp; omega))
          have u0 : w3.cell? ⟨w.heap.size, 0, none⟩ = some (.int .i64 0) := hZ.cell 0
          have v0 : w3.cell? ⟨w.heap.size + 1, 0, none⟩ = some (.int .i64 tn) := hP.cell 0
          have m0 := hZ.free 0
          have u1 : w3.cell? ⟨w.heap.size, 1, none⟩ = some (.int .i64 0) := hZ.cell 1
          have v1 : w3.cell? ⟨w.heap.size + 1, 1, none⟩ = some (.int .i64 rn) := hP.cell 1
          have m1 := hZ.free 1
          have u2 : w3.cell? ⟨w.heap.size, 2, none⟩ = some (.int .i64 0) := hZ.cell 2
          have v2 : w3.cell? ⟨w.heap.size + 1, 2, none⟩ = some (.int .i64 fn) := hP.cell 2
          have m2 := hZ.free 2
          have u3 : w3.cell? ⟨w.heap.size, 3, none⟩ = some (.int .i64 0) := hZ.cell 3
          have v3 : w3.cell? ⟨w.heap.size + 1, 3, none⟩ = some (.int .i64 pn) := hP.cell 3
          have m3 := hZ.free 3
          have u4 : w3.cell? ⟨w.heap.size, 4, none⟩ = some (.int .i64 0) := hZ.cell 4
          have v4 : w3.cell? ⟨w.heap.size + 1, 4, none⟩ = some (.int .i64 ln) := hP.cell 4
          have m4 := hZ.free 4
          have hlt := hZ.lt
          have HZ := Lib.hid hZ
          have HB3 := Lib.hid hB3
          clear hZ hP hB3 hb3
          go_wp2
          refine bodyPost_ret (results_cell2 rfl _ _ w.heap.size 40 _ (0, 0) _ rfl (((((HZ.out.set 0 _).set 1 _).set 2 _).set 3 _).set 4 _) Tryz.underlying40 rfl (by kernel_rfl)) rfl ⟨?_, (((((HB3.out.setCell (p := ⟨w.heap.size, 0, none⟩) (Nat.le_refl _) _).setCell (p := ⟨w.heap.size, 1, none⟩) (Nat.le_refl _) _).setCell (p := ⟨w.heap.size, 2, none⟩) (Nat.le_refl _) _).setCell (p := ⟨w.heap.size, 3, none⟩) (Nat.le_refl _) _).setCell (p := ⟨w.heap.size, 4, none⟩) (Nat.le_refl _) _)⟩
          rw [HU.out.1, HU.out.2, N0.out]
          rfl
      · have hE : (⟨tn, rn, fn, pn, ln⟩ : MV).packE = 4 := by unfold MV.packE; rw [hpr, if_neg k3]
        rw [hE] at PC
        obtain ⟨X, hX⟩ : ∃ X, (⟨tn, rn, fn, pn, ln⟩ : MV).packS = X := ⟨_, rfl⟩
        rw [hX] at PC
        have PC := fun w => Lib.hid (PC w)
        obtain ⟨U1, U2⟩ := runpackM_not s (by rw [hl, HRD.out, if_neg (fun e => k3 e.2.2.1)])
        have HU := Lib.hid (And.intro U1 U2)
        clear hp hpr hpp hE k3 hl hll HRD HF U1 U2 hX
        go_enter Tryz.func26, Tryz.ntmps26
        go_wp2_with fail
        refine (T1 _).out.mono ?_
        rintro _ _ ⟨rfl, rfl⟩
        go_wp2_with fail
        refine (T2 _).out.mono ?_
        rintro _ _ ⟨rfl, rfl⟩
        go_wp2_with fail
        refine (T3 _).out.mono ?_
        rintro _ _ ⟨rfl, rfl⟩
        go_wp2_with fail
        refine (T4 _).out.mono ?_
        rintro _ _ ⟨rfl, rfl⟩
        go_wp2_with fail
        refine (T5 _).out.mono ?_
        rintro _ _ ⟨rfl, rfl⟩
        go_wp2_with fail
        refine (PC _).out.mono ?_
        rintro _ w3 ⟨rfl, hb3⟩
        have hZ : Blk w3 w.heap.size #[.int .i64 0, .int .i64 0, .int .i64 0, .int .i64 0, .int .i64 0] 40 := (hb3.block _ (by simp; omega)).trans ((Below.heap_alloc _ _ _ (by simp)).trans (heap_alloc_new w _))
        have hP : Blk w3 (w.heap.size + 1) #[.int .i64 tn, .int .i64 rn, .int .i64 fn, .int .i64 pn, .int .i64 ln] 40 := (hb3.block _ (by simp)).trans (by have := heap_alloc_new (w.alloc (.cells #[.int .i64 0, .int .i64 0, .int .i64 0, .int .i64 0, .int .i64 0] 40)) (.cells #[.int .i64 tn, .int .i64 rn, .int .i64 fn, .int .i64 pn, .int .i64 ln] 40); simpa using this)
        have hB3 : Below w.heap.size w w3 := (hbl.alloc hbl.size (.cells #[.int .i64 tn, .int .i64 rn, .int .i64 fn, .int .i64 pn, .int .i64 ln] 40)).trans (hb3.mono (by simp; omega))
        have u0 : w3.cell? ⟨w.heap.size, 0, none⟩ = some (.int .i64 0) := hZ.cell 0
        have v0 : w3.cell? ⟨w.heap.size + 1, 0, none⟩ = some (.int .i64 tn) := hP.cell 0
        have m0 := hZ.free 0
        have u1 : w3.cell? ⟨w.heap.size, 1, none⟩ = some (.int .i64 0) := hZ.cell 1
        have v1 : w3.cell? ⟨w.heap.size + 1, 1, none⟩ = some (.int .i64 rn) := hP.cell 1
        have m1 := hZ.free 1
        have u2 : w3.cell? ⟨w.heap.size, 2, none⟩ = some (.int .i64 0) := hZ.cell 2
        have v2 : w3.cell? ⟨w.heap.size + 1, 2, none⟩ = some (.int .i64 fn) := hP.cell 2
        have m2 := hZ.free 2
        have u3 : w3.cell? ⟨w.heap.size, 3, none⟩ = some (.int .i64 0) := hZ.cell 3
        have v3 : w3.cell? ⟨w.heap.size + 1, 3, none⟩ = some (.int .i64 pn) := hP.cell 3
        have m3 := hZ.free 3
        have u4 : w3.cell? ⟨w.heap.size, 4, none⟩ = some (.int .i64 0) := hZ.cell 4
        have v4 : w3.cell? ⟨w.heap.size + 1, 4, none⟩ = some (.int .i64 ln) := hP.cell 4
        have m4 := hZ.free 4
        have hlt := hZ.lt
        have HZ := Lib.hid hZ
        have HB3 := Lib.hid hB3
        clear hZ hP hB3 hb3
        go_wp2
        refine bodyPost_ret (results_cell2 rfl _ _ w.heap.size 40 _ (0, 0) _ rfl (((((HZ.out.set 0 _).set 1 _).set 2 _).set 3 _).set 4 _) Tryz.underlying40 rfl (by kernel_rfl)) rfl ⟨?_, (((((HB3.out.setCell (p := ⟨w.heap.size, 0, none⟩) (Nat.le_refl _) _).setCell (p := ⟨w.heap.size, 1, none⟩) (Nat.le_refl _) _).setCell (p := ⟨w.heap.size, 2, none⟩) (Nat.le_refl _) _).setCell (p := ⟨w.heap.size, 3, none⟩) (Nat.le_refl _) _).setCell (p := ⟨w.heap.size, 4, none⟩) (Nat.le_refl _) _)⟩
        rw [HU.out.1, HU.out.2, N0.out]
        rfl
    · have d2 : decide (1099511627776 < (tn : Int)) = true := decide_eq_true (by omega)
      obtain ⟨U1, U2⟩ := runpackM_not s (by rw [hl, HRD.out, if_neg (fun e => k2 e.2.1)])
      have HU := Lib.hid (And.intro U1 U2)
      clear hl hll HRD HF U1 U2 k2
      go_enter Tryz.func26, Tryz.ntmps26
      go_wp2_with fail
      refine (T1 _).out.mono ?_
      rintro _ _ ⟨rfl, rfl⟩
      go_wp2_with fail
      refine (T2 _).out.mono ?_
      rintro _ _ ⟨rfl, rfl⟩
      go_wp2_with fail
      refine (T3 _).out.mono ?_
      rintro _ _ ⟨rfl, rfl⟩
      go_wp2_with fail
      refine (T4 _).out.mono ?_
      rintro _ _ ⟨rfl, rfl⟩
      go_wp2_with fail
      refine (T5 _).out.mono ?_
      rintro _ _ ⟨rfl, rfl⟩
      go_wp2
      refine bodyPost_ret (results_cell2 rfl _ _ w.heap.size 40 _ (0, 0) _ rfl (heap_alloc_new w _) Tryz.underlying40 rfl (by kernel_rfl)) rfl ⟨?_, hbl⟩
      rw [HU.out.1, HU.out.2, N0.out]
      rfl
  · have d0 : ((s.size : Int) != 128) = true := by simp; omega
    obtain ⟨U1, U2⟩ := runpackM_not s (Page.readM_long _ (by rw [list_size]; exact h5))
    have HU := Lib.hid (And.intro U1 U2)
    clear U1 U2 h5
    go_enter Tryz.func26, Tryz.ntmps26
    go_wp2
    refine bodyPost_ret (results_cell2 rfl _ _ w.heap.size 40 _ (0, 0) _ rfl (heap_alloc_new w _) Tryz.underlying40 rfl (by kernel_rfl)) rfl ⟨?_, hbl⟩
    rw [HU.out.1, HU.out.2, N0.out]
    rfl
end Go.Proofs.YtjgmlpfallakmaaGreat
end
section
namespace Go.Proofs.YtjgmlpfallakmaaGreat
open Go.RowKit
theorem stored5 {w w4 : World} {z0 z1 z2 z3 z4 : Value} {t : TypeId} (hZ : Blk w4 w.heap.size #[z0, z1, z2, z3, z4] t) (hB : Below w.heap.size w w4) (v0 v1 v2 v3 v4 : Value) :
    Blk (((((w4.setCell ⟨w.heap.size, 0, none⟩ v0).setCell ⟨w.heap.size, 1, none⟩ v1).setCell ⟨w.heap.size, 2, none⟩ v2).setCell ⟨w.heap.size, 3, none⟩ v3).setCell ⟨w.heap.size, 4, none⟩ v4) w.heap.size #[v0, v1, v2, v3, v4] t ∧ Below w.heap.size w (((((w4.setCell ⟨w.heap.size, 0, none⟩ v0).setCell ⟨w.heap.size, 1, none⟩ v1).setCell ⟨w.heap.size, 2, none⟩ v2).setCell ⟨w.heap.size, 3, none⟩ v3).setCell ⟨w.heap.size, 4, none⟩ v4) :=
  ⟨(((((hZ.set 0 v0).set 1 v1).set 2 v2).set 3 v3).set 4 v4), (((((hB.setCell (p := ⟨w.heap.size, 0, none⟩) (Nat.le_refl _) v0).setCell (p := ⟨w.heap.size, 1, none⟩) (Nat.le_refl _) v1).setCell (p := ⟨w.heap.size, 2, none⟩) (Nat.le_refl _) v2).setCell (p := ⟨w.heap.size, 3, none⟩) (Nat.le_refl _) v3).setCell (p := ⟨w.heap.size, 4, none⟩) (Nat.le_refl _) v4)⟩
set_option maxRecDepth 4000 in
set_option maxHeartbeats 800000 in
theorem rnewest_yy (w : World) (a b : ByteArray) (xt xr xf xp xl yt yr yf yp yl e f : Int)
    (XC : ∀ w, Hid (Calls Tryz.prog 26 #[.string a] w fun e' w' => e' = .returned (.tuple #[.agg #[.int .i64 xt, .int .i64 xr, .int .i64 xf, .int .i64 xp, .int .i64 xl], .int .i64 e]) ∧ Below w.heap.size w w'))
    (YC : ∀ w, Hid (Calls Tryz.prog 26 #[.string b] w fun e' w' => e' = .returned (.tuple #[.agg #[.int .i64 yt, .int .i64 yr, .int .i64 yf, .int .i64 yp, .int .i64 yl], .int .i64 f]) ∧ Below w.heap.size w w'))
    (d1 : (e == 0) = true) (d2 : (f == 0) = true) (d3 : decide (xt < yt) = true) :
    Calls Tryz.prog 25 #[.string a, .string b] w fun e' w' => e' = .returned (.tuple #[.agg #[.int .i64 yt, .int .i64 yr, .int .i64 yf, .int .i64 yp, .int .i64 yl], .int .i64 1, .int .i64 0]) ∧ Below w.heap.size w w' := by
  have hz : ∀ w, (zeroValue 40).run Tryz.prog w = .ok (.agg #[.int .i64 0, .int .i64 0, .int .i64 0, .int .i64 0, .int .i64 0]) w := fun w => by kernel_rfl
  go_enter Tryz.func25, Tryz.ntmps25
  go_wp2_with fail
  refine (XC _).out.mono ?_
  rintro _ w2 ⟨rfl, hb2⟩
  go_wp2_with fail
  refine (YC _).out.mono ?_
  rintro _ w3 ⟨rfl, hb3⟩
  have n2 := hb2.size
  have n3 := hb3.size
  rw [show (w.alloc (.cells #[.int .i64 0, .int .i64 0, .int .i64 0, .int .i64 0, .int .i64 0] 40)).heap.size = w.heap.size + 1 by simp] at n2
  rw [show (w2.alloc (.cells #[.int .i64 xt, .int .i64 xr, .int .i64 xf, .int .i64 xp, .int .i64 xl] 40)).heap.size = w2.heap.size + 1 by simp] at n3
  have hZ2 : Blk w2 w.heap.size #[.int .i64 0, .int .i64 0, .int .i64 0, .int .i64 0, .int .i64 0] 40 := (hb2.block _ (by simp)).trans (heap_alloc_new w _)
  have hZ : Blk w3 w.heap.size #[.int .i64 0, .int .i64 0, .int .i64 0, .int .i64 0, .int .i64 0] 40 := (hb3.block _ (by simp; omega)).trans (hZ2.alloc (.cells #[.int .i64 xt, .int .i64 xr, .int .i64 xf, .int .i64 xp, .int .i64 xl] 40))
  have hX : Blk w3 w2.heap.size #[.int .i64 xt, .int .i64 xr, .int .i64 xf, .int .i64 xp, .int .i64 xl] 40 := (hb3.block _ (by simp)).trans (heap_alloc_new w2 _)
  have B2 : Below w.heap.size w w2 := ((Below.refl _ w).alloc (Nat.le_refl _) (.cells #[.int .i64 0, .int .i64 0, .int .i64 0, .int .i64 0, .int .i64 0] 40)).trans (hb2.mono (by simp))
  have B3 : Below w.heap.size w w3 := (B2.alloc B2.size (.cells #[.int .i64 xt, .int .i64 xr, .int .i64 xf, .int .i64 xp, .int .i64 xl] 40)).trans (hb3.mono (by simp; omega))
  have u0 : w3.cell? ⟨w.heap.size, 0, none⟩ = some (.int .i64 0) := hZ.cell 0
  have v0 : w3.cell? ⟨w2.heap.size, 0, none⟩ = some (.int .i64 xt) := hX.cell 0
  have m0 := hZ.free 0
  have u1 : w3.cell? ⟨w.heap.size, 1, none⟩ = some (.int .i64 0) := hZ.cell 1
  have v1 : w3.cell? ⟨w2.heap.size, 1, none⟩ = some (.int .i64 xr) := hX.cell 1
  have m1 := hZ.free 1
  have u2 : w3.cell? ⟨w.heap.size, 2, none⟩ = some (.int .i64 0) := hZ.cell 2
  have v2 : w3.cell? ⟨w2.heap.size, 2, none⟩ = some (.int .i64 xf) := hX.cell 2
  have m2 := hZ.free 2
  have u3 : w3.cell? ⟨w.heap.size, 3, none⟩ = some (.int .i64 0) := hZ.cell 3
  have v3 : w3.cell? ⟨w2.heap.size, 3, none⟩ = some (.int .i64 xp) := hX.cell 3
  have m3 := hZ.free 3
  have u4 : w3.cell? ⟨w.heap.size, 4, none⟩ = some (.int .i64 0) := hZ.cell 4
  have v4 : w3.cell? ⟨w2.heap.size, 4, none⟩ = some (.int .i64 xl) := hX.cell 4
  have m4 := hZ.free 4
  have l2 : w2.heap.size < w3.heap.size := by omega
  have l1 : w.heap.size < w3.heap.size := by omega
  have HB := Lib.hid B3
  have HZ := Lib.hid hZ
  have l3 : w.heap.size < w3.heap.size + 1 := by omega
  clear n2 n3 hZ2 hZ hX B2 B3 hb2 hb3
  go_wp2
  obtain ⟨hS, hB⟩ := stored5 HZ.out HB.out (.int .i64 yt) (.int .i64 yr) (.int .i64 yf) (.int .i64 yp) (.int .i64 yl)
  refine bodyPost_ret (results_cell3 rfl _ _ w.heap.size 40 _ (0, 0) _ rfl (hS.alloc (.cells #[.int .i64 yt, .int .i64 yr, .int .i64 yf, .int .i64 yp, .int .i64 yl] 40)) Tryz.underlying40 rfl (by kernel_rfl)) rfl ⟨by rfl, hB.alloc hB.size (.cells #[.int .i64 yt, .int .i64 yr, .int .i64 yf, .int .i64 yp, .int .i64 yl] 40)⟩
set_option maxRecDepth 4000 in
set_option maxHeartbeats 800000 in
theorem rnewest_xy (w : World) (a b : ByteArray) (xt xr xf xp xl yt yr yf yp yl e f : Int)
    (XC : ∀ w, Hid (Calls Tryz.prog 26 #[.string a] w fun e' w' => e' = .returned (.tuple #[.agg #[.int .i64 xt, .int .i64 xr, .int .i64 xf, .int .i64 xp, .int .i64 xl], .int .i64 e]) ∧ Below w.heap.size w w'))
    (YC : ∀ w, Hid (Calls Tryz.prog 26 #[.string b] w fun e' w' => e' = .returned (.tuple #[.agg #[.int .i64 yt, .int .i64 yr, .int .i64 yf, .int .i64 yp, .int .i64 yl], .int .i64 f]) ∧ Below w.heap.size w w'))
    (d1 : (e == 0) = true) (d2 : (f == 0) = true) (d3 : decide (xt < yt) = false) :
    Calls Tryz.prog 25 #[.string a, .string b] w fun e' w' => e' = .returned (.tuple #[.agg #[.int .i64 xt, .int .i64 xr, .int .i64 xf, .int .i64 xp, .int .i64 xl], .int .i64 0, .int .i64 0]) ∧ Below w.heap.size w w' := by
  have hz : ∀ w, (zeroValue 40).run Tryz.prog w = .ok (.agg #[.int .i64 0, .int .i64 0, .int .i64 0, .int .i64 0, .int .i64 0]) w := fun w => by kernel_rfl
  go_enter Tryz.func25, Tryz.ntmps25
  go_wp2_with fail
  refine (XC _).out.mono ?_
  rintro _ w2 ⟨rfl, hb2⟩
  go_wp2_with fail
  refine (YC _).out.mono ?_
  rintro _ w3 ⟨rfl, hb3⟩
  have n2 := hb2.size
  have n3 := hb3.size
  rw [show (w.alloc (.cells #[.int .i64 0, .int .i64 0, .int .i64 0, .int .i64 0, .int .i64 0] 40)).heap.size = w.heap.size + 1 by simp] at n2
  rw [show (w2.alloc (.cells #[.int .i64 xt, .int .i64 xr, .int .i64 xf, .int .i64 xp, .int .i64 xl] 40)).heap.size = w2.heap.size + 1 by simp] at n3
  have hZ2 : Blk w2 w.heap.size #[.int .i64 0, .int .i64 0, .int .i64 0, .int .i64 0, .int .i64 0] 40 := (hb2.block _ (by simp)).trans (heap_alloc_new w _)
  have hZ : Blk w3 w.heap.size #[.int .i64 0, .int .i64 0, .int .i64 0, .int .i64 0, .int .i64 0] 40 := (hb3.block _ (by simp; omega)).trans (hZ2.alloc (.cells #[.int .i64 xt, .int .i64 xr, .int .i64 xf, .int .i64 xp, .int .i64 xl] 40))
  have hX : Blk w3 w2.heap.size #[.int .i64 xt, .int .i64 xr, .int .i64 xf, .int .i64 xp, .int .i64 xl] 40 := (hb3.block _ (by simp)).trans (heap_alloc_new w2 _)
  have B2 : Below w.heap.size w w2 := ((Below.refl _ w).alloc (Nat.le_refl _) (.cells #[.int .i64 0, .int .i64 0, .int .i64 0, .int .i64 0, .int .i64 0] 40)).trans (hb2.mono (by simp))
  have B3 : Below w.heap.size w w3 := (B2.alloc B2.size (.cells #[.int .i64 xt, .int .i64 xr, .int .i64 xf, .int .i64 xp, .int .i64 xl] 40)).trans (hb3.mono (by simp; omega))
  have u0 : w3.cell? ⟨w.heap.size, 0, none⟩ = some (.int .i64 0) := hZ.cell 0
  have v0 : w3.cell? ⟨w2.heap.size, 0, none⟩ = some (.int .i64 xt) := hX.cell 0
  have m0 := hZ.free 0
  have u1 : w3.cell? ⟨w.heap.size, 1, none⟩ = some (.int .i64 0) := hZ.cell 1
  have v1 : w3.cell? ⟨w2.heap.size, 1, none⟩ = some (.int .i64 xr) := hX.cell 1
  have m1 := hZ.free 1
  have u2 : w3.cell? ⟨w.heap.size, 2, none⟩ = some (.int .i64 0) := hZ.cell 2
  have v2 : w3.cell? ⟨w2.heap.size, 2, none⟩ = some (.int .i64 xf) := hX.cell 2
  have m2 := hZ.free 2
  have u3 : w3.cell? ⟨w.heap.size, 3, none⟩ = some (.int .i64 0) := hZ.cell 3
  have v3 : w3.cell? ⟨w2.heap.size, 3, none⟩ = some (.int .i64 xp) := hX.cell 3
  have m3 := hZ.free 3
  have u4 : w3.cell? ⟨w.heap.size, 4, none⟩ = some (.int .i64 0) := hZ.cell 4
  have v4 : w3.cell? ⟨w2.heap.size, 4, none⟩ = some (.int .i64 xl) := hX.cell 4
  have m4 := hZ.free 4
  have l2 : w2.heap.size < w3.heap.size := by omega
  have l1 : w.heap.size < w3.heap.size := by omega
  have HB := Lib.hid B3
  have HZ := Lib.hid hZ
  have l3 : w.heap.size < w3.heap.size + 1 := by omega
  clear n2 n3 hZ2 hZ hX B2 B3 hb2 hb3
  go_wp2
  obtain ⟨hS, hB⟩ := stored5 HZ.out HB.out (.int .i64 xt) (.int .i64 xr) (.int .i64 xf) (.int .i64 xp) (.int .i64 xl)
  refine bodyPost_ret (results_cell3 rfl _ _ w.heap.size 40 _ (0, 0) _ rfl (hS.alloc (.cells #[.int .i64 yt, .int .i64 yr, .int .i64 yf, .int .i64 yp, .int .i64 yl] 40)) Tryz.underlying40 rfl (by kernel_rfl)) rfl ⟨by rfl, hB.alloc hB.size (.cells #[.int .i64 yt, .int .i64 yr, .int .i64 yf, .int .i64 yp, .int .i64 yl] 40)⟩
set_option maxRecDepth 4000 in
set_option maxHeartbeats 800000 in
theorem rnewest_x (w : World) (a b : ByteArray) (xt xr xf xp xl yt yr yf yp yl e f : Int)
    (XC : ∀ w, Hid (Calls Tryz.prog 26 #[.string a] w fun e' w' => e' = .returned (.tuple #[.agg #[.int .i64 xt, .int .i64 xr, .int .i64 xf, .int .i64 xp, .int .i64 xl], .int .i64 e]) ∧ Below w.heap.size w w'))
    (YC : ∀ w, Hid (Calls Tryz.prog 26 #[.string b] w fun e' w' => e' = .returned (.tuple #[.agg #[.int .i64 yt, .int .i64 yr, .int .i64 yf, .int .i64 yp, .int .i64 yl], .int .i64 f]) ∧ Below w.heap.size w w'))
    (d1 : (e == 0) = true) (d2 : (f == 0) = false) :
    Calls Tryz.prog 25 #[.string a, .string b] w fun e' w' => e' = .returned (.tuple #[.agg #[.int .i64 xt, .int .i64 xr, .int .i64 xf, .int .i64 xp, .int .i64 xl], .int .i64 0, .int .i64 0]) ∧ Below w.heap.size w w' := by
  have hz : ∀ w, (zeroValue 40).run Tryz.prog w = .ok (.agg #[.int .i64 0, .int .i64 0, .int .i64 0, .int .i64 0, .int .i64 0]) w := fun w => by kernel_rfl
  go_enter Tryz.func25, Tryz.ntmps25
  go_wp2_with fail
  refine (XC _).out.mono ?_
  rintro _ w2 ⟨rfl, hb2⟩
  go_wp2_with fail
  refine (YC _).out.mono ?_
  rintro _ w3 ⟨rfl, hb3⟩
  have n2 := hb2.size
  have n3 := hb3.size
  rw [show (w.alloc (.cells #[.int .i64 0, .int .i64 0, .int .i64 0, .int .i64 0, .int .i64 0] 40)).heap.size = w.heap.size + 1 by simp] at n2
  rw [show (w2.alloc (.cells #[.int .i64 xt, .int .i64 xr, .int .i64 xf, .int .i64 xp, .int .i64 xl] 40)).heap.size = w2.heap.size + 1 by simp] at n3
  have hZ2 : Blk w2 w.heap.size #[.int .i64 0, .int .i64 0, .int .i64 0, .int .i64 0, .int .i64 0] 40 := (hb2.block _ (by simp)).trans (heap_alloc_new w _)
  have hZ : Blk w3 w.heap.size #[.int .i64 0, .int .i64 0, .int .i64 0, .int .i64 0, .int .i64 0] 40 := (hb3.block _ (by simp; omega)).trans (hZ2.alloc (.cells #[.int .i64 xt, .int .i64 xr, .int .i64 xf, .int .i64 xp, .int .i64 xl] 40))
  have hX : Blk w3 w2.heap.size #[.int .i64 xt, .int .i64 xr, .int .i64 xf, .int .i64 xp, .int .i64 xl] 40 := (hb3.block _ (by simp)).trans (heap_alloc_new w2 _)
  have B2 : Below w.heap.size w w2 := ((Below.refl _ w).alloc (Nat.le_refl _) (.cells #[.int .i64 0, .int .i64 0, .int .i64 0, .int .i64 0, .int .i64 0] 40)).trans (hb2.mono (by simp))
  have B3 : Below w.heap.size w w3 := (B2.alloc B2.size (.cells #[.int .i64 xt, .int .i64 xr, .int .i64 xf, .int .i64 xp, .int .i64 xl] 40)).trans (hb3.mono (by simp; omega))
  have u0 : w3.cell? ⟨w.heap.size, 0, none⟩ = some (.int .i64 0) := hZ.cell 0
  have v0 : w3.cell? ⟨w2.heap.size, 0, none⟩ = some (.int .i64 xt) := hX.cell 0
  have m0 := hZ.free 0
  have u1 : w3.cell? ⟨w.heap.size, 1, none⟩ = some (.int .i64 0) := hZ.cell 1
  have v1 : w3.cell? ⟨w2.heap.size, 1, none⟩ = some (.int .i64 xr) := hX.cell 1
  have m1 := hZ.free 1
  have u2 : w3.cell? ⟨w.heap.size, 2, none⟩ = some (.int .i64 0) := hZ.cell 2
  have v2 : w3.cell? ⟨w2.heap.size, 2, none⟩ = some (.int .i64 xf) := hX.cell 2
  have m2 := hZ.free 2
  have u3 : w3.cell? ⟨w.heap.size, 3, none⟩ = some (.int .i64 0) := hZ.cell 3
  have v3 : w3.cell? ⟨w2.heap.size, 3, none⟩ = some (.int .i64 xp) := hX.cell 3
  have m3 := hZ.free 3
  have u4 : w3.cell? ⟨w.heap.size, 4, none⟩ = some (.int .i64 0) := hZ.cell 4
  have v4 : w3.cell? ⟨w2.heap.size, 4, none⟩ = some (.int .i64 xl) := hX.cell 4
  have m4 := hZ.free 4
  have l2 : w2.heap.size < w3.heap.size := by omega
  have l1 : w.heap.size < w3.heap.size := by omega
  have HB := Lib.hid B3
  have HZ := Lib.hid hZ
  have l3 : w.heap.size < w3.heap.size + 1 := by omega
  clear n2 n3 hZ2 hZ hX B2 B3 hb2 hb3
  go_wp2
  obtain ⟨hS, hB⟩ := stored5 HZ.out HB.out (.int .i64 xt) (.int .i64 xr) (.int .i64 xf) (.int .i64 xp) (.int .i64 xl)
  refine bodyPost_ret (results_cell3 rfl _ _ w.heap.size 40 _ (0, 0) _ rfl (hS.alloc (.cells #[.int .i64 yt, .int .i64 yr, .int .i64 yf, .int .i64 yp, .int .i64 yl] 40)) Tryz.underlying40 rfl (by kernel_rfl)) rfl ⟨by rfl, hB.alloc hB.size (.cells #[.int .i64 yt, .int .i64 yr, .int .i64 yf, .int .i64 yp, .int .i64 yl] 40)⟩
set_option maxRecDepth 4000 in
set_option maxHeartbeats 800000 in
theorem rnewest_y (w : World) (a b : ByteArray) (xt xr xf xp xl yt yr yf yp yl e f : Int)
    (XC : ∀ w, Hid (Calls Tryz.prog 26 #[.string a] w fun e' w' => e' = .returned (.tuple #[.agg #[.int .i64 xt, .int .i64 xr, .int .i64 xf, .int .i64 xp, .int .i64 xl], .int .i64 e]) ∧ Below w.heap.size w w'))
    (YC : ∀ w, Hid (Calls Tryz.prog 26 #[.string b] w fun e' w' => e' = .returned (.tuple #[.agg #[.int .i64 yt, .int .i64 yr, .int .i64 yf, .int .i64 yp, .int .i64 yl], .int .i64 f]) ∧ Below w.heap.size w w'))
    (d1 : (e == 0) = false) (d2 : (f == 0) = true) :
    Calls Tryz.prog 25 #[.string a, .string b] w fun e' w' => e' = .returned (.tuple #[.agg #[.int .i64 yt, .int .i64 yr, .int .i64 yf, .int .i64 yp, .int .i64 yl], .int .i64 1, .int .i64 0]) ∧ Below w.heap.size w w' := by
  have hz : ∀ w, (zeroValue 40).run Tryz.prog w = .ok (.agg #[.int .i64 0, .int .i64 0, .int .i64 0, .int .i64 0, .int .i64 0]) w := fun w => by kernel_rfl
  go_enter Tryz.func25, Tryz.ntmps25
  go_wp2_with fail
  refine (XC _).out.mono ?_
  rintro _ w2 ⟨rfl, hb2⟩
  go_wp2_with fail
  refine (YC _).out.mono ?_
  rintro _ w3 ⟨rfl, hb3⟩
  have n2 := hb2.size
  have n3 := hb3.size
  rw [show (w.alloc (.cells #[.int .i64 0, .int .i64 0, .int .i64 0, .int .i64 0, .int .i64 0] 40)).heap.size = w.heap.size + 1 by simp] at n2
  rw [show (w2.alloc (.cells #[.int .i64 xt, .int .i64 xr, .int .i64 xf, .int .i64 xp, .int .i64 xl] 40)).heap.size = w2.heap.size + 1 by simp] at n3
  have hZ2 : Blk w2 w.heap.size #[.int .i64 0, .int .i64 0, .int .i64 0, .int .i64 0, .int .i64 0] 40 := (hb2.block _ (by simp)).trans (heap_alloc_new w _)
  have hZ : Blk w3 w.heap.size #[.int .i64 0, .int .i64 0, .int .i64 0, .int .i64 0, .int .i64 0] 40 := (hb3.block _ (by simp; omega)).trans (hZ2.alloc (.cells #[.int .i64 xt, .int .i64 xr, .int .i64 xf, .int .i64 xp, .int .i64 xl] 40))
  have hX : Blk w3 w2.heap.size #[.int .i64 xt, .int .i64 xr, .int .i64 xf, .int .i64 xp, .int .i64 xl] 40 := (hb3.block _ (by simp)).trans (heap_alloc_new w2 _)
  have B2 : Below w.heap.size w w2 := ((Below.refl _ w).alloc (Nat.le_refl _) (.cells #[.int .i64 0, .int .i64 0, .int .i64 0, .int .i64 0, .int .i64 0] 40)).trans (hb2.mono (by simp))
  have B3 : Below w.heap.size w w3 := (B2.alloc B2.size (.cells #[.int .i64 xt, .int .i64 xr, .int .i64 xf, .int .i64 xp, .int .i64 xl] 40)).trans (hb3.mono (by simp; omega))
  have u0 : w3.cell? ⟨w.heap.size, 0, none⟩ = some (.int .i64 0) := hZ.cell 0
  have v0 : w3.cell? ⟨w2.heap.size, 0, none⟩ = some (.int .i64 xt) := hX.cell 0
  have m0 := hZ.free 0
  have u1 : w3.cell? ⟨w.heap.size, 1, none⟩ = some (.int .i64 0) := hZ.cell 1
  have v1 : w3.cell? ⟨w2.heap.size, 1, none⟩ = some (.int .i64 xr) := hX.cell 1
  have m1 := hZ.free 1
  have u2 : w3.cell? ⟨w.heap.size, 2, none⟩ = some (.int .i64 0) := hZ.cell 2
  have v2 : w3.cell? ⟨w2.heap.size, 2, none⟩ = some (.int .i64 xf) := hX.cell 2
  have m2 := hZ.free 2
  have u3 : w3.cell? ⟨w.heap.size, 3, none⟩ = some (.int .i64 0) := hZ.cell 3
  have v3 : w3.cell? ⟨w2.heap.size, 3, none⟩ = some (.int .i64 xp) := hX.cell 3
  have m3 := hZ.free 3
  have u4 : w3.cell? ⟨w.heap.size, 4, none⟩ = some (.int .i64 0) := hZ.cell 4
  have v4 : w3.cell? ⟨w2.heap.size, 4, none⟩ = some (.int .i64 xl) := hX.cell 4
  have m4 := hZ.free 4
  have l2 : w2.heap.size < w3.heap.size := by omega
  have l1 : w.heap.size < w3.heap.size := by omega
  have HB := Lib.hid B3
  have HZ := Lib.hid hZ
  have l3 : w.heap.size < w3.heap.size + 1 := by omega
  clear n2 n3 hZ2 hZ hX B2 B3 hb2 hb3
  go_wp2
  obtain ⟨hS, hB⟩ := stored5 HZ.out HB.out (.int .i64 yt) (.int .i64 yr) (.int .i64 yf) (.int .i64 yp) (.int .i64 yl)
  refine bodyPost_ret (results_cell3 rfl _ _ w.heap.size 40 _ (0, 0) _ rfl (hS.alloc (.cells #[.int .i64 yt, .int .i64 yr, .int .i64 yf, .int .i64 yp, .int .i64 yl] 40)) Tryz.underlying40 rfl (by kernel_rfl)) rfl ⟨by rfl, hB.alloc hB.size (.cells #[.int .i64 yt, .int .i64 yr, .int .i64 yf, .int .i64 yp, .int .i64 yl] 40)⟩
set_option maxRecDepth 4000 in
set_option maxHeartbeats 800000 in
theorem rnewest_no (w : World) (a b : ByteArray) (xt xr xf xp xl yt yr yf yp yl e f : Int)
    (XC : ∀ w, Hid (Calls Tryz.prog 26 #[.string a] w fun e' w' => e' = .returned (.tuple #[.agg #[.int .i64 xt, .int .i64 xr, .int .i64 xf, .int .i64 xp, .int .i64 xl], .int .i64 e]) ∧ Below w.heap.size w w'))
    (YC : ∀ w, Hid (Calls Tryz.prog 26 #[.string b] w fun e' w' => e' = .returned (.tuple #[.agg #[.int .i64 yt, .int .i64 yr, .int .i64 yf, .int .i64 yp, .int .i64 yl], .int .i64 f]) ∧ Below w.heap.size w w'))
    (d1 : (e == 0) = false) (d2 : (f == 0) = false) :
    Calls Tryz.prog 25 #[.string a, .string b] w fun e' w' => e' = .returned (.tuple #[.agg #[.int .i64 0, .int .i64 0, .int .i64 0, .int .i64 0, .int .i64 0], .int .i64 0, .int .i64 4]) ∧ Below w.heap.size w w' := by
  have hz : ∀ w, (zeroValue 40).run Tryz.prog w = .ok (.agg #[.int .i64 0, .int .i64 0, .int .i64 0, .int .i64 0, .int .i64 0]) w := fun w => by kernel_rfl
  go_enter Tryz.func25, Tryz.ntmps25
  go_wp2_with fail
  refine (XC _).out.mono ?_
  rintro _ w2 ⟨rfl, hb2⟩
  go_wp2_with fail
  refine (YC _).out.mono ?_
  rintro _ w3 ⟨rfl, hb3⟩
  have n2 := hb2.size
  have n3 := hb3.size
  rw [show (w.alloc (.cells #[.int .i64 0, .int .i64 0, .int .i64 0, .int .i64 0, .int .i64 0] 40)).heap.size = w.heap.size + 1 by simp] at n2
  rw [show (w2.alloc (.cells #[.int .i64 xt, .int .i64 xr, .int .i64 xf, .int .i64 xp, .int .i64 xl] 40)).heap.size = w2.heap.size + 1 by simp] at n3
  have hZ2 : Blk w2 w.heap.size #[.int .i64 0, .int .i64 0, .int .i64 0, .int .i64 0, .int .i64 0] 40 := (hb2.block _ (by simp)).trans (heap_alloc_new w _)
  have hZ : Blk w3 w.heap.size #[.int .i64 0, .int .i64 0, .int .i64 0, .int .i64 0, .int .i64 0] 40 := (hb3.block _ (by simp; omega)).trans (hZ2.alloc (.cells #[.int .i64 xt, .int .i64 xr, .int .i64 xf, .int .i64 xp, .int .i64 xl] 40))
  have hX : Blk w3 w2.heap.size #[.int .i64 xt, .int .i64 xr, .int .i64 xf, .int .i64 xp, .int .i64 xl] 40 := (hb3.block _ (by simp)).trans (heap_alloc_new w2 _)
  have B2 : Below w.heap.size w w2 := ((Below.refl _ w).alloc (Nat.le_refl _) (.cells #[.int .i64 0, .int .i64 0, .int .i64 0, .int .i64 0, .int .i64 0] 40)).trans (hb2.mono (by simp))
  have B3 : Below w.heap.size w w3 := (B2.alloc B2.size (.cells #[.int .i64 xt, .int .i64 xr, .int .i64 xf, .int .i64 xp, .int .i64 xl] 40)).trans (hb3.mono (by simp; omega))
  have u0 : w3.cell? ⟨w.heap.size, 0, none⟩ = some (.int .i64 0) := hZ.cell 0
  have v0 : w3.cell? ⟨w2.heap.size, 0, none⟩ = some (.int .i64 xt) := hX.cell 0
  have m0 := hZ.free 0
  have u1 : w3.cell? ⟨w.heap.size, 1, none⟩ = some (.int .i64 0) := hZ.cell 1
  have v1 : w3.cell? ⟨w2.heap.size, 1, none⟩ = some (.int .i64 xr) := hX.cell 1
  have m1 := hZ.free 1
  have u2 : w3.cell? ⟨w.heap.size, 2, none⟩ = some (.int .i64 0) := hZ.cell 2
  have v2 : w3.cell? ⟨w2.heap.size, 2, none⟩ = some (.int .i64 xf) := hX.cell 2
  have m2 := hZ.free 2
  have u3 : w3.cell? ⟨w.heap.size, 3, none⟩ = some (.int .i64 0) := hZ.cell 3
  have v3 : w3.cell? ⟨w2.heap.size, 3, none⟩ = some (.int .i64 xp) := hX.cell 3
  have m3 := hZ.free 3
  have u4 : w3.cell? ⟨w.heap.size, 4, none⟩ = some (.int .i64 0) := hZ.cell 4
  have v4 : w3.cell? ⟨w2.heap.size, 4, none⟩ = some (.int .i64 xl) := hX.cell 4
  have m4 := hZ.free 4
  have l2 : w2.heap.size < w3.heap.size := by omega
  have l1 : w.heap.size < w3.heap.size := by omega
  have HB := Lib.hid B3
  have HZ := Lib.hid hZ
  have l3 : w.heap.size < w3.heap.size + 1 := by omega
  clear n2 n3 hZ2 hZ hX B2 B3 hb2 hb3
  go_wp2
  obtain ⟨hS, hB⟩ := stored5 HZ.out HB.out (.int .i64 0) (.int .i64 0) (.int .i64 0) (.int .i64 0) (.int .i64 0)
  refine bodyPost_ret (results_cell3 rfl _ _ w.heap.size 40 _ (0, 0) _ rfl (hS.alloc (.cells #[.int .i64 yt, .int .i64 yr, .int .i64 yf, .int .i64 yp, .int .i64 yl] 40)) Tryz.underlying40 rfl (by kernel_rfl)) rfl ⟨by rfl, hB.alloc hB.size (.cells #[.int .i64 yt, .int .i64 yr, .int .i64 yf, .int .i64 yp, .int .i64 yl] 40)⟩
theorem rnewest_ok (w : World) (a b : ByteArray) : Calls Tryz.prog 25 #[.string a, .string b] w fun e w' => e = .returned (.tuple #[(newestM a b).val, .int .i64 (newestI a b), .int .i64 (newestE a b)]) ∧ Below w.heap.size w w' := by
  have XC := fun w => Lib.hid (runpackM_ok w a)
  have YC := fun w => Lib.hid (runpackM_ok w b)
  cases ha : Page.readM a.data.toList with
  | none =>
    obtain ⟨x1, x2⟩ := runpackM_not a ha
    simp only [x1, x2] at XC
    cases hb : Page.readM b.data.toList with
    | none =>
      obtain ⟨y1, y2⟩ := runpackM_not b hb
      simp only [y1, y2] at YC
      have hn : Page.newest a.data.toList b.data.toList = none := by unfold Page.newest; rw [ha, hb]
      have e1 : newestM a b = MV.none ∧ newestI a b = 0 ∧ newestE a b = 4 := by unfold newestM newestI newestE; rw [hn]; exact ⟨rfl, rfl, rfl⟩
      rw [e1.1, e1.2.1, e1.2.2]
      exact rnewest_no w a b _ _ _ _ _ _ _ _ _ _ _ _ XC YC rfl rfl
    | some q =>
      have y1 : unpackM b = ofME q ∧ unpackME b = 0 := by unfold unpackM unpackME; rw [hb]; exact ⟨rfl, rfl⟩
      simp only [y1.1, y1.2] at YC
      have hn : Page.newest a.data.toList b.data.toList = some (q, 1) := by unfold Page.newest; rw [ha, hb]
      have e1 : newestM a b = ofME q ∧ newestI a b = 1 ∧ newestE a b = 0 := by unfold newestM newestI newestE; rw [hn]; exact ⟨rfl, rfl, rfl⟩
      rw [e1.1, e1.2.1, e1.2.2]
      exact rnewest_y w a b _ _ _ _ _ _ _ _ _ _ _ _ XC YC rfl rfl
  | some p =>
    have x1 : unpackM a = ofME p ∧ unpackME a = 0 := by unfold unpackM unpackME; rw [ha]; exact ⟨rfl, rfl⟩
    simp only [x1.1, x1.2] at XC
    cases hb : Page.readM b.data.toList with
    | none =>
      obtain ⟨y1, y2⟩ := runpackM_not b hb
      simp only [y1, y2] at YC
      have hn : Page.newest a.data.toList b.data.toList = some (p, 0) := by unfold Page.newest; rw [ha, hb]
      have e1 : newestM a b = ofME p ∧ newestI a b = 0 ∧ newestE a b = 0 := by unfold newestM newestI newestE; rw [hn]; exact ⟨rfl, rfl, rfl⟩
      rw [e1.1, e1.2.1, e1.2.2]
      exact rnewest_x w a b _ _ _ _ _ _ _ _ _ _ _ _ XC YC rfl rfl
    | some q =>
      have y1 : unpackM b = ofME q ∧ unpackME b = 0 := by unfold unpackM unpackME; rw [hb]; exact ⟨rfl, rfl⟩
      simp only [y1.1, y1.2] at YC
      by_cases hlt : p.txn < q.txn
      · have hn : Page.newest a.data.toList b.data.toList = some (q, 1) := by unfold Page.newest; rw [ha, hb]; simp only [if_pos hlt]
        have e1 : newestM a b = ofME q ∧ newestI a b = 1 ∧ newestE a b = 0 := by unfold newestM newestI newestE; rw [hn]; exact ⟨rfl, rfl, rfl⟩
        rw [e1.1, e1.2.1, e1.2.2]
        exact rnewest_yy w a b _ _ _ _ _ _ _ _ _ _ _ _ XC YC rfl rfl (decide_eq_true (by show (p.txn : Int) < q.txn; omega))
      · have hn : Page.newest a.data.toList b.data.toList = some (p, 0) := by unfold Page.newest; rw [ha, hb]; simp only [if_neg hlt]
        have e1 : newestM a b = ofME p ∧ newestI a b = 0 ∧ newestE a b = 0 := by unfold newestM newestI newestE; rw [hn]; exact ⟨rfl, rfl, rfl⟩
        rw [e1.1, e1.2.1, e1.2.2]
        exact rnewest_xy w a b _ _ _ _ _ _ _ _ _ _ _ _ XC YC rfl rfl (decide_eq_false (by show ¬ (p.txn : Int) < q.txn; omega))
/-- the reference's functions answer so -/
theorem refPage : PageKit 83 68 44 50 21 26 25 where
  right := rright_ok
  pack := fun w p _ => rpack_ok w p
  unpack := fun w s _ => runpack_ok w s
  rightM := rrightM_ok
  packM := rpackM_ok
  unpackM := fun w s _ => runpackM_ok w s
  newest := fun w a b _ _ => rnewest_ok w a b
end Go.Proofs.YtjgmlpfallakmaaGreat
end
