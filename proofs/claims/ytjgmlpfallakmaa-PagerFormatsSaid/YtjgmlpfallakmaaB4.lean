/-
  Contracts of the reference's Noughts and Number (rollbookref04): what each call answers, and that nothing that was in memory before has changed. No conditions but the numbers' ranges.
  Contracts of the reference's Right and RightMeta (rollbookref04). No conditions.
  Plain laws of no statement: the register's numbers in the spelling of a walk (xor, complement, shifts by one). No conditions but the numbers' ranges.
  Contracts of the reference's On and Sum (rollbookref02): what each call answers; memory stays as it is. No conditions but the numbers' ranges.
  Plain laws of no statement: a region that draws its order, whose operations only read and whose callees leave a class of worlds alone: one operation at a time, in the text's order. Under any program. No conditions but those typed.
  Contract of the reference's PackMeta (rollbookref04). No conditions.
  Contract of the reference's With (rollbookref04): a page's bytes with four bytes as sum. No conditions but the numbers' ranges.
  Contract of the reference's Pack (rollbookref04). Condition: a body of at most 2000 bytes.
  Plain laws of no statement: results of which the first lies in a variable of several cells. Under any program. No conditions but those typed.
  Contract of the reference's Unpack (rollbookref04). No conditions.
  Contract of the reference's UnpackMeta (rollbookref04). No conditions.
  Contract of the reference's Newest (rollbookref04). No conditions.
-/
import Derived.Test.YtjgmlpfallakmaaB3
import Derived.Lib.Hide
import Derived.Test.YtjgmlpfallakmaaProg
import Derived.WalkKit
import Derived.KernelRfl
import Derived.Laws.Bits64
import Derived.Deep.QuietTactic
import Derived.Laws.ResultCell
import Derived.Test.YtjgmlpfallakmaaB1
section
namespace Go.Proofs.Ytjgmlpfallakmaa
open Go.RowKit
theorem conv_i64_u64 (n : Nat) (h : n < 2 ^ 63) : IntKind.u64.wrap (n : Int) = (n : Int) := by
  simp [IntKind.wrap, IntKind.bits, IntKind.signed]
  omega
end Go.Proofs.Ytjgmlpfallakmaa
end
section
namespace Go.Proofs.Ytjgmlpfallakmaa
open Go.RowKit
end Go.Proofs.Ytjgmlpfallakmaa
end
section
namespace Go.Proofs.Ytjgmlpfallakmaa
open Go.RowKit
theorem wrap_u32n (n : Int) : IntKind.u32.wrap n = n % 4294967296 := by simp [IntKind.wrap, IntKind.bits, IntKind.signed]
theorem bits_xor_u32_nat (a b : Nat) (ha : a < 4294967296) (hb : b < 4294967296) : bits .xor .u32 (a : Int) (b : Int) = ((a ^^^ b : Nat) : Int) := by
  have hx : a ^^^ b < 2 ^ 32 := Nat.xor_lt_two_pow (by omega) (by omega)
  have h1 : (BitVec.ofInt 32 (a : Int)).toNat = a := by
    rw [BitVec.ofInt_natCast, BitVec.toNat_ofNat]; exact Nat.mod_eq_of_lt (by omega)
  have h2 : (BitVec.ofInt 32 (b : Int)).toNat = b := by
    rw [BitVec.ofInt_natCast, BitVec.toNat_ofNat]; exact Nat.mod_eq_of_lt (by omega)
  show IntKind.u32.wrap ((BitVec.ofInt 32 (a : Int) ^^^ BitVec.ofInt 32 (b : Int)).toNat : Int) = _
  rw [BitVec.toNat_xor, h1, h2, wrap_u32n]
  omega
theorem steps_snoc (k r : Nat) : Crc.steps (k + 1) r = Crc.step (Crc.steps k r) := by
  rw [Crc.steps_add]; rfl
theorem conv_u8_u32 (b : UInt8) : IntKind.u32.wrap (b.toNat : Int) = (b.toNat : Int) := by
  have := b.toNat_lt
  rw [wrap_u32n]; omega
theorem bits_not_u32 (x : Nat) (h : x < 4294967296) : bits .xor .u32 IntKind.u32.max (x : Int) = ((4294967295 - x : Nat) : Int) := by
  have e : IntKind.u32.max = ((4294967295 : Nat) : Int) := by decide
  rw [e, bits_xor_u32_nat _ _ (by omega) h]
  have h2 : (4294967295 : Nat) ^^^ x = 4294967295 - x := by
    have := congrArg BitVec.toNat (BitVec.allOnes_xor (x := BitVec.ofNat 32 x))
    rw [BitVec.toNat_xor, BitVec.toNat_not, BitVec.toNat_allOnes, BitVec.toNat_ofNat, Nat.mod_eq_of_lt (by omega)] at this
    simpa using this
  rw [h2]
theorem reg_take (r : Nat) (s : ByteArray) (k : Nat) (h : k < s.size) : Crc.reg r (s.data.toList.take (k + 1)) = Crc.byte (Crc.reg r (s.data.toList.take k)) s[k] := by
  rw [List.take_succ_eq_append_getElem (by simpa using h), Crc.reg_append]
  rfl
theorem sub_u32 (x : Nat) (h : x < 4294967296) : (4294967295 : Int) - (x : Int) = ((4294967295 - x : Nat) : Int) := by
  omega
theorem step_xor_form (x : Nat) (h : x % 2 = 1) (hx : x < 4294967296) : bits .xor .u32 ((x : Int) / 2) 3988292384 = ((Crc.step x : Nat) : Int) := by
  have := bits_xor_u32_nat (x / 2) 3988292384 (by omega) (by omega)
  unfold Crc.step
  rw [if_pos h, ← this]
  rfl
theorem conv_u8_mod (b : UInt8) : (b.toNat : Int) % 4294967296 = (b.toNat : Int) := by
  have := b.toNat_lt
  omega
theorem awake_sum : Crc.on 0 [49, 50, 51, 52, 53, 54, 55, 56, 57] = 3421780262 := by decide +kernel
end Go.Proofs.Ytjgmlpfallakmaa
end
section
namespace Go.Proofs.Ytjgmlpfallakmaa
open Go.RowKit
end Go.Proofs.Ytjgmlpfallakmaa
end
section
namespace Go.Proofs.Ytjgmlpfallakmaa
theorem region_q {P : Program} {C : World → Prop} {id : Nat} {Q : Exit → Act → World → Prop} {a : Act} {w : World} {l : List Oper} (hm : P.follows .mixedOrders = true) (hB : Region.lexB .any l.toArray = true) (hC : C w.drew)
    (h : wpQuiet P l.toArray C (fun a' => ∀ w', C w' → Q .normal a' w') l a) : (Code.region id l.toArray true).wp P Q a w := wp_region_quiet (C := C) hm hB hC (by simpa using h)
section
variable {P : Program} {ops : Array Oper} {C : World → Prop} {Q : Act → Prop} {o : Oper} {rest : List Oper} {a : Act}
theorem q_op (v : Value) (hgd : o.guard = none) (hr : ∀ w, C w → (execOp a.eval o).run P w = .ok (.value v) w) (h : wpQuiet P ops C Q rest (a.put o.dst v)) : wpQuiet P ops C Q (o :: rest) a := by
  unfold wpQuiet
  rw [if_pos (by simp [Region.wanted, hgd])]
  exact ⟨v, fun w hw => by unfold Oper.quietAt; rw [hr w hw]; exact ⟨rfl, rfl⟩, h⟩
theorem func_enters {f : FuncId} {fn : Func} {c : Code} (hf : P.funcs[f]? = some fn) (hname : (fn.name == "runtime.NumGoroutine") = false) (hb : fn.body = some c) (args : Array Value) (w : World) : (callFunc f args).run P w = .ok (.enter f args) w := by
  have h1 : fn.name ≠ "runtime.NumGoroutine" := by simpa using hname
  simp [callFunc, hf, h1, hb, mark]
theorem q_call1 (v : Value) (hgd : o.guard = none) (f : FuncId) (x : Operand) (ts : Array TypeId) (ho : o.op = .call { callee := .value (.func f), args := #[x], argTypes := ts }) (u : Value) (hx : a.eval x = u)
    (hE : ∀ args w, (callFunc f args).run P w = .ok (.enter f args) w) (hc : ∀ w, C w → Calls P f #[u] w fun e w' => e = .returned v ∧ C w') (h : wpQuiet P ops C Q rest (a.put o.dst v)) : wpQuiet P ops C Q (o :: rest) a := by
  unfold wpQuiet
  rw [if_pos (by simp [Region.wanted, hgd])]
  refine ⟨v, fun w hw => ?_, h⟩
  have hf : a.eval (.func f) = .func (.func f) #[] #[] := rfl
  have hr : (execOp a.eval o).run P w = .ok (.enter f #[u]) w := by
    unfold execOp
    simp only [ho, resolve, List.map_toArray, List.map_cons, List.map_nil, hx, hf]
    simp [Deferred.ofValue, invoke, hE]
  unfold Oper.quietAt
  rw [hr]
  exact ⟨rfl, hc w hw⟩
theorem q_call2 (v : Value) (hgd : o.guard = none) (f : FuncId) (x y : Operand) (ts : Array TypeId) (ho : o.op = .call { callee := .value (.func f), args := #[x, y], argTypes := ts }) (u s : Value) (hx : a.eval x = u) (hy : a.eval y = s)
    (hE : ∀ args w, (callFunc f args).run P w = .ok (.enter f args) w) (hc : ∀ w, C w → Calls P f #[u, s] w fun e w' => e = .returned v ∧ C w') (h : wpQuiet P ops C Q rest (a.put o.dst v)) : wpQuiet P ops C Q (o :: rest) a := by
  unfold wpQuiet
  rw [if_pos (by simp [Region.wanted, hgd])]
  refine ⟨v, fun w hw => ?_, h⟩
  have hf : a.eval (.func f) = .func (.func f) #[] #[] := rfl
  have hr : (execOp a.eval o).run P w = .ok (.enter f #[u, s]) w := by
    unfold execOp
    simp only [ho, resolve, List.map_toArray, List.map_cons, List.map_nil, hx, hy, hf]
    simp [Deferred.ofValue, invoke, hE]
  unfold Oper.quietAt
  rw [hr]
  exact ⟨rfl, hc w hw⟩
/-- a guarded operation that is wanted -/
theorem q_opw (v : Value) (hw : Region.wanted o (yielded ops a.tmps) = true) (hr : ∀ w, C w → (execOp a.eval o).run P w = .ok (.value v) w) (h : wpQuiet P ops C Q rest (a.put o.dst v)) : wpQuiet P ops C Q (o :: rest) a := by
  unfold wpQuiet
  rw [if_pos hw]
  exact ⟨v, fun w hw => by unfold Oper.quietAt; rw [hr w hw]; exact ⟨rfl, rfl⟩, h⟩
theorem q_call1w (v : Value) (hw : Region.wanted o (yielded ops a.tmps) = true) (f : FuncId) (x : Operand) (ts : Array TypeId) (ho : o.op = .call { callee := .value (.func f), args := #[x], argTypes := ts }) (u : Value) (hx : a.eval x = u)
    (hE : ∀ args w, (callFunc f args).run P w = .ok (.enter f args) w) (hc : ∀ w, C w → Calls P f #[u] w fun e w' => e = .returned v ∧ C w') (h : wpQuiet P ops C Q rest (a.put o.dst v)) : wpQuiet P ops C Q (o :: rest) a := by
  unfold wpQuiet
  rw [if_pos hw]
  refine ⟨v, fun w hw => ?_, h⟩
  have hf : a.eval (.func f) = .func (.func f) #[] #[] := rfl
  have hr : (execOp a.eval o).run P w = .ok (.enter f #[u]) w := by
    unfold execOp
    simp only [ho, resolve, List.map_toArray, List.map_cons, List.map_nil, hx, hf]
    simp [Deferred.ofValue, invoke, hE]
  unfold Oper.quietAt
  rw [hr]
  exact ⟨rfl, hc w hw⟩
/-- a guarded operation that is not wanted -/
theorem q_skip (hw : Region.wanted o (yielded ops a.tmps) = false) (h : wpQuiet P ops C Q rest (a.put o.dst undef)) : wpQuiet P ops C Q (o :: rest) a := by
  unfold wpQuiet
  rw [if_neg (by rw [hw]; simp)]
  exact h
/-- 's + t' on texts -/
theorem q_add (hgd : o.guard = none) (t : TypeId) (x y : Operand) (ho : o.op = .binOp .add t x y t) (s u : ByteArray) (hx : a.eval x = .string s) (hy : a.eval y = .string u)
    (hn : s.size + u.size ≤ 9223372036854775807) (h : wpQuiet P ops C Q rest (a.put o.dst (.string (s ++ u)))) : wpQuiet P ops C Q (o :: rest) a := by
  refine q_op _ hgd (fun w _ => ?_) h
  unfold execOp
  simp only [ho, hx, hy]
  have hg : (eqGuard .add t x y (.string s) (.string u)).run P w = .ok () w := by simp [eqGuard]
  have hb : (binOp .add t (.string s) (.string u)).run P w = .ok (.string (s ++ u)) w := run_string_add_sum _ _ _ hn
  simp [hg, hb, Result.andThen]
end
/-! The same under a cover: what is left of the region is not laid open by what looks at a goal's type (regions with many guarded operations that are not wanted). -/
structure Cov (p : Prop) : Prop where
  out : p
theorem region_qh {P : Program} {C : World → Prop} {id : Nat} {Q : Exit → Act → World → Prop} {a : Act} {w : World} {l : List Oper} (hm : P.follows .mixedOrders = true) (hB : Region.lexB .any l.toArray = true) (hC : C w.drew)
    (h : Cov (wpQuiet P l.toArray C (fun a' => ∀ w', C w' → Q .normal a' w') l a)) : (Code.region id l.toArray true).wp P Q a w := region_q hm hB hC h.out
section
variable {P : Program} {ops : Array Oper} {C : World → Prop} {Q : Act → Prop} {o : Oper} {rest : List Oper} {a : Act}
theorem qh_nil (h : Cov (Q a)) : Cov (wpQuiet P ops C Q [] a) := Cov.mk (wpQuiet_nil h.out)
theorem qh_op (v : Value) (hgd : o.guard = none) (hr : ∀ w, C w → (execOp a.eval o).run P w = .ok (.value v) w) (h : Cov (wpQuiet P ops C Q rest (a.put o.dst v))) : Cov (wpQuiet P ops C Q (o :: rest) a) := Cov.mk (q_op v hgd hr h.out)
theorem qh_opw (v : Value) (hw : Region.wanted o (yielded ops a.tmps) = true) (hr : ∀ w, C w → (execOp a.eval o).run P w = .ok (.value v) w) (h : Cov (wpQuiet P ops C Q rest (a.put o.dst v))) : Cov (wpQuiet P ops C Q (o :: rest) a) := Cov.mk (q_opw v hw hr h.out)
theorem qh_skip (hw : Region.wanted o (yielded ops a.tmps) = false) (h : Cov (wpQuiet P ops C Q rest (a.put o.dst undef))) : Cov (wpQuiet P ops C Q (o :: rest) a) := Cov.mk (q_skip hw h.out)
theorem qh_call1 (v : Value) (hgd : o.guard = none) (f : FuncId) (x : Operand) (ts : Array TypeId) (ho : o.op = .call { callee := .value (.func f), args := #[x], argTypes := ts }) (u : Value) (hx : a.eval x = u)
    (hE : ∀ args w, (callFunc f args).run P w = .ok (.enter f args) w) (hc : ∀ w, C w → Calls P f #[u] w fun e w' => e = .returned v ∧ C w') (h : Cov (wpQuiet P ops C Q rest (a.put o.dst v))) : Cov (wpQuiet P ops C Q (o :: rest) a) := Cov.mk (q_call1 v hgd f x ts ho u hx hE hc h.out)
theorem qh_call1w (v : Value) (hw : Region.wanted o (yielded ops a.tmps) = true) (f : FuncId) (x : Operand) (ts : Array TypeId) (ho : o.op = .call { callee := .value (.func f), args := #[x], argTypes := ts }) (u : Value) (hx : a.eval x = u)
    (hE : ∀ args w, (callFunc f args).run P w = .ok (.enter f args) w) (hc : ∀ w, C w → Calls P f #[u] w fun e w' => e = .returned v ∧ C w') (h : Cov (wpQuiet P ops C Q rest (a.put o.dst v))) : Cov (wpQuiet P ops C Q (o :: rest) a) := Cov.mk (q_call1w v hw f x ts ho u hx hE hc h.out)
end
end Go.Proofs.Ytjgmlpfallakmaa
end
section
namespace Go.Proofs.Ytjgmlpfallakmaa
open Go.RowKit
theorem head_bytes (m : Page.ME) : ba (Page.headM m) = ba [82, 79, 76, 76, 66, 79, 79, 75] ++ ba (beB m.txn 8 0) ++ ba (beB m.root 4 0) ++ ba (beB m.free 4 0) ++ ba (beB m.pages 4 0) ++ ba (beB m.limit 4 0) := by
  simp only [ba_append]
  congr 1
end Go.Proofs.Ytjgmlpfallakmaa
end
section
namespace Go.Proofs.Ytjgmlpfallakmaa
open Go.RowKit
theorem with_bytes (p : Page.PG) (sum : ByteArray) : ba (Page.withSum p sum.data.toList) = (ba [82, 66] ++ ba (beB p.kind 1 0) ++ ba (Page.noughts 1) ++ ba (beB p.body.length 2 0) ++ ba (beB p.no 4 0) ++ ba (beB p.txn 8 0) ++ sum ++ ba (Page.noughts 2) ++ ba p.body ++ ba (Page.noughts (488 - p.body.length))) := by
  conv => rhs; rw [← ba_data sum]
  simp only [ba_append]
  congr 1
  unfold Page.withSum Page.noughts
  simp [List.replicate]
end Go.Proofs.Ytjgmlpfallakmaa
end
section
namespace Go.Proofs.Ytjgmlpfallakmaa
open Go.RowKit
end Go.Proofs.Ytjgmlpfallakmaa
end
section
namespace Go.Proofs.Ytjgmlpfallakmaa
theorem results_cell2 {P : Program} {fn : Func} {p u : Tmp} {ty : TypeId} (h : fn.results = #[.cell p ty, .tmp u]) (tmps : Array Value) (w : World) (g : Nat) (t : TypeId) (cs : Array Value) (fr : Nat × Nat) (d : TypeDesc)
    (hp : tmps.getD p undef = .pointer (some ⟨g, 0, none⟩)) (hg : w.heap[g]? = some (.cells cs t fr)) (hu : P.underlying ty = some d) (hd : (match d with | .struct _ | .array _ _ => true | _ => false) = true) (hi : (P.info? ty).map (·.size) = some cs.size) :
    (results fn tmps).run P w = .ok (.tuple #[.agg cs, tmps.getD u undef]) w := by
  have hp' : tmps[p]?.getD undef = .pointer (some ⟨g, 0, none⟩) := by simpa using hp
  simp [results, h, hp', asAddr, run_loadVar_row w g t ty cs fr d hg hu hd hi]
theorem results_cell1 {P : Program} {fn : Func} {p : Tmp} {ty : TypeId} (h : fn.results = #[.cell p ty]) (tmps : Array Value) (w : World) (g : Nat) (t : TypeId) (cs : Array Value) (fr : Nat × Nat) (d : TypeDesc)
    (hp : tmps.getD p undef = .pointer (some ⟨g, 0, none⟩)) (hg : w.heap[g]? = some (.cells cs t fr)) (hu : P.underlying ty = some d) (hd : (match d with | .struct _ | .array _ _ => true | _ => false) = true) (hi : (P.info? ty).map (·.size) = some cs.size) :
    (results fn tmps).run P w = .ok (.agg cs) w := by
  have hp' : tmps[p]?.getD undef = .pointer (some ⟨g, 0, none⟩) := by simpa using hp
  simp [results, h, hp', asAddr, run_loadVar_row w g t ty cs fr d hg hu hd hi]
theorem results_cell3 {P : Program} {fn : Func} {p u v : Tmp} {ty : TypeId} (h : fn.results = #[.cell p ty, .tmp u, .tmp v]) (tmps : Array Value) (w : World) (g : Nat) (t : TypeId) (cs : Array Value) (fr : Nat × Nat) (d : TypeDesc)
    (hp : tmps.getD p undef = .pointer (some ⟨g, 0, none⟩)) (hg : w.heap[g]? = some (.cells cs t fr)) (hu : P.underlying ty = some d) (hd : (match d with | .struct _ | .array _ _ => true | _ => false) = true) (hi : (P.info? ty).map (·.size) = some cs.size) :
    (results fn tmps).run P w = .ok (.tuple #[.agg cs, tmps.getD u undef, tmps.getD v undef]) w := by
  have hp' : tmps[p]?.getD undef = .pointer (some ⟨g, 0, none⟩) := by simpa using hp
  simp [results, h, hp', asAddr, run_loadVar_row w g t ty cs fr d hg hu hd hi]
end Go.Proofs.Ytjgmlpfallakmaa
end
section
namespace Go.Proofs.Ytjgmlpfallakmaa
open Go.RowKit
theorem runpack_not (s : ByteArray) (h : Page.read s.data.toList = none) : unpackP s = PV.none ∧ unpackE s = 4 := by
  unfold unpackP unpackE
  rw [h]
  exact ⟨rfl, rfl⟩
theorem extract_ba (s : ByteArray) (a n : Nat) : s.extract a (a + n) = ba ((s.data.toList.drop a).take n) := by
  apply ByteArray.ext
  apply Array.ext'
  rw [data_ba]
  simp [ByteArray.data_extract]
theorem list_size (s : ByteArray) : s.data.toList.length = s.size := by rw [Array.length_toList]; rfl
end Go.Proofs.Ytjgmlpfallakmaa
end
section
namespace Go.Proofs.Ytjgmlpfallakmaa
open Go.RowKit
theorem runpackM_not (s : ByteArray) (h : Page.readM s.data.toList = none) : unpackM s = MV.none ∧ unpackME s = 4 := by
  unfold unpackM unpackME
  rw [h]
  exact ⟨rfl, rfl⟩
end Go.Proofs.Ytjgmlpfallakmaa
end
section
namespace Go.Proofs.Ytjgmlpfallakmaa
open Go.RowKit
theorem stored5 {w w4 : World} {z0 z1 z2 z3 z4 : Value} {t : TypeId} (hZ : Blk w4 w.heap.size #[z0, z1, z2, z3, z4] t) (hB : Below w.heap.size w w4) (v0 v1 v2 v3 v4 : Value) :
    Blk (((((w4.setCell ⟨w.heap.size, 0, none⟩ v0).setCell ⟨w.heap.size, 1, none⟩ v1).setCell ⟨w.heap.size, 2, none⟩ v2).setCell ⟨w.heap.size, 3, none⟩ v3).setCell ⟨w.heap.size, 4, none⟩ v4) w.heap.size #[v0, v1, v2, v3, v4] t ∧ Below w.heap.size w (((((w4.setCell ⟨w.heap.size, 0, none⟩ v0).setCell ⟨w.heap.size, 1, none⟩ v1).setCell ⟨w.heap.size, 2, none⟩ v2).setCell ⟨w.heap.size, 3, none⟩ v3).setCell ⟨w.heap.size, 4, none⟩ v4) :=
  ⟨(((((hZ.set 0 v0).set 1 v1).set 2 v2).set 3 v3).set 4 v4), (((((hB.setCell (p := ⟨w.heap.size, 0, none⟩) (Nat.le_refl _) v0).setCell (p := ⟨w.heap.size, 1, none⟩) (Nat.le_refl _) v1).setCell (p := ⟨w.heap.size, 2, none⟩) (Nat.le_refl _) v2).setCell (p := ⟨w.heap.size, 3, none⟩) (Nat.le_refl _) v3).setCell (p := ⟨w.heap.size, 4, none⟩) (Nat.le_refl _) v4)⟩
end Go.Proofs.Ytjgmlpfallakmaa
end
