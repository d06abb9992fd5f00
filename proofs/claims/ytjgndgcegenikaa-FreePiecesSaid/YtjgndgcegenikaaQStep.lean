/-
  Plain laws of no statement: a region that draws its order, whose operations only read and whose callees leave a class of worlds alone: one operation at a time, in the text's order. Under any program. No conditions but those typed.
-/
import Derived.Deep.QuietTactic
import Derived.WalkKit
namespace Go.Proofs.Ytjgndgcegenikaa
theorem region_q {P : Program} {C : World → Prop} {id : Nat} {Q : Exit → Act → World → Prop} {a : Act} {w : World} {l : List Oper} (hm : P.follows .mixedOrders = true) (hB : Region.lexB .any l.toArray = true) (hC : C w.drew)
    (h : wpQuiet P l.toArray C (fun a' => ∀ w', C w' → Q .normal a' w') l a) : (Code.region id l.toArray true).wp P Q a w := wp_region_quiet (C := C) hm hB hC (by simpa using h)
section
variable {P : Program} {ops : Array Oper} {C : World → Prop} {Q : Act → Prop} {o : Oper} {rest : List Oper} {a : Act}
theorem q_op (v : Value) (hgd : o.guard = none) (hr : ∀ w, C w → (execOp a.eval o).run P w = .ok (.value v) w) (h : wpQuiet P ops C Q rest (a.put o.dst v)) : wpQuiet P ops C Q (o :: rest) a := by
  unfold wpQuiet
  rw [if_pos (by simp [Region.wanted, hgd])]
  exact ⟨v, fun w hw => by unfold Oper.quietAt; rw [hr w hw]; exact ⟨rfl, rfl⟩, h⟩
theorem func_enters {f : FuncId} {fn : Func} {c : Code} (hf : P.funcs[f]? = some fn) (hname : (fn.name == "runtime.NumGoroutine") = false) (hb : fn.body = some c) (args : Array Value) (w : World) : (callFunc f args).run P w = .ok (.enter f args) w := by
  have h1 : fn.name ≠ "runtime.NumGoroutine" := by simpa using hname
  simp [callFunc, hf, h1, hb, mark]
theorem q_call1 (v : Value) (hgd : o.guard = none) (f : FuncId) (x : Operand) (ts : Array TypeId) (ho : o.op = .call { callee := .value (.func f), args := #[x], argTypes := ts }) (u : Value) (hx : a.eval x = u)
    (hE : ∀ args w, (callFunc f args).run P w = .ok (.enter f args) w) (hc : ∀ w, C w → Calls P f #[u] w fun e w' => e = .returned v ∧ C w') (h : wpQuiet P ops C Q rest (a.put o.dst v)) : wpQuiet P ops C Q (o :: rest) a := by
  unfold wpQuiet
  rw [if_pos (by simp [Region.wanted, hgd])]
  refine ⟨v, fun w hw => ?_, h⟩
  have hf : a.eval (.func f) = .func (.func f) #[] #[] := rfl
  have hr : (execOp a.eval o).run P w = .ok (.enter f #[u]) w := by
    unfold execOp
    simp only [ho, resolve, List.map_toArray, List.map_cons, List.map_nil, hx, hf]
    simp [Deferred.ofValue, invoke, hE]
  unfold Oper.quietAt
  rw [hr]
  exact ⟨rfl, hc w hw⟩
theorem q_call2 (v : Value) (hgd : o.guard = none) (f : FuncId) (x y : Operand) (ts : Array TypeId) (ho : o.op = .call { callee := .value (.func f), args := #[x, y], argTypes := ts }) (u s : Value) (hx : a.eval x = u) (hy : a.eval y = s)
    (hE : ∀ args w, (callFunc f args).run P w = .ok (.enter f args) w) (hc : ∀ w, C w → Calls P f #[u, s] w fun e w' => e = .returned v ∧ C w') (h : wpQuiet P ops C Q rest (a.put o.dst v)) : wpQuiet P ops C Q (o :: rest) a := by
  unfold wpQuiet
  rw [if_pos (by simp [Region.wanted, hgd])]
  refine ⟨v, fun w hw => ?_, h⟩
  have hf : a.eval (.func f) = .func (.func f) #[] #[] := rfl
  have hr : (execOp a.eval o).run P w = .ok (.enter f #[u, s]) w := by
    unfold execOp
    simp only [ho, resolve, List.map_toArray, List.map_cons, List.map_nil, hx, hy, hf]
    simp [Deferred.ofValue, invoke, hE]
  unfold Oper.quietAt
  rw [hr]
  exact ⟨rfl, hc w hw⟩
/-- a guarded operation that is wanted -/
theorem q_opw (v : Value) (hw : Region.wanted o (yielded ops a.tmps) = true) (hr : ∀ w, C w → (execOp a.eval o).run P w = .ok (.value v) w) (h : wpQuiet P ops C Q rest (a.put o.dst v)) : wpQuiet P ops C Q (o :: rest) a := by
  unfold wpQuiet
  rw [if_pos hw]
  exact ⟨v, fun w hw => by unfold Oper.quietAt; rw [hr w hw]; exact ⟨rfl, rfl⟩, h⟩
theorem q_call1w (v : Value) (hw : Region.wanted o (yielded ops a.tmps) = true) (f : FuncId) (x : Operand) (ts : Array TypeId) (ho : o.op = .call { callee := .value (.func f), args := #[x], argTypes := ts }) (u : Value) (hx : a.eval x = u)
    (hE : ∀ args w, (callFunc f args).run P w = .ok (.enter f args) w) (hc : ∀ w, C w → Calls P f #[u] w fun e w' => e = .returned v ∧ C w') (h : wpQuiet P ops C Q rest (a.put o.dst v)) : wpQuiet P ops C Q (o :: rest) a := by
  unfold wpQuiet
  rw [if_pos hw]
  refine ⟨v, fun w hw => ?_, h⟩
  have hf : a.eval (.func f) = .func (.func f) #[] #[] := rfl
  have hr : (execOp a.eval o).run P w = .ok (.enter f #[u]) w := by
    unfold execOp
    simp only [ho, resolve, List.map_toArray, List.map_cons, List.map_nil, hx, hf]
    simp [Deferred.ofValue, invoke, hE]
  unfold Oper.quietAt
  rw [hr]
  exact ⟨rfl, hc w hw⟩
/-- a guarded operation that is not wanted -/
theorem q_skip (hw : Region.wanted o (yielded ops a.tmps) = false) (h : wpQuiet P ops C Q rest (a.put o.dst undef)) : wpQuiet P ops C Q (o :: rest) a := by
  unfold wpQuiet
  rw [if_neg (by rw [hw]; simp)]
  exact h
/-- 's + t' on texts -/
theorem q_add (hgd : o.guard = none) (t : TypeId) (x y : Operand) (ho : o.op = .binOp .add t x y t) (s u : ByteArray) (hx : a.eval x = .string s) (hy : a.eval y = .string u)
    (hn : s.size + u.size ≤ 9223372036854775807) (h : wpQuiet P ops C Q rest (a.put o.dst (.string (s ++ u)))) : wpQuiet P ops C Q (o :: rest) a := by
  refine q_op _ hgd (fun w _ => ?_) h
  unfold execOp
  simp only [ho, hx, hy]
  have hg : (eqGuard .add t x y (.string s) (.string u)).run P w = .ok () w := by simp [eqGuard]
  have hb : (binOp .add t (.string s) (.string u)).run P w = .ok (.string (s ++ u)) w := run_string_add_sum _ _ _ hn
  simp [hg, hb, Result.andThen]
end
/-! The same under a cover: what is left of the region is not laid open by what looks at a goal's type (regions with many guarded operations that are not wanted). -/
structure Cov (p : Prop) : Prop where
  out : p
theorem region_qh {P : Program} {C : World → Prop} {id : Nat} {Q : Exit → Act → World → Prop} {a : Act} {w : World} {l : List Oper} (hm : P.follows .mixedOrders = true) (hB : Region.lexB .any l.toArray = true) (hC : C w.drew)
    (h : Cov (wpQuiet P l.toArray C (fun a' => ∀ w', C w' → Q .normal a' w') l a)) : (Code.region id l.toArray true).wp P Q a w := region_q hm hB hC h.out
section
variable {P : Program} {ops : Array Oper} {C : World → Prop} {Q : Act → Prop} {o : Oper} {rest : List Oper} {a : Act}
theorem qh_nil (h : Cov (Q a)) : Cov (wpQuiet P ops C Q [] a) := Cov.mk (wpQuiet_nil h.out)
theorem qh_op (v : Value) (hgd : o.guard = none) (hr : ∀ w, C w → (execOp a.eval o).run P w = .ok (.value v) w) (h : Cov (wpQuiet P ops C Q rest (a.put o.dst v))) : Cov (wpQuiet P ops C Q (o :: rest) a) := Cov.mk (q_op v hgd hr h.out)
theorem qh_opw (v : Value) (hw : Region.wanted o (yielded ops a.tmps) = true) (hr : ∀ w, C w → (execOp a.eval o).run P w = .ok (.value v) w) (h : Cov (wpQuiet P ops C Q rest (a.put o.dst v))) : Cov (wpQuiet P ops C Q (o :: rest) a) := Cov.mk (q_opw v hw hr h.out)
theorem qh_skip (hw : Region.wanted o (yielded ops a.tmps) = false) (h : Cov (wpQuiet P ops C Q rest (a.put o.dst undef))) : Cov (wpQuiet P ops C Q (o :: rest) a) := Cov.mk (q_skip hw h.out)
theorem qh_call1 (v : Value) (hgd : o.guard = none) (f : FuncId) (x : Operand) (ts : Array TypeId) (ho : o.op = .call { callee := .value (.func f), args := #[x], argTypes := ts }) (u : Value) (hx : a.eval x = u)
    (hE : ∀ args w, (callFunc f args).run P w = .ok (.enter f args) w) (hc : ∀ w, C w → Calls P f #[u] w fun e w' => e = .returned v ∧ C w') (h : Cov (wpQuiet P ops C Q rest (a.put o.dst v))) : Cov (wpQuiet P ops C Q (o :: rest) a) := Cov.mk (q_call1 v hgd f x ts ho u hx hE hc h.out)
theorem qh_call1w (v : Value) (hw : Region.wanted o (yielded ops a.tmps) = true) (f : FuncId) (x : Operand) (ts : Array TypeId) (ho : o.op = .call { callee := .value (.func f), args := #[x], argTypes := ts }) (u : Value) (hx : a.eval x = u)
    (hE : ∀ args w, (callFunc f args).run P w = .ok (.enter f args) w) (hc : ∀ w, C w → Calls P f #[u] w fun e w' => e = .returned v ∧ C w') (h : Cov (wpQuiet P ops C Q rest (a.put o.dst v))) : Cov (wpQuiet P ops C Q (o :: rest) a) := Cov.mk (q_call1w v hw f x ts ho u hx hE hc h.out)
theorem qh_call2 (v : Value) (hgd : o.guard = none) (f : FuncId) (x y : Operand) (ts : Array TypeId) (ho : o.op = .call { callee := .value (.func f), args := #[x, y], argTypes := ts }) (u s : Value) (hx : a.eval x = u) (hy : a.eval y = s)
    (hE : ∀ args w, (callFunc f args).run P w = .ok (.enter f args) w) (hc : ∀ w, C w → Calls P f #[u, s] w fun e w' => e = .returned v ∧ C w') (h : Cov (wpQuiet P ops C Q rest (a.put o.dst v))) : Cov (wpQuiet P ops C Q (o :: rest) a) := Cov.mk (q_call2 v hgd f x y ts ho u s hx hy hE hc h.out)
/-- 's + t' on texts -/
theorem qh_add (hgd : o.guard = none) (t : TypeId) (x y : Operand) (ho : o.op = .binOp .add t x y t) (s u : ByteArray) (hx : a.eval x = .string s) (hy : a.eval y = .string u)
    (hn : s.size + u.size ≤ 9223372036854775807) (h : Cov (wpQuiet P ops C Q rest (a.put o.dst (.string (s ++ u))))) : Cov (wpQuiet P ops C Q (o :: rest) a) := Cov.mk (q_add hgd t x y ho s u hx hy hn h.out)
end
end Go.Proofs.Ytjgndgcegenikaa
