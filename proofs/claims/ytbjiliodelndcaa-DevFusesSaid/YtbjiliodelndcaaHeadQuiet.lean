/-
  Plain laws of no statement: a region that draws its order, whose head holds calls that write, and whose tail only reads and calls quietly: the head step by step under a condition on the world, the tail in one walk. Under any program. No conditions but those typed.
-/
import Derived.Deep.RegionHeld3
import Derived.Deep.QuietTactic
import Derived.BigQuiet
namespace Go.Proofs.Ytbjiliodelndcaa
section
variable {P : Program} {md : Region.Mode} {ops : Array Oper} {Q' : Exit → Act → World → Prop} {S C : World → Prop} {Q : Act → Prop}
/-- a tail that is quiet in the class C, all of whose worlds meet S -/
theorem wpAnyH_of_quiet (hCS : ∀ w, C w → S w) (hQ : ∀ a w, C w → Q a → Q' .normal a w) : ∀ (fuel : Nat) (listed : Array Bool) (a : Act) (w : World), C w →
    wpAnyQ P md ops C Q fuel listed a → wpAnyH P md ops Q' S fuel listed a w
  | 0, _, _, _, hw, h => ⟨h.1, hQ _ _ hw h.2⟩
  | fuel + 1, _, _, _, hw, h => ⟨fun h0 => hQ _ _ hw (h.1 h0), fun i hi => wpOp_of_qOp hw (fun a' w' hw' hk => ⟨hCS _ hw', wpAnyH_of_quiet hCS hQ fuel _ a' w' hw' hk⟩) (h.2 i hi)⟩
end
theorem take_0 {P : Program} {md : Region.Mode} {Q : Exit → Act → World → Prop} {S : World → Prop} {o : Oper} {l : List Oper} {v : Value} {fuel : Nat} {listed : Array Bool} {a : Act} {w : World}
    (hs : Region.noSelect (o :: l).toArray = true) (hf : Region.free md (o :: l).toArray listed 0 = true) (hr : (Region.ready md (o :: l).toArray listed).contains 0 = true)
    (hQ : ∀ c a w, Q (.panic c) (a.put o.dst v) w → Q (.panic c) a w) (hw : Region.wanted o (yielded (o :: l).toArray a.tmps) = true) (hy : ∀ w, S w → (execOp a.eval o).run P w = .ok (.value v) w) (hS : S w)
    (h : wpAnyH P md (o :: l).toArray Q S fuel (listed.setIfInBounds 0 true) (a.put o.dst v) w) : wpAnyH P md (o :: l).toArray Q S (fuel + 1) listed a w :=
  wpAnyH_take (i := 0) (oi := o) rfl hs hf hr hQ (Or.inl ⟨hw, hy⟩) hS h
theorem take_1 {P : Program} {md : Region.Mode} {Q : Exit → Act → World → Prop} {S : World → Prop} {x0 o : Oper} {l : List Oper} {v : Value} {fuel : Nat} {listed : Array Bool} {a : Act} {w : World}
    (hs : Region.noSelect (x0 :: o :: l).toArray = true) (hf : Region.free md (x0 :: o :: l).toArray listed 1 = true) (hr : (Region.ready md (x0 :: o :: l).toArray listed).contains 1 = true)
    (hQ : ∀ c a w, Q (.panic c) (a.put o.dst v) w → Q (.panic c) a w) (hw : Region.wanted o (yielded (x0 :: o :: l).toArray a.tmps) = true) (hy : ∀ w, S w → (execOp a.eval o).run P w = .ok (.value v) w) (hS : S w)
    (h : wpAnyH P md (x0 :: o :: l).toArray Q S fuel (listed.setIfInBounds 1 true) (a.put o.dst v) w) : wpAnyH P md (x0 :: o :: l).toArray Q S (fuel + 1) listed a w :=
  wpAnyH_take (i := 1) (oi := o) rfl hs hf hr hQ (Or.inl ⟨hw, hy⟩) hS h
theorem take_2 {P : Program} {md : Region.Mode} {Q : Exit → Act → World → Prop} {S : World → Prop} {x0 x1 o : Oper} {l : List Oper} {v : Value} {fuel : Nat} {listed : Array Bool} {a : Act} {w : World}
    (hs : Region.noSelect (x0 :: x1 :: o :: l).toArray = true) (hf : Region.free md (x0 :: x1 :: o :: l).toArray listed 2 = true) (hr : (Region.ready md (x0 :: x1 :: o :: l).toArray listed).contains 2 = true)
    (hQ : ∀ c a w, Q (.panic c) (a.put o.dst v) w → Q (.panic c) a w) (hw : Region.wanted o (yielded (x0 :: x1 :: o :: l).toArray a.tmps) = true) (hy : ∀ w, S w → (execOp a.eval o).run P w = .ok (.value v) w) (hS : S w)
    (h : wpAnyH P md (x0 :: x1 :: o :: l).toArray Q S fuel (listed.setIfInBounds 2 true) (a.put o.dst v) w) : wpAnyH P md (x0 :: x1 :: o :: l).toArray Q S (fuel + 1) listed a w :=
  wpAnyH_take (i := 2) (oi := o) rfl hs hf hr hQ (Or.inl ⟨hw, hy⟩) hS h
theorem take_3 {P : Program} {md : Region.Mode} {Q : Exit → Act → World → Prop} {S : World → Prop} {x0 x1 x2 o : Oper} {l : List Oper} {v : Value} {fuel : Nat} {listed : Array Bool} {a : Act} {w : World}
    (hs : Region.noSelect (x0 :: x1 :: x2 :: o :: l).toArray = true) (hf : Region.free md (x0 :: x1 :: x2 :: o :: l).toArray listed 3 = true) (hr : (Region.ready md (x0 :: x1 :: x2 :: o :: l).toArray listed).contains 3 = true)
    (hQ : ∀ c a w, Q (.panic c) (a.put o.dst v) w → Q (.panic c) a w) (hw : Region.wanted o (yielded (x0 :: x1 :: x2 :: o :: l).toArray a.tmps) = true) (hy : ∀ w, S w → (execOp a.eval o).run P w = .ok (.value v) w) (hS : S w)
    (h : wpAnyH P md (x0 :: x1 :: x2 :: o :: l).toArray Q S fuel (listed.setIfInBounds 3 true) (a.put o.dst v) w) : wpAnyH P md (x0 :: x1 :: x2 :: o :: l).toArray Q S (fuel + 1) listed a w :=
  wpAnyH_take (i := 3) (oi := o) rfl hs hf hr hQ (Or.inl ⟨hw, hy⟩) hS h
theorem take_4 {P : Program} {md : Region.Mode} {Q : Exit → Act → World → Prop} {S : World → Prop} {x0 x1 x2 x3 o : Oper} {l : List Oper} {v : Value} {fuel : Nat} {listed : Array Bool} {a : Act} {w : World}
    (hs : Region.noSelect (x0 :: x1 :: x2 :: x3 :: o :: l).toArray = true) (hf : Region.free md (x0 :: x1 :: x2 :: x3 :: o :: l).toArray listed 4 = true) (hr : (Region.ready md (x0 :: x1 :: x2 :: x3 :: o :: l).toArray listed).contains 4 = true)
    (hQ : ∀ c a w, Q (.panic c) (a.put o.dst v) w → Q (.panic c) a w) (hw : Region.wanted o (yielded (x0 :: x1 :: x2 :: x3 :: o :: l).toArray a.tmps) = true) (hy : ∀ w, S w → (execOp a.eval o).run P w = .ok (.value v) w) (hS : S w)
    (h : wpAnyH P md (x0 :: x1 :: x2 :: x3 :: o :: l).toArray Q S fuel (listed.setIfInBounds 4 true) (a.put o.dst v) w) : wpAnyH P md (x0 :: x1 :: x2 :: x3 :: o :: l).toArray Q S (fuel + 1) listed a w :=
  wpAnyH_take (i := 4) (oi := o) rfl hs hf hr hQ (Or.inl ⟨hw, hy⟩) hS h
theorem take_6 {P : Program} {md : Region.Mode} {Q : Exit → Act → World → Prop} {S : World → Prop} {x0 x1 x2 x3 x4 x5 o : Oper} {l : List Oper} {v : Value} {fuel : Nat} {listed : Array Bool} {a : Act} {w : World}
    (hs : Region.noSelect (x0 :: x1 :: x2 :: x3 :: x4 :: x5 :: o :: l).toArray = true) (hf : Region.free md (x0 :: x1 :: x2 :: x3 :: x4 :: x5 :: o :: l).toArray listed 6 = true) (hr : (Region.ready md (x0 :: x1 :: x2 :: x3 :: x4 :: x5 :: o :: l).toArray listed).contains 6 = true)
    (hQ : ∀ c a w, Q (.panic c) (a.put o.dst v) w → Q (.panic c) a w) (hw : Region.wanted o (yielded (x0 :: x1 :: x2 :: x3 :: x4 :: x5 :: o :: l).toArray a.tmps) = true) (hy : ∀ w, S w → (execOp a.eval o).run P w = .ok (.value v) w) (hS : S w)
    (h : wpAnyH P md (x0 :: x1 :: x2 :: x3 :: x4 :: x5 :: o :: l).toArray Q S fuel (listed.setIfInBounds 6 true) (a.put o.dst v) w) : wpAnyH P md (x0 :: x1 :: x2 :: x3 :: x4 :: x5 :: o :: l).toArray Q S (fuel + 1) listed a w :=
  wpAnyH_take (i := 6) (oi := o) rfl hs hf hr hQ (Or.inl ⟨hw, hy⟩) hS h
theorem take_7 {P : Program} {md : Region.Mode} {Q : Exit → Act → World → Prop} {S : World → Prop} {x0 x1 x2 x3 x4 x5 x6 o : Oper} {l : List Oper} {v : Value} {fuel : Nat} {listed : Array Bool} {a : Act} {w : World}
    (hs : Region.noSelect (x0 :: x1 :: x2 :: x3 :: x4 :: x5 :: x6 :: o :: l).toArray = true) (hf : Region.free md (x0 :: x1 :: x2 :: x3 :: x4 :: x5 :: x6 :: o :: l).toArray listed 7 = true) (hr : (Region.ready md (x0 :: x1 :: x2 :: x3 :: x4 :: x5 :: x6 :: o :: l).toArray listed).contains 7 = true)
    (hQ : ∀ c a w, Q (.panic c) (a.put o.dst v) w → Q (.panic c) a w) (hw : Region.wanted o (yielded (x0 :: x1 :: x2 :: x3 :: x4 :: x5 :: x6 :: o :: l).toArray a.tmps) = true) (hy : ∀ w, S w → (execOp a.eval o).run P w = .ok (.value v) w) (hS : S w)
    (h : wpAnyH P md (x0 :: x1 :: x2 :: x3 :: x4 :: x5 :: x6 :: o :: l).toArray Q S fuel (listed.setIfInBounds 7 true) (a.put o.dst v) w) : wpAnyH P md (x0 :: x1 :: x2 :: x3 :: x4 :: x5 :: x6 :: o :: l).toArray Q S (fuel + 1) listed a w :=
  wpAnyH_take (i := 7) (oi := o) rfl hs hf hr hQ (Or.inl ⟨hw, hy⟩) hS h
theorem take_8 {P : Program} {md : Region.Mode} {Q : Exit → Act → World → Prop} {S : World → Prop} {x0 x1 x2 x3 x4 x5 x6 x7 o : Oper} {l : List Oper} {v : Value} {fuel : Nat} {listed : Array Bool} {a : Act} {w : World}
    (hs : Region.noSelect (x0 :: x1 :: x2 :: x3 :: x4 :: x5 :: x6 :: x7 :: o :: l).toArray = true) (hf : Region.free md (x0 :: x1 :: x2 :: x3 :: x4 :: x5 :: x6 :: x7 :: o :: l).toArray listed 8 = true) (hr : (Region.ready md (x0 :: x1 :: x2 :: x3 :: x4 :: x5 :: x6 :: x7 :: o :: l).toArray listed).contains 8 = true)
    (hQ : ∀ c a w, Q (.panic c) (a.put o.dst v) w → Q (.panic c) a w) (hw : Region.wanted o (yielded (x0 :: x1 :: x2 :: x3 :: x4 :: x5 :: x6 :: x7 :: o :: l).toArray a.tmps) = true) (hy : ∀ w, S w → (execOp a.eval o).run P w = .ok (.value v) w) (hS : S w)
    (h : wpAnyH P md (x0 :: x1 :: x2 :: x3 :: x4 :: x5 :: x6 :: x7 :: o :: l).toArray Q S fuel (listed.setIfInBounds 8 true) (a.put o.dst v) w) : wpAnyH P md (x0 :: x1 :: x2 :: x3 :: x4 :: x5 :: x6 :: x7 :: o :: l).toArray Q S (fuel + 1) listed a w :=
  wpAnyH_take (i := 8) (oi := o) rfl hs hf hr hQ (Or.inl ⟨hw, hy⟩) hS h
theorem take_9 {P : Program} {md : Region.Mode} {Q : Exit → Act → World → Prop} {S : World → Prop} {x0 x1 x2 x3 x4 x5 x6 x7 x8 o : Oper} {l : List Oper} {v : Value} {fuel : Nat} {listed : Array Bool} {a : Act} {w : World}
    (hs : Region.noSelect (x0 :: x1 :: x2 :: x3 :: x4 :: x5 :: x6 :: x7 :: x8 :: o :: l).toArray = true) (hf : Region.free md (x0 :: x1 :: x2 :: x3 :: x4 :: x5 :: x6 :: x7 :: x8 :: o :: l).toArray listed 9 = true) (hr : (Region.ready md (x0 :: x1 :: x2 :: x3 :: x4 :: x5 :: x6 :: x7 :: x8 :: o :: l).toArray listed).contains 9 = true)
    (hQ : ∀ c a w, Q (.panic c) (a.put o.dst v) w → Q (.panic c) a w) (hw : Region.wanted o (yielded (x0 :: x1 :: x2 :: x3 :: x4 :: x5 :: x6 :: x7 :: x8 :: o :: l).toArray a.tmps) = true) (hy : ∀ w, S w → (execOp a.eval o).run P w = .ok (.value v) w) (hS : S w)
    (h : wpAnyH P md (x0 :: x1 :: x2 :: x3 :: x4 :: x5 :: x6 :: x7 :: x8 :: o :: l).toArray Q S fuel (listed.setIfInBounds 9 true) (a.put o.dst v) w) : wpAnyH P md (x0 :: x1 :: x2 :: x3 :: x4 :: x5 :: x6 :: x7 :: x8 :: o :: l).toArray Q S (fuel + 1) listed a w :=
  wpAnyH_take (i := 9) (oi := o) rfl hs hf hr hQ (Or.inl ⟨hw, hy⟩) hS h
theorem take_10 {P : Program} {md : Region.Mode} {Q : Exit → Act → World → Prop} {S : World → Prop} {x0 x1 x2 x3 x4 x5 x6 x7 x8 x9 o : Oper} {l : List Oper} {v : Value} {fuel : Nat} {listed : Array Bool} {a : Act} {w : World}
    (hs : Region.noSelect (x0 :: x1 :: x2 :: x3 :: x4 :: x5 :: x6 :: x7 :: x8 :: x9 :: o :: l).toArray = true) (hf : Region.free md (x0 :: x1 :: x2 :: x3 :: x4 :: x5 :: x6 :: x7 :: x8 :: x9 :: o :: l).toArray listed 10 = true) (hr : (Region.ready md (x0 :: x1 :: x2 :: x3 :: x4 :: x5 :: x6 :: x7 :: x8 :: x9 :: o :: l).toArray listed).contains 10 = true)
    (hQ : ∀ c a w, Q (.panic c) (a.put o.dst v) w → Q (.panic c) a w) (hw : Region.wanted o (yielded (x0 :: x1 :: x2 :: x3 :: x4 :: x5 :: x6 :: x7 :: x8 :: x9 :: o :: l).toArray a.tmps) = true) (hy : ∀ w, S w → (execOp a.eval o).run P w = .ok (.value v) w) (hS : S w)
    (h : wpAnyH P md (x0 :: x1 :: x2 :: x3 :: x4 :: x5 :: x6 :: x7 :: x8 :: x9 :: o :: l).toArray Q S fuel (listed.setIfInBounds 10 true) (a.put o.dst v) w) : wpAnyH P md (x0 :: x1 :: x2 :: x3 :: x4 :: x5 :: x6 :: x7 :: x8 :: x9 :: o :: l).toArray Q S (fuel + 1) listed a w :=
  wpAnyH_take (i := 10) (oi := o) rfl hs hf hr hQ (Or.inl ⟨hw, hy⟩) hS h
theorem step_5 {P : Program} {md : Region.Mode} {Q : Exit → Act → World → Prop} {S : World → Prop} {x0 x1 x2 x3 x4 o : Oper} {l : List Oper} {fuel : Nat} {listed : Array Bool} {a : Act} {w : World}
    (hr : Region.ready md (x0 :: x1 :: x2 :: x3 :: x4 :: o :: l).toArray listed = [5])
    (h : ∀ K' : Act → World → Prop, Shut (∀ a w, S w → (S w → wpAnyH P md (x0 :: x1 :: x2 :: x3 :: x4 :: o :: l).toArray Q S fuel (listed.setIfInBounds 5 true) a w) → K' a w) → if Region.wanted o (yielded (x0 :: x1 :: x2 :: x3 :: x4 :: o :: l).toArray a.tmps) = true then Oper.wp P o a w K' Q else K' (a.put o.dst undef) w) :
    wpAnyH P md (x0 :: x1 :: x2 :: x3 :: x4 :: o :: l).toArray Q S (fuel + 1) listed a w :=
  wpAnyH_ready hr (by simp) (AllReadyH.cons (o := o) rfl h AllReadyH.nil)
theorem step_11 {P : Program} {md : Region.Mode} {Q : Exit → Act → World → Prop} {S : World → Prop} {x0 x1 x2 x3 x4 x5 x6 x7 x8 x9 x10 o : Oper} {l : List Oper} {fuel : Nat} {listed : Array Bool} {a : Act} {w : World}
    (hr : Region.ready md (x0 :: x1 :: x2 :: x3 :: x4 :: x5 :: x6 :: x7 :: x8 :: x9 :: x10 :: o :: l).toArray listed = [11])
    (h : ∀ K' : Act → World → Prop, Shut (∀ a w, S w → (S w → wpAnyH P md (x0 :: x1 :: x2 :: x3 :: x4 :: x5 :: x6 :: x7 :: x8 :: x9 :: x10 :: o :: l).toArray Q S fuel (listed.setIfInBounds 11 true) a w) → K' a w) → if Region.wanted o (yielded (x0 :: x1 :: x2 :: x3 :: x4 :: x5 :: x6 :: x7 :: x8 :: x9 :: x10 :: o :: l).toArray a.tmps) = true then Oper.wp P o a w K' Q else K' (a.put o.dst undef) w) :
    wpAnyH P md (x0 :: x1 :: x2 :: x3 :: x4 :: x5 :: x6 :: x7 :: x8 :: x9 :: x10 :: o :: l).toArray Q S (fuel + 1) listed a w :=
  wpAnyH_ready hr (by simp) (AllReadyH.cons (o := o) rfl h AllReadyH.nil)
/-- behind twelve operations the tail, in its lexical order -/
theorem tail_12 {P : Program} {md : Region.Mode} {Q' : Exit → Act → World → Prop} {S : World → Prop} {x0 x1 x2 x3 x4 x5 x6 x7 x8 x9 x10 x11 : Oper} {l : List Oper} {fuel : Nat} {listed : Array Bool} {a : Act} {w : World}
    (hf : fuel = l.length) (hs : Region.noSelect (x0 :: x1 :: x2 :: x3 :: x4 :: x5 :: x6 :: x7 :: x8 :: x9 :: x10 :: x11 :: l).toArray = true) (hB : Region.lexFrom md (x0 :: x1 :: x2 :: x3 :: x4 :: x5 :: x6 :: x7 :: x8 :: x9 :: x10 :: x11 :: l).toArray l.length 12 listed = true) (hCS : ∀ n, S (w.drewN n))
    (h : wpQuiet P (x0 :: x1 :: x2 :: x3 :: x4 :: x5 :: x6 :: x7 :: x8 :: x9 :: x10 :: x11 :: l).toArray (fun w' => ∃ n, w' = w.drewN n) (fun a' => ∀ w', (∃ n, w' = w.drewN n) → Q' .normal a' w') l a) : wpAnyH P md (x0 :: x1 :: x2 :: x3 :: x4 :: x5 :: x6 :: x7 :: x8 :: x9 :: x10 :: x11 :: l).toArray Q' S fuel listed a w := by
  subst hf
  exact wpAnyH_of_quiet (C := fun w' => ∃ n, w' = w.drewN n) (fun w' ⟨n, hn⟩ => hn ▸ hCS n) (fun _ w' hw' h => h w' hw') _ _ _ _ ⟨0, rfl⟩ (wpAnyQ_lex hs l 12 listed a (fun j => by simp; rw [show 12 + j = j + 12 from by omega]; simp) hB h)
end Go.Proofs.Ytbjiliodelndcaa
