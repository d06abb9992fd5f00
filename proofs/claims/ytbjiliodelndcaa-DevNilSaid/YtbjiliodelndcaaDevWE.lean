/-
  What the program's dev.Write leaves, behind the append and the map's store. No conditions but those typed.
-/
import Derived.Test.YtbjiliodelndcaaDevN
namespace Go.Proofs.Ytbjiliodelndcaa
open Go.RowKit
theorem touch_own {w w1 : World} {v : Value} (h : w.grownBy w1 v.ownBlock) : Touch v.ownBlock.toList w w1 := ⟨h.os, h.tape, h.output, h.size, fun k hk hn => h.block k hk (fun e => hn (by rw [← e]; simp))⟩
theorem write_end {w1 w2 w3 : World} {p : Nat} {d d1 : RD} {F : List Nat} {vs : Value} {mb n : Nat} {f : Int → Option Value} {q : Nat} {s : ByteArray} {v0 : Value} {g cap : Nat}
    (e1 : d1.sector = d.sector) (hb : Blk w1 p #[.bool (!d1.off), vs, .map (some mb), .int .i64 d1.left, .int .i64 d.wrote, .int .i64 d1.count] 58)
    (hs : w1.ownsRow 0 62 128 vs d.sector.length (secs d.sector)) (hn : n ≤ d.row.length)
    (hr : ∀ k v, f k = some v → ∃ i : Nat, k = i ∧ i < d.sector.length ∧ RD.writes d.row i ≠ [] ∧ w1.ownsRow 0 62 128 v (RD.writes d.row i).length (secs (RD.writes d.row i)))
    (hr2 : ∀ i : Nat, RD.writes d.row i ≠ [] → ∃ v, f i = some v) (k1 : p ≠ mb ∧ vs.ownBlock ≠ some p ∧ vs.ownBlock ≠ some mb)
    (k2 : ∀ k v, f k = some v → v.ownBlock ≠ some p ∧ v.ownBlock ≠ some mb ∧ (∀ g, v.ownBlock = some g → vs.ownBlock ≠ some g))
    (k3 : ∀ k v k' v', f k = some v → f k' = some v' → k ≠ k' → ∀ g, v.ownBlock = some g → v'.ownBlock ≠ some g)
    (hm4 : p ∈ F ∧ mb ∈ F ∧ (∀ g, vs.ownBlock = some g → g ∈ F) ∧ ∀ k v, f k = some v → ∀ g, v.ownBlock = some g → g ∈ F) (hlt : ∀ k ∈ F, k < w1.heap.size)
    (hz : All128 d.sector) (hz2 : ∀ x ∈ d.row, x.2.size = 128) (hs8 : s.size = 128) (hq : q < d.sector.length) (hv0 : (f q).getD (.slice none 0 0) = v0) (T2 : Touch v0.ownBlock.toList w1 w2)
    (hown2 : w2.ownsRow 0 62 128 (.slice (some ⟨g, 0, none⟩) ((RD.writes d.row q).length + 1) cap) ((RD.writes d.row q).length + 1) (secs (RD.writes d.row q) ++ sbytes s))
    (hat : v0.ownBlock = some g ∨ w1.heap.size ≤ g) (hg2 : g < w2.heap.size)
    (hm3 : IMap w3 mb (n + 1) (mapPut f q (.slice (some ⟨g, 0, none⟩) ((RD.writes d.row q).length + 1) cap))) (hgr3 : w2.grownBy w3 (some mb)) :
    ∃ F', DevAt (w3.setCell ⟨p, 4, none⟩ (.int .i64 (d.wrote + 1))) p { d1 with row := d.row ++ [(q, s)], wrote := d.wrote + 1 } F' ∧ Touch F w1 (w3.setCell ⟨p, 4, none⟩ (.int .i64 (d.wrote + 1))) ∧ Grows F F' w1.heap.size := by
  obtain ⟨m1, m2, m3, m4⟩ := hm4
  have hv : ∀ x, v0.ownBlock = some x → ∃ v, f q = some v ∧ v = v0 := by
    intro x hx
    cases hf : f q with
    | none => rw [hf] at hv0; rw [← hv0] at hx; cases hx
    | some v => rw [hf] at hv0; exact ⟨v, rfl, hv0⟩
  have TM : Touch [mb] w2 w3 := ⟨hgr3.os, hgr3.tape, hgr3.output, hgr3.size, fun k hk hn => hgr3.block k hk (fun e => hn (by injection e with e; simp [e]))⟩
  have TP : Touch [p] w3 (w3.setCell ⟨p, 4, none⟩ (.int .i64 (d.wrote + 1))) := (Touch.refl _ _).setCell (.inl (by simp)) _
  have T4 : Touch (p :: mb :: v0.ownBlock.toList) w1 (w3.setCell ⟨p, 4, none⟩ (.int .i64 (d.wrote + 1))) :=
    (((T2.more (fun k hk => List.mem_cons_of_mem _ (List.mem_cons_of_mem _ hk))).trans TM (fun k hk => .inl (by simp only [List.mem_singleton] at hk; simp [hk])))).trans TP (fun k hk => .inl (by simp only [List.mem_singleton] at hk; simp [hk]))
  have away : ∀ k, k ≠ p → k ≠ mb → v0.ownBlock ≠ some k → k ∉ p :: mb :: v0.ownBlock.toList := by
    intro k h1 h2 h3 hm
    rcases List.mem_cons.1 hm with rfl | hm
    · exact h1 rfl
    · rcases List.mem_cons.1 hm with rfl | hm
      · exact h2 rfl
      · exact h3 (by simpa using hm)
  have hgp : g ≠ p ∧ g ≠ mb ∧ vs.ownBlock ≠ some g := by
    rcases hat with hat | hat
    · obtain ⟨v, hf, rfl⟩ := hv g hat
      obtain ⟨a, b, c⟩ := k2 q v hf
      exact ⟨fun e => a (by rw [hat, e]), fun e => b (by rw [hat, e]), c g hat⟩
    · exact ⟨fun e => by have := hlt p m1; omega, fun e => by have := hlt mb m2; omega, fun e => by have := hlt g (m3 g e); omega⟩
  have hput : ∀ k v, mapPut f q (.slice (some ⟨g, 0, none⟩) ((RD.writes d.row q).length + 1) cap) k = some v → (k = q ∧ v = .slice (some ⟨g, 0, none⟩) ((RD.writes d.row q).length + 1) cap) ∨ (k ≠ q ∧ f k = some v) := by
    intro k v h
    unfold mapPut at h
    split at h
    · rename_i hk
      injection h with h
      exact .inl ⟨hk, h.symm⟩
    · rename_i hk
      exact .inr ⟨hk, h⟩
  refine ⟨g :: F, ⟨vs, mb, n + 1, _, ?_, ?_, hm3.touch TP (by simp; exact Ne.symm k1.1), by simp; exact hn, ?_, ?_, k1, ?_, ?_, ⟨List.mem_cons_of_mem _ m1, List.mem_cons_of_mem _ m2, fun x hx => List.mem_cons_of_mem _ (m3 x hx), ?_⟩, ?_, by rw [e1]; exact hz, ?_⟩, ?_, ?_⟩
  · have hb3 : Blk w3 p #[.bool (!d1.off), vs, .map (some mb), .int .i64 d1.left, .int .i64 d.wrote, .int .i64 d1.count] 58 := by
      refine (hb.touch T2 ?_).touch TM (by simp; exact k1.1)
      intro hm
      obtain ⟨v, hf, rfl⟩ := hv p (by simpa using hm)
      exact (k2 q v hf).1 (by simpa using hm)
    exact hb3.set 4 _
  · show World.ownsRow _ 0 62 128 vs d1.sector.length (secs d1.sector)
    rw [e1]
    refine ownsRow_touch hs T4 (fun k hk => away k (fun e => k1.2.1 (by rw [hk, e])) (fun e => k1.2.2 (by rw [hk, e])) (fun e => ?_))
    obtain ⟨v, hf, rfl⟩ := hv k e
    exact (k2 q v hf).2.2 k e hk
  · intro k v h
    show ∃ i : Nat, k = i ∧ i < d1.sector.length ∧ RD.writes (d.row ++ [(q, s)]) i ≠ [] ∧ World.ownsRow _ 0 62 128 v (RD.writes (d.row ++ [(q, s)]) i).length (secs (RD.writes (d.row ++ [(q, s)]) i))
    rw [e1]
    rcases hput k v h with ⟨rfl, rfl⟩ | ⟨hk, hf⟩
    · refine ⟨q, rfl, hq, by rw [RD.writes_snoc, if_pos rfl]; simp, ?_⟩
      rw [RD.writes_snoc, if_pos rfl, secs_append, List.length_append, show secs [s] = sbytes s from by simp [secs]]
      refine ownsRow_touch (ownsRow_touch hown2 TM (fun x hx => ?_)) TP (fun x hx => ?_)
      · have : g = x := by simpa [Value.ownBlock] using hx
        subst this
        simpa using hgp.2.1
      · have : g = x := by simpa [Value.ownBlock] using hx
        subst this
        simpa using hgp.1
    · obtain ⟨i, rfl, hi, hw, ho⟩ := hr k v hf
      have hqi : ¬ q = i := fun e => hk (by rw [e])
      refine ⟨i, rfl, hi, by rw [RD.writes_snoc, if_neg hqi]; exact hw, ?_⟩
      rw [RD.writes_snoc, if_neg hqi]
      refine ownsRow_touch ho T4 (fun x hx => away x (fun e => (k2 _ v hf).1 (by rw [hx, e])) (fun e => (k2 _ v hf).2.1 (by rw [hx, e])) (fun e => ?_))
      obtain ⟨v', hf', rfl⟩ := hv x e
      exact k3 _ v _ v' hf hf' hk x hx e
  · intro i h
    by_cases hi : (i : Int) = q
    · exact ⟨_, by unfold mapPut; rw [if_pos hi]⟩
    · have h : RD.writes (d.row ++ [(q, s)]) i ≠ [] := h
      rw [RD.writes_snoc, if_neg (fun e => hi (by rw [← e]))] at h
      obtain ⟨v, hv⟩ := hr2 i h
      exact ⟨v, by unfold mapPut; rw [if_neg hi]; exact hv⟩
  · intro k v h
    rcases hput k v h with ⟨rfl, rfl⟩ | ⟨hk, hf⟩
    · refine ⟨fun e => hgp.1 (by simpa [Value.ownBlock] using e), fun e => hgp.2.1 (by simpa [Value.ownBlock] using e), fun x hx => ?_⟩
      have : g = x := by simpa [Value.ownBlock] using hx
      subst this
      exact hgp.2.2
    · exact k2 k v hf
  · intro k v k' v' h h' hne x hx hx'
    rcases hput k v h with ⟨rfl, rfl⟩ | ⟨hk, hf⟩ <;> rcases hput k' v' h' with ⟨rfl, rfl⟩ | ⟨hk', hf'⟩
    · exact hne rfl
    · have : g = x := by simpa [Value.ownBlock] using hx
      subst this
      rcases hat with hat | hat
      · obtain ⟨u, hu, rfl⟩ := hv g hat
        exact k3 _ u _ v' hu hf' hne g hat hx'
      · have := hlt g (m4 k' v' hf' g hx'); omega
    · have : g = x := by simpa [Value.ownBlock] using hx'
      subst this
      rcases hat with hat | hat
      · obtain ⟨u, hu, rfl⟩ := hv g hat
        exact k3 _ v _ u hf hu hne g hx hat
      · have := hlt g (m4 k v hf g hx); omega
    · exact k3 k v k' v' hf hf' hne x hx hx'
  · intro k v h x hx
    rcases hput k v h with ⟨rfl, rfl⟩ | ⟨hk, hf⟩
    · have : g = x := by simpa [Value.ownBlock] using hx
      subst this
      exact List.mem_cons_self
    · exact List.mem_cons_of_mem _ (m4 k v hf x hx)
  · intro k hk
    have s3 := Nat.le_trans TM.size TP.size
    rcases List.mem_cons.1 hk with rfl | hk
    · omega
    · have := hlt k hk
      have := T4.size
      omega
  · intro x hx
    rcases List.mem_append.1 hx with hx | hx
    · exact hz2 x hx
    · rw [List.mem_singleton.1 hx]; exact hs8
  · refine T4.more (fun k hk => ?_)
    rcases List.mem_cons.1 hk with rfl | hk
    · exact m1
    · rcases List.mem_cons.1 hk with rfl | hk
      · exact m2
      · obtain ⟨v, hf, rfl⟩ := hv k (by simpa using hk)
        exact m4 q v hf k (by simpa using hk)
  · intro k hk
    rcases List.mem_cons.1 hk with rfl | hk
    · rcases hat with hat | hat
      · obtain ⟨v, hf, rfl⟩ := hv k hat
        exact .inl (m4 q v hf k hat)
      · exact .inr hat
    · exact .inl hk
end Go.Proofs.Ytbjiliodelndcaa
