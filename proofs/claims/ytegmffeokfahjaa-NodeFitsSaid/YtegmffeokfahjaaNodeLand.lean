/-
  Plain laws of no statement: a node's bytes read cell by cell, each at the place that its slot names, and held against nothing: the same cells as those whose bytes they are. No conditions but those typed.
-/
import Derived.Test.YtegmffeokfahjaaNodeUniq
namespace Go.Proofs.Ytegmffeokfahjaa
theorem beB_down (n k d : Nat) : beB n (k + 1) (d + 1) = beB (n / 256) k d := by
  unfold beB
  have e0 : k + 1 - (d + 1) = k - d := by omega
  rw [e0]
  apply List.map_congr_left
  intro j hj
  rw [List.mem_range] at hj
  congr 1
  have e : 8 * (k + 1 - 1 - j) = 8 + 8 * (k - 1 - j) := by omega
  rw [e, Nat.pow_add, Nat.div_div_eq_div_mul]
theorem beB_beN (l : List UInt8) : beB (beN l) l.length 0 = l := by
  induction h : l.length generalizing l with
  | zero => rw [List.eq_nil_of_length_eq_zero h]; rfl
  | succ k ih =>
    obtain ⟨m, b, rfl⟩ : ∃ m b, l = m ++ [b] := by
      refine ⟨l.dropLast, l.getLast (by rintro rfl; simp at h), (List.dropLast_concat_getLast _).symm⟩
    have hm : m.length = k := by rw [List.length_append] at h; simpa using h
    rw [beN_snoc, beB_snoc _ _ _ (by omega), beB_down]
    have e1 : (beN m * 256 + b.toNat) / 256 = beN m := by have := b.toNat_lt; omega
    have e2 : UInt8.ofNat ((beN m * 256 + b.toNat) / 2 ^ (8 * 0)) = b := by
      apply UInt8.toNat_inj.1
      have := b.toNat_lt
      simp
    rw [e1, ih m hm, e2]
namespace Node
/-- one cell, as it is taken: all its numbers are there -/
def takeOne (leaf : Bool) (s : List UInt8) (a : Nat) : Option (CL × Nat) :=
  match text s a with
  | none => none
  | some (k, b) =>
    if leaf then
      (if b + 1 ≤ s.length then
        (if num s b 1 = 0 then (match text s (b + 1) with
          | none => none
          | some (v, e) => some (⟨k, 0, v, 0, 0⟩, e))
        else if num s b 1 = 1 then (if b + 9 ≤ s.length ∧ 0 < num s (b + 1) 4 then some (⟨k, 0, [], num s (b + 1) 4, num s (b + 5) 4⟩, b + 9) else none)
        else none)
      else none)
    else (if b + 4 ≤ s.length then some (⟨k, num s b 4, [], 0, 0⟩, b + 4) else none)
theorem num_take (s : List UInt8) (a k : Nat) (h : a + k ≤ s.length) : beB (num s a k) k 0 = (s.drop a).take k := by
  unfold num
  rw [if_pos h]
  have hl : ((s.drop a).take k).length = k := by rw [List.length_take, List.length_drop]; omega
  have := beB_beN ((s.drop a).take k)
  rw [hl] at this
  exact this
theorem take_two {α : Type} (s : List α) (a k j : Nat) : (s.drop a).take k ++ (s.drop (a + k)).take j = (s.drop a).take (k + j) := by
  rw [List.take_add, List.drop_drop]
theorem text_take {s : List UInt8} {a : Nat} {t : List UInt8} {b : Nat} (h : text s a = some (t, b)) : b ≤ s.length ∧ b = a + (2 + t.length) ∧ t.length < 65536 ∧ beB t.length 2 0 ++ t = (s.drop a).take (2 + t.length) := by
  unfold text at h
  split at h
  · rename_i hh
    injection h with h
    injection h with h1 h2
    have hlen : t.length = num s a 2 := by
      rw [← h1, List.length_take, List.length_drop]; omega
    refine ⟨by omega, by omega, ?_, ?_⟩
    · rw [hlen]; exact num_lt s a 2
    · rw [hlen, num_take s a 2 hh.1, ← h1, take_two]
  · cases h
theorem takeOne_sound {leaf : Bool} {s : List UInt8} {a : Nat} {c : CL} {b : Nat} (h : takeOne leaf s a = some (c, b)) :
    b ≤ s.length ∧ b = a + long leaf c ∧ (s.drop a).take (long leaf c) = one leaf c ∧ c.key.length ≤ s.length ∧ c.val.length ≤ s.length := by
  unfold takeOne at h
  cases ht : text s a with
  | none => rw [ht] at h; cases h
  | some q =>
    obtain ⟨k, b1⟩ := q
    obtain ⟨t1, t2, t3, t4⟩ := text_take ht
    rw [ht] at h
    simp only at h
    cases leaf with
    | false =>
      simp only [Bool.false_eq_true, if_false] at h
      split at h
      · rename_i hb
        injection h with h
        injection h with h1 h2
        subst h1 h2
        have n1 := num_take s b1 4 hb
        refine ⟨hb, by unfold long; simp only [Bool.false_eq_true, if_false]; omega, ?_, by simp only; omega, by simp⟩
        unfold long one tailOf
        simp only [Bool.false_eq_true, if_false]
        rw [n1, ← List.append_assoc, t4, t2, take_two]
      · cases h
    | true =>
      simp only [if_true] at h
      split at h
      · rename_i hb
        have n0 := num_take s b1 1 hb
        split at h
        · rename_i hm
          rw [hm, beB_one.2] at n0
          cases ht2 : text s (b1 + 1) with
          | none => rw [ht2] at h; cases h
          | some q2 =>
            obtain ⟨v, e⟩ := q2
            obtain ⟨u1, u2, u3, u4⟩ := text_take ht2
            rw [ht2] at h
            simp only at h
            injection h with h
            injection h with h1 h2
            subst h1 h2
            refine ⟨u1, by unfold long; simp only [if_true, Nat.lt_irrefl, if_false]; omega, ?_, by simp only; omega, by simp only; omega⟩
            unfold long one tailOf
            simp only [if_true, Nat.lt_irrefl, if_false]
            have e1 : (0 : UInt8) :: (beB v.length 2 0 ++ v) = (s.drop b1).take (1 + (2 + v.length)) := by
              rw [u4]
              show [(0 : UInt8)] ++ _ = _
              rw [n0, take_two]
            rw [e1, ← List.append_assoc, t4, t2, take_two]
            congr 1
            omega
        · split at h
          · rename_i hm
            rw [hm, beB_one.1] at n0
            split at h
            · rename_i hh
              injection h with h
              injection h with h1 h2
              subst h1 h2
              have n1 := num_take s (b1 + 1) 4 (by omega)
              have n2 := num_take s (b1 + 5) 4 (by omega)
              refine ⟨hh.1, by unfold long; simp only [if_true, hh.2]; omega, ?_, by simp only; omega, by simp⟩
              unfold long one tailOf
              simp only [if_true, hh.2]
              have e1 : (1 : UInt8) :: (beB (num s (b1 + 1) 4) 4 0 ++ beB (num s (b1 + 5) 4) 4 0) = (s.drop b1).take (1 + (4 + 4)) := by
                rw [n1, n2, show b1 + 5 = b1 + 1 + 4 by omega, take_two]
                show [(1 : UInt8)] ++ _ = _
                rw [n0, take_two]
              rw [e1, ← List.append_assoc, t4, t2, take_two]
            · cases h
          · cases h
      · cases h
/-- what is read weakly and may be, is taken -/
theorem takeOne_one (leaf : Bool) (c : CL) (h : CellOk leaf c) (pre post : List UInt8) : takeOne leaf (pre ++ (one leaf c ++ post)) pre.length = some (c, pre.length + long leaf c) := by
  have h0 := h
  obtain ⟨hk, h⟩ := h
  have hlen : (pre ++ (one leaf c ++ post)).length = pre.length + long leaf c + post.length := by
    rw [List.length_append, List.length_append, one_length]; omega
  have hr := readOne_one leaf c h0 pre post
  rw [one_length] at hr
  obtain ⟨s, hs⟩ : ∃ s, pre ++ (one leaf c ++ post) = s := ⟨_, rfl⟩
  have hone : (s.drop pre.length).take (long leaf c) = one leaf c := by
    rw [← hs, List.drop_left' rfl, List.take_left' (one_length leaf c)]
  rw [hs] at hr hlen ⊢
  unfold readOne at hr
  unfold takeOne
  cases ht : text s pre.length with
  | none => rw [ht] at hr; cases hr
  | some q =>
    obtain ⟨k, b1⟩ := q
    obtain ⟨t1, t2, t3, t4⟩ := text_take ht
    rw [ht] at hr
    simp only at hr ⊢
    cases leaf with
    | false =>
      simp only [Bool.false_eq_true, if_false] at hr ⊢
      injection hr with hr
      injection hr with h1 h2
      have hkk : c.key = k := by rw [← h1]
      rw [if_pos (by unfold long at h2 hlen; simp only [Bool.false_eq_true, if_false] at h2 hlen; omega), h1, h2]
    | true =>
      simp only [if_true] at hr h ⊢
      have hlong : 2 + c.key.length + 3 ≤ long true c := by
        unfold long
        simp only [if_true]
        split <;> omega
      by_cases hov : 0 < c.over
      · have hl9 : long true c = 2 + c.key.length + 9 := by unfold long; simp only [if_true]; rw [if_pos hov]
        by_cases hm : num s b1 1 = 1
        · rw [if_pos hm] at hr
          injection hr with hr
          injection hr with h1 h2
          have hov2 : 0 < num s (b1 + 1) 4 := by have : c.over = num s (b1 + 1) 4 := by rw [← h1]
                                                 omega
          rw [if_pos (by omega), if_neg (by omega), if_pos hm, if_pos ⟨by omega, hov2⟩, h1, h2]
        · rw [if_neg hm] at hr
          cases ht2 : text s (b1 + 1) with
          | none => rw [ht2] at hr; cases hr
          | some q2 =>
            rw [ht2] at hr
            injection hr with hr
            injection hr with h1 h2
            have : c.over = 0 := by rw [← h1]
            omega
      · by_cases hm : num s b1 1 = 1
        · exfalso
          rw [if_pos hm] at hr
          injection hr with hr
          injection hr with h1 h2
          have hkk : c.key = k := by rw [← h1]
          -- the mark that was laid is 0
          have hb : b1 + 1 ≤ s.length := by rw [hkk] at hlong; omega
          have n0 := num_take s b1 1 hb
          rw [hm, beB_one.1] at n0
          have e1 : one true c = (beB c.key.length 2 0 ++ c.key) ++ tailOf true c := by unfold one; rw [List.append_assoc]
          have e2 : (s.drop b1).take 1 = [0] := by
            have : (s.drop pre.length).take (2 + k.length + 1) = beB c.key.length 2 0 ++ c.key ++ [0] := by
              have h3 : (s.drop pre.length).take (2 + k.length + 1) = ((s.drop pre.length).take (long true c)).take (2 + k.length + 1) := by
                rw [List.take_take, Nat.min_eq_left (by rw [hkk] at hlong; omega)]
              rw [h3, hone, e1]
              have hll : (beB c.key.length 2 0 ++ c.key).length = 2 + k.length := by rw [List.length_append, beB_length, hkk]
              rw [List.take_append, hll, List.take_of_length_le (by omega)]
              congr 1
              unfold tailOf
              simp only [if_true]
              rw [if_neg hov, show 2 + k.length + 1 - (2 + k.length) = 1 by omega]
              rfl
            rw [← take_two, ← t4, hkk, ← t2] at this
            exact List.append_cancel_left this
          rw [e2] at n0
          injection n0 with n0
          cases n0
        · rw [if_neg hm] at hr
          cases ht2 : text s (b1 + 1) with
          | none => rw [ht2] at hr; cases hr
          | some q2 =>
            obtain ⟨v, e⟩ := q2
            rw [ht2] at hr
            injection hr with hr
            injection hr with h1 h2
            have hkk : c.key = k := by rw [← h1]
            have hb : b1 + 1 ≤ s.length := by rw [hkk] at hlong; omega
            have hl0 : long true c = 2 + c.key.length + (3 + c.val.length) := by unfold long; simp only [if_true]; rw [if_neg hov]
            have n0 := num_take s b1 1 hb
            have e1 : one true c = (beB c.key.length 2 0 ++ c.key) ++ tailOf true c := by unfold one; rw [List.append_assoc]
            have e2 : (s.drop b1).take 1 = [0] := by
              have : (s.drop pre.length).take (2 + k.length + 1) = beB c.key.length 2 0 ++ c.key ++ [0] := by
                have h3 : (s.drop pre.length).take (2 + k.length + 1) = ((s.drop pre.length).take (long true c)).take (2 + k.length + 1) := by
                  rw [List.take_take, Nat.min_eq_left (by rw [hkk] at hlong; omega)]
                rw [h3, hone, e1]
                have hll : (beB c.key.length 2 0 ++ c.key).length = 2 + k.length := by rw [List.length_append, beB_length, hkk]
                rw [List.take_append, hll, List.take_of_length_le (by omega)]
                congr 1
                unfold tailOf
                simp only [if_true]
                rw [if_neg hov, show 2 + k.length + 1 - (2 + k.length) = 1 by omega]
                rfl
              rw [← take_two, ← t4, hkk, ← t2] at this
              exact List.append_cancel_left this
            have hm0 : num s b1 1 = 0 := by
              unfold num
              rw [if_pos hb, e2]
              rfl
            rw [if_pos hb, if_pos hm0, ← h2, ← h1]
/-- cells taken one behind the other, each at the place that its slot names -/
def takeGo (leaf : Bool) (s : List UInt8) : Nat → Nat → List CL → Option (List CL)
  | 0, a, acc => if a = s.length then some acc else none
  | n + 1, a, acc => if 2 + 2 * acc.length + 2 ≤ s.length ∧ num s (2 + 2 * acc.length) 2 = a then (match takeOne leaf s a with
      | none => none
      | some (c, b) => takeGo leaf s n b (acc ++ [c])) else none
theorem slots_cons_snoc (leaf : Bool) (l : List CL) (c : CL) (a : Nat) : slots leaf a (l ++ [c]) = slots leaf a l ++ beB (a + (l.map (long leaf)).sum) 2 0 := slots_snoc leaf l c a
/-- what is taken whole, is laid as it was -/
theorem takeGo_sound (leaf : Bool) (s : List UInt8) (n : Nat) (h2 : 2 ≤ s.length) (hn : num s 0 2 = n) : ∀ (m : Nat) (acc : List CL) (a : Nat) (l : List CL), acc.length + m = n →
    a = 2 + 2 * n + (acc.map (long leaf)).sum → (s.drop 2).take (2 * acc.length) = slots leaf (2 + 2 * n) acc → (s.drop (2 + 2 * n)).take (acc.map (long leaf)).sum = acc.flatMap (one leaf) →
    takeGo leaf s m a acc = some l → s = bytes leaf l := by
  intro m
  induction m with
  | zero =>
    intro acc a l hl ha hs hf ht
    rw [takeGo] at ht
    split at ht
    · rename_i hlen
      injection ht with ht
      subst ht
      have hl : acc.length = n := by omega
      unfold bytes
      rw [hl, ← hs, ← hf, ← hn, num_take s 0 2 (by omega), hn, hl]
      have e1 : (s.drop 2).take (2 * n) ++ (s.drop (2 + 2 * n)).take (acc.map (long leaf)).sum = s.drop 2 := by
        rw [take_two, List.take_of_length_le (by rw [List.length_drop]; omega)]
      rw [e1, List.drop_zero, List.take_append_drop]
    · cases ht
  | succ m ih =>
    intro acc a l hl ha hs hf ht
    rw [takeGo] at ht
    split at ht
    · rename_i hh
      cases ho : takeOne leaf s a with
      | none => rw [ho] at ht; cases ht
      | some q =>
        obtain ⟨c, b⟩ := q
        rw [ho] at ht
        simp only at ht
        obtain ⟨s1, s2, s3, _, _⟩ := takeOne_sound ho
        refine ih (acc ++ [c]) b l (by rw [List.length_append]; simp; omega) ?_ ?_ ?_ ht
        · rw [s2, ha, List.map_append, List.sum_append]; simp; omega
        · rw [slots_snoc, ← hs, List.length_append, ← ha, ← hh.2, num_take s _ 2 hh.1]
          have : 2 * (acc.length + [c].length) = 2 * acc.length + 2 := by simp; omega
          rw [this, take_two]
        · rw [List.flatMap_append, ← hf, List.map_append, List.sum_append]
          have : ([c].map (long leaf)).sum = long leaf c := by simp
          rw [this, ← take_two, ← ha, s3]
          simp
    · cases ht
/-- what is laid is taken whole -/
theorem takeGo_whole (leaf : Bool) (l : List CL) (h : ∀ c ∈ l, CellOk leaf c) (hlen : (bytes leaf l).length < 65536) : ∀ (m : Nat) (k : Nat), k + m = l.length →
    takeGo leaf (bytes leaf l) m (2 + 2 * l.length + ((l.take k).map (long leaf)).sum) (l.take k) = some l := by
  intro m
  have hbl := bytes_length leaf l
  have hcs : count leaf l = 2 + 2 * l.length + (l.map (long leaf)).sum := by unfold count; rw [sum_two]; omega
  induction m with
  | zero =>
    intro k hk
    have hk : k = l.length := by omega
    subst hk
    rw [List.take_length, takeGo, if_pos (by rw [hbl, hcs])]
  | succ m ih =>
    intro k hk
    have hkl : k < l.length := by omega
    have htl : (l.take k).length = k := by rw [List.length_take]; omega
    have hsl : ∀ j, (slots leaf (2 + 2 * l.length) (l.take j)).length = 2 * min j l.length := fun j => by rw [slots_length, List.length_take]
    have hsum : ((l.take k).map (long leaf)).sum ≤ (l.map (long leaf)).sum := long_sum_le leaf l k
    have h16 : 2 + 2 * l.length + ((l.take k).map (long leaf)).sum < 65536 := by omega
    -- the slot
    have hslot : slots leaf (2 + 2 * l.length) l = slots leaf (2 + 2 * l.length) (l.take k) ++ (beB (2 + 2 * l.length + ((l.take k).map (long leaf)).sum) 2 0 ++ slots leaf (2 + 2 * l.length + ((l.take (k + 1)).map (long leaf)).sum) (l.drop (k + 1))) := by
      have gen : ∀ (x y : List CL) (a : Nat), slots leaf a (x ++ y) = slots leaf a x ++ slots leaf (a + (x.map (long leaf)).sum) y := by
        intro x
        induction x with
        | nil => intro y a; simp [slots]
        | cons d x ihx =>
          intro y a
          rw [List.cons_append, slots, slots, ihx, List.append_assoc, one_length, List.map_cons, List.sum_cons, Nat.add_assoc]
      conv => lhs; rw [← List.take_append_drop (k + 1) l, gen, slots_take leaf l _ k hkl, List.append_assoc]
      rw [List.take_append_drop]
    have hnum : num (bytes leaf l) (2 + 2 * k) 2 = 2 + 2 * l.length + ((l.take k).map (long leaf)).sum := by
      have := num_at (beB l.length 2 0 ++ slots leaf (2 + 2 * l.length) (l.take k)) (slots leaf (2 + 2 * l.length + ((l.take (k + 1)).map (long leaf)).sum) (l.drop (k + 1)) ++ l.flatMap (one leaf)) (2 + 2 * l.length + ((l.take k).map (long leaf)).sum) 2 (by omega)
      have hp : (beB l.length 2 0 ++ slots leaf (2 + 2 * l.length) (l.take k)).length = 2 + 2 * k := by rw [List.length_append, beB_length, hsl]; omega
      rw [hp] at this
      rw [← this]
      congr 1
      unfold bytes
      rw [hslot]
      simp only [List.append_assoc]
    -- the cell
    have hcell : bytes leaf l = (beB l.length 2 0 ++ (slots leaf (2 + 2 * l.length) l ++ (l.take k).flatMap (one leaf))) ++ (one leaf l[k] ++ (l.drop (k + 1)).flatMap (one leaf)) := by
      unfold bytes
      have : l.flatMap (one leaf) = (l.take k).flatMap (one leaf) ++ (one leaf l[k] ++ (l.drop (k + 1)).flatMap (one leaf)) := by
        conv => lhs; rw [← List.take_append_drop k l, List.drop_eq_getElem_cons hkl, List.flatMap_append, List.flatMap_cons]
      rw [this]
      simp only [List.append_assoc]
    have hone := takeOne_one leaf l[k] (h _ (List.getElem_mem hkl)) (beB l.length 2 0 ++ (slots leaf (2 + 2 * l.length) l ++ (l.take k).flatMap (one leaf))) ((l.drop (k + 1)).flatMap (one leaf))
    have hp : (beB l.length 2 0 ++ (slots leaf (2 + 2 * l.length) l ++ (l.take k).flatMap (one leaf))).length = 2 + 2 * l.length + ((l.take k).map (long leaf)).sum := by
      rw [List.length_append, List.length_append, beB_length, slots_length, flat_length]
      omega
    rw [hp, ← hcell] at hone
    rw [takeGo, htl, if_pos ⟨by rw [hbl, hcs]; omega, hnum⟩, hone]
    simp only
    have e1 : l.take k ++ [l[k]] = l.take (k + 1) := (List.take_succ_eq_append_getElem hkl).symm
    have e2 : 2 + 2 * l.length + ((l.take k).map (long leaf)).sum + long leaf l[k] = 2 + 2 * l.length + ((l.take (k + 1)).map (long leaf)).sum := by
      rw [long_take leaf l k hkl]; omega
    rw [e1, e2]
    exact ih (k + 1) (by omega)
theorem of_cl_map (l : List CL) : (l.map CV.of).map CV.cl = l := by
  rw [List.map_map]
  conv => rhs; rw [← List.map_id l]
  refine List.map_congr_left (fun c _ => ?_)
  obtain ⟨a, b, c, d, e⟩ := c
  simp [CV.of, CV.cl, data_ba]
/-- what any bytes are read as, taken strictly -/
theorem dec_take (leaf : Bool) (s : ByteArray) (h2 : 2 ≤ s.size) (h : s.size ≤ 488) :
    dec leaf s = (match takeGo leaf s.data.toList (num s.data.toList 0 2) (2 + 2 * num s.data.toList 0 2) [] with
      | none => none
      | some l => if right leaf (l.map CV.of) then some (l.map CV.of) else none) := by
  have hl : s.data.toList.length = s.size := by rw [Array.length_toList]; rfl
  -- whatever may be and has these bytes is what is taken
  have hall : ∀ m, fits leaf m = true → encS leaf m = s → takeGo leaf s.data.toList (num s.data.toList 0 2) (2 + 2 * num s.data.toList 0 2) [] = some (m.map CV.cl) := by
    intro m hf he
    have hf0 := hf
    unfold fits at hf
    simp only [Bool.and_eq_true, decide_eq_true_eq] at hf
    have hr := right_all hf.1
    have hb : s.data.toList = bytes leaf (m.map CV.cl) := by
      rw [← he]
      unfold encS
      rw [if_pos hf0, data_ba]
    have hlen : m.length < 65536 := by
      have := count_ge leaf (m.map CV.cl)
      rw [List.length_map] at this
      have := hf.2
      unfold countV at this
      omega
    have hok : ∀ c ∈ m.map CV.cl, CellOk leaf c := fun c hc => by
      rw [List.mem_map] at hc
      obtain ⟨x, hx, rfl⟩ := hc
      exact CV.cl_ok (hr x hx)
    have hn : num s.data.toList 0 2 = (m.map CV.cl).length := by rw [hb]; exact (read_bytes leaf (m.map CV.cl) hok (by rw [List.length_map]; exact hlen)).1
    have := takeGo_whole leaf (m.map CV.cl) hok (by rw [← hb, hl]; omega) (m.map CV.cl).length 0 (by omega)
    rw [hn, hb]
    simpa using this
  cases ht : takeGo leaf s.data.toList (num s.data.toList 0 2) (2 + 2 * num s.data.toList 0 2) [] with
  | none =>
    rw [dec_none_iff]
    intro m hf he
    rw [hall m hf he] at ht
    cases ht
  | some l =>
    simp only
    have hs := takeGo_sound leaf s.data.toList _ (by omega) rfl _ [] _ l (by simp) (by simp) (by simp [slots]) (by simp) ht
    by_cases hr : right leaf (l.map CV.of) = true
    · rw [if_pos hr, dec_iff]
      have hc : countV leaf (l.map CV.of) ≤ 488 := by
        unfold countV
        rw [of_cl_map, ← bytes_length, ← hs, hl]
        exact h
      have hf : fits leaf (l.map CV.of) = true := by
        unfold fits
        rw [hr, decide_eq_true hc]
        rfl
      refine ⟨hf, ?_⟩
      unfold encS
      rw [if_pos hf, of_cl_map, ← hs, ba_data]
    · rw [if_neg hr, dec_none_iff]
      intro m hf he
      have hm := hall m hf he
      rw [ht] at hm
      injection hm with hm
      apply hr
      rw [hm]
      have hf2 := hf
      unfold fits at hf2
      simp only [Bool.and_eq_true, decide_eq_true_eq] at hf2
      have hra := right_all hf2.1
      have back : (m.map CV.cl).map CV.of = m := by
        rw [List.map_map]
        conv => rhs; rw [← List.map_id m]
        exact List.map_congr_left (fun c hc => CV.of_cl (hra c hc))
      rw [back]
      exact hf2.1
/-- bytes too few for a count are none's -/
theorem dec_few (leaf : Bool) (s : ByteArray) (h : s.size < 2) : dec leaf s = none := by
  rw [dec_none_iff]
  intro m hf he
  have : (encS leaf m).size = countV leaf m := by
    unfold encS
    rw [if_pos hf, ba_size, bytes_length]
    rfl
  rw [he] at this
  have := count_ge leaf (m.map CV.cl)
  unfold countV at *
  omega
end Node
end Go.Proofs.Ytegmffeokfahjaa
