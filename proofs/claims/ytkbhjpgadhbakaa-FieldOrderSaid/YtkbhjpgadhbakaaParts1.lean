/-
  Contracts of field.Parts with its takePart, and of the reference's Parts: what each call answers, and that nothing that was in memory before has changed. Conditions: texts of at most 1048576 bytes.
-/
import Derived.Test.YtkbhjpgadhbakaaTuple
namespace Go.Proofs.Ytkbhjpgadhbakaa
open Go.RowKit

/-- the list that a text is, a part's beginning being read already -/
def go (pre : List UInt8) (l : List UInt8) : Option (List ByteArray) :=
  match l with
  | [] => if pre = [] then some [] else none
  | b :: r => if b = 0 then
      match r with
      | [] => none
      | c :: t => if c = 1 then (go [] t).map (⟨pre.toArray⟩ :: ·) else if c = 255 then go (pre ++ [0]) t else none
    else go (pre ++ [b]) r
termination_by l.length

theorem drop_at' (s : ByteArray) (k : Nat) (h : k < s.size) : s.data.toList.drop k = s[k] :: s.data.toList.drop (k + 1) := by
  rw [List.drop_eq_getElem_cons (by rw [Array.length_toList]; exact h)]
  rfl
theorem drop_all' (s : ByteArray) (k : Nat) (h : s.size ≤ k) : s.data.toList.drop k = [] :=
  List.drop_of_length_le (by rw [Array.length_toList]; exact h)
theorem go_plain (s : ByteArray) (pre : List UInt8) (k : Nat) (h : k < s.size) (h0 : ¬ s[k] = 0) : go pre (s.data.toList.drop k) = go (pre ++ [s[k]]) (s.data.toList.drop (k + 1)) := by
  rw [drop_at' s k h, go.eq_def]
  simp only [if_neg h0]
theorem go_end (s : ByteArray) (pre : List UInt8) (k : Nat) (h : k + 1 < s.size) (h0 : s[k] = 0) (h1 : s[k + 1] = 1) : go pre (s.data.toList.drop k) = (go [] (s.data.toList.drop (k + 2))).map (⟨pre.toArray⟩ :: ·) := by
  rw [drop_at' s k (by omega), drop_at' s (k + 1) h, go.eq_def]
  simp only [if_pos h0, if_pos h1]
theorem go_nought (s : ByteArray) (pre : List UInt8) (k : Nat) (h : k + 1 < s.size) (h0 : s[k] = 0) (h1 : s[k + 1] = 255) : go pre (s.data.toList.drop k) = go (pre ++ [0]) (s.data.toList.drop (k + 2)) := by
  rw [drop_at' s k (by omega), drop_at' s (k + 1) h, go.eq_def]
  have h2 : ¬ s[k + 1] = 1 := by rw [h1]; decide
  simp only [if_pos h0, if_neg h2, if_pos h1]
theorem go_bad (s : ByteArray) (pre : List UInt8) (k : Nat) (h : k + 1 < s.size) (h0 : s[k] = 0) (h1 : ¬ s[k + 1] = 1) (h2 : ¬ s[k + 1] = 255) : go pre (s.data.toList.drop k) = none := by
  rw [drop_at' s k (by omega), drop_at' s (k + 1) h, go.eq_def]
  simp only [if_pos h0, if_neg h1, if_neg h2]
theorem go_cut (s : ByteArray) (pre : List UInt8) (k : Nat) (h : k + 1 = s.size) (h0 : s[k] = 0) : go pre (s.data.toList.drop k) = none := by
  rw [drop_at' s k (by omega), drop_all' s (k + 1) (by omega), go.eq_def]
  simp only [if_pos h0]
theorem go_last (s : ByteArray) (pre : List UInt8) (k : Nat) (h : s.size ≤ k) : go pre (s.data.toList.drop k) = if pre = [] then some [] else none := by
  rw [drop_all' s k h, go.eq_def]

/-- what takePart answers -/
def PartGives (s : ByteArray) (a : Nat) (w : World) (e : Ending) (w' : World) : Prop :=
  ((∃ (p : List UInt8) (b : Nat), e = .returned (.tuple #[.string ⟨p.toArray⟩, .int .i64 b, .bool true]) ∧ a < b ∧ b ≤ s.size ∧ go [] (s.data.toList.drop a) = (go [] (s.data.toList.drop b)).map (⟨p.toArray⟩ :: ·)) ∨
   (e = .returned (.tuple #[.string ⟨#[]⟩, .int .i64 0, .bool false]) ∧ go [] (s.data.toList.drop a) = none)) ∧ Below w.heap.size w w'
theorem PartGives.yes {s : ByteArray} {a : Nat} {w w' : World} {p : List UInt8} {b : Nat} (h1 : a < b) (h2 : b ≤ s.size) (h3 : go [] (s.data.toList.drop a) = (go [] (s.data.toList.drop b)).map (⟨p.toArray⟩ :: ·)) (hb : Below w.heap.size w w') :
    PartGives s a w (.returned (.tuple #[.string ⟨p.toArray⟩, .int .i64 b, .bool true])) w' := ⟨.inl ⟨p, b, rfl, h1, h2, h3⟩, hb⟩
theorem PartGives.no {s : ByteArray} {a : Nat} {w w' : World} (h3 : go [] (s.data.toList.drop a) = none) (hb : Below w.heap.size w w') :
    PartGives s a w (.returned (.tuple #[.string ⟨#[]⟩, .int .i64 0, .bool false])) w' := ⟨.inr ⟨rfl, h3⟩, hb⟩

theorem byte_ne (x : UInt8) (n : Nat) (h : ¬ x.toNat = n) : ((x.toNat : Int) == (n : Int)) = false := by
  rw [beq_eq_false_iff_ne]
  omega
theorem ne_one {x : UInt8} (h : ¬ x = 1) : ((x.toNat : Int) == 1) = false := byte_ne x 1 fun e => h (UInt8.toNat_inj.1 e)
theorem ne_full {x : UInt8} (h : ¬ x = 255) : ((x.toNat : Int) != 255) = true := by rw [bne, show ((x.toNat : Int) == 255) = false from byte_ne x 255 fun e => h (UInt8.toNat_inj.1 e)]; rfl
theorem ne_nought {x : UInt8} (h : ¬ x = 0) : ((x.toNat : Int) != 0) = true := by rw [bne, show ((x.toNat : Int) == 0) = false from byte_ne x 0 fun e => h (UInt8.toNat_inj.1 e)]; rfl

set_option maxHeartbeats 1600000 in
theorem takePart_any (s : ByteArray) (hs : s.size ≤ 1048576) (a : Nat) (ha : a < s.size) (w : World) :
    Calls Try.prog 32 #[.string s, .int .i64 a] w (PartGives s a w) := by
  go_enter Try.func32, Try.ntmps32
  go_wp2
  go_loopw [7, 8] (fun v i wr => ∃ (k : Nat) (pre : List UInt8), a ≤ k ∧ k ≤ s.size ∧ i = .int .i64 k ∧ OwnB wr w.heap.size 5 v pre ∧ pre.length ≤ k ∧ (a < k → pre ≠ []) ∧ Hid (go [] (s.data.toList.drop a) = go pre (s.data.toList.drop k)) ∧ Below w.heap.size w wr) (fun _ i _ => s.size - (intOf i).toNat)
  case atStart => exact ⟨a, [], Nat.le_refl _, by omega, rfl, OwnB.nil _ _ _, by simp, fun e => absurd e (by omega), Lib.hid rfl, Below.refl _ _⟩
  case round =>
    obtain ⟨k, pre, hak, hk, rfl, hown, hpl, hka, hgo, hbel⟩ := hrel
    have hge := hbel.size
    have HC := Lib.hid (show pre.length + 1 ≤ 140737488355328 by omega)
    by_cases h : k < s.size
    · by_cases h0 : s[k] = 0
      · have d0 : ((s[k].toNat : Int) != 0) = false := by rw [h0]; rfl
        by_cases h1 : k + 1 < s.size
        · have d1 : decide ((k : Int) + 1 < s.size) = true := by simp; omega
          by_cases hz1 : s[k + 1] = 1
          · have HG := Lib.hid (hgo.out.trans (go_end s pre k h1 h0 hz1))
            have d2 : ((s[k + 1].toNat : Int) == 1) = true := by rw [hz1]; rfl
            have hc := run_string_B (P := Try.prog) wr 48 9 5 Try.underlying48 Try.underlying5 Try.underlying9 _ _ _ hown
            clear hz1 h0
            go_wp2
            go_ret3
            exact PartGives.yes (b := k + 2) (by omega) (by omega) HG.out hbel
          · have d2 := ne_one hz1
            have d3 : ((k : Int) + 1 == s.size) = false := by rw [beq_eq_false_iff_ne]; omega
            by_cases hz2 : s[k + 1] = 255
            · have HG := Lib.hid (hgo.out.trans (go_nought s pre k h1 h0 hz2))
              have d4 : ((s[k + 1].toNat : Int) != 255) = false := by rw [hz2]; rfl
              clear hz1 hz2 h0
              go_wp2_with (at_builtin; refine wpList_append_byte _ rfl (.tmp 52) (.tmp 53) 48 rfl _ 5 Try.underlying48 byteInfo _ _ rfl hown _ 0 rfl rfl HC.out hge ?_; intro v1 w1 hown1 hbel1)
              go_roundw
              case rel => exact ⟨k + 2, pre ++ [0], by omega, by omega, by go_num, hown1, by rw [List.length_append, List.length_singleton]; omega, fun _ => by simp, HG, hbel.trans hbel1⟩
              case measure => simp [intOf]; omega
            · have HG := Lib.hid (hgo.out.trans (go_bad s pre k h1 h0 hz1 hz2))
              have d4 := ne_full hz2
              clear hz1 hz2 h0
              go_wp2
              go_ret3
              exact PartGives.no HG.out hbel
        · have HG := Lib.hid (hgo.out.trans (go_cut s pre k (by omega) h0))
          have d1 : decide ((k : Int) + 1 < s.size) = false := by simp; omega
          have d3 : ((k : Int) + 1 == s.size) = true := by rw [beq_iff_eq]; omega
          clear h0
          go_wp2
          go_ret3
          exact PartGives.no HG.out hbel
      · have HG := Lib.hid (hgo.out.trans (go_plain s pre k h h0))
        have d0 := ne_nought h0
        clear h0
        go_wp2_with (at_builtin; refine wpList_append_byte _ rfl (.tmp 20) (.tmp 24) 48 rfl _ 5 Try.underlying48 byteInfo _ _ rfl hown _ s[k] rfl rfl HC.out hge ?_; intro v1 w1 hown1 hbel1)
        go_roundw
        case rel => exact ⟨k + 1, pre ++ [s[k]], by omega, by omega, by go_num, hown1, by rw [List.length_append, List.length_singleton]; omega, fun _ => by simp, HG, hbel.trans hbel1⟩
        case measure => simp [intOf]; omega
    · have HG := Lib.hid (hgo.out.trans ((go_last s pre k (by omega)).trans (if_neg (hka (by omega)))))
      go_wp2
      go_ret3
      exact PartGives.no HG.out hbel

theorem strInfo : (Try.prog.info? 9).map (fun i => (i.zero, i.size, i.bytes)) = some (some (.string ByteArray.empty), 1, 16) := by kernel_rfl
def sv (L : List ByteArray) : List Value := L.map Value.string
theorem sv_length (L : List ByteArray) : (sv L).length = L.length := by simp [sv]
/-- the slice v of the call's own reads as the texts L -/
def OwnS (w : World) (base : Nat) (v : Value) (L : List ByteArray) : Prop := w.ownsRow base 9 1 v L.length (sv L)
theorem OwnS.form {w : World} {base : Nat} {v : Value} {L : List ByteArray} (h : OwnS w base v L) : ∃ A cap, v = .slice A L.length cap := by
  rcases h.2 with ⟨rfl, h0⟩ | ⟨g, cap, _, rfl, _⟩
  · rw [h0]; exact ⟨_, _, rfl⟩
  · exact ⟨_, _, rfl⟩
theorem OwnS.kept {w w' : World} {base : Nat} {v : Value} {L : List ByteArray} (h : OwnS w base v L) (hb : Below w.heap.size w w') : OwnS w' base v L :=
  World.ownsRow.kept (row := none) h ⟨hb.os, hb.tape, hb.output, hb.size, fun k hk _ => hb.block k hk⟩ (by cases v.ownBlock <;> simp)

/-- a slice of texts that can be read: nothing, or its texts from a place on -/
def Reads (w : World) (A : Option Addr) (L : List ByteArray) : Prop := L = [] ∨ ∃ b off, A = some ⟨b, off, none⟩ ∧ b < w.heap.size ∧ StrsAt w b off L
theorem OwnS.reads {w : World} {base : Nat} {A : Option Addr} {cap : Nat} {L : List ByteArray} (h : OwnS w base (.slice A L.length cap) L) : Reads w A L := by
  rcases h.2 with ⟨_, h0⟩ | ⟨g, cap', cur, hv, _, hg, _, _, _, ht⟩
  · exact .inl (List.eq_nil_of_length_eq_zero h0)
  · injection hv with e1 e2 e3
    subst e1 e3
    refine .inr ⟨g, 0, rfl, (Array.getElem?_eq_some_iff.1 hg).1, fun i hi => ?_⟩
    rw [Nat.zero_add, cell_of_row w g i cur 9 (0, 0) hg]
    have h1 : (sv L)[i]? = some (.string L[i]) := by simp [sv, hi]
    rw [← ht, List.getElem?_take] at h1
    split at h1
    · simpa using h1
    · cases h1
theorem Reads.below {w w' : World} {A : Option Addr} {L : List ByteArray} (h : Reads w A L) (hb : Below w.heap.size w w') : Reads w' A L := by
  rcases h with h | ⟨b, off, rfl, h1, h2⟩
  · exact .inl h
  · exact .inr ⟨b, off, rfl, Nat.lt_of_lt_of_le h1 hb.size, h2.below hb h1⟩

theorem wpList_append_str {P : Program} (w : World) {ops : Array Oper} {rest : List Oper} {o : Oper} {a : Act} {Q : Exit → Act → World → Prop} (hgd : o.guard = none) (s x : Operand) (t : TypeId)
    (ho : o.op = .call { callee := .builtin .append, args := #[s, x], argTypes := #[t, t] })
    (base : Nat) (ht : P.underlying t = some (.slice 9)) (hi : (P.info? 9).map (fun i => (i.zero, i.size, i.bytes)) = some (some (.string ByteArray.empty), 1, 16))
    (v : Value) (L : List ByteArray) (hs : a.eval s = v) (hown : OwnS w base v L) (y : ByteArray) (hx : a.eval x = .slice (some ⟨w.heap.size, 0, none⟩) 1 1)
    (hlen : L.length + 1 ≤ 4294967296) (hbase : base ≤ w.heap.size)
    (h : ∀ v' w', OwnS w' base v' (L ++ [y]) → Below base w w' → (∀ base' u l, OwnB w base' 5 u l → OwnB w' base' 5 u l) → wpList P ops Q rest (a.put o.dst v') w') : wpList P ops Q (o :: rest) a (w.alloc (.cells #[.string y] 9)) := by
  obtain ⟨i, hi, hz, hsize, hby⟩ := info_parts hi
  refine wpList_append_own (w := w.alloc (.cells #[.string y] 9)) hgd s x t ho base 9 i (.string ByteArray.empty) 1 16 ht hi hz hsize hby rfl (by omega) v L.length (sv L) hs (World.ownsRow.alloc hown _) ⟨w.heap.size, 0, none⟩ 1 1 [.string y] hx rfl ?_ ?_ (by simp only [maxLen]; omega) (by omega) (by simp; omega) ?_
  · intro j u hu
    have hadd : (⟨w.heap.size, 0, none⟩ : Addr).add j = ⟨w.heap.size, j, none⟩ := by unfold Addr.add; split <;> simp_all
    rw [hadd, World.cell?_alloc_mark]
    cases j with
    | zero => simpa using hu
    | succ j => simp at hu
  · intro u hu
    simp only [List.mem_singleton] at hu
    subst hu
    rfl
  · intro v' w' h1 h2 _
    refine h v' w' ?_ ?_ (fun base' u l hu => bytes_stay (hu.alloc _) (World.ownsRow.alloc hown _) (by decide) h2)
    · have e : sv (L ++ [y]) = sv L ++ [.string y] := by simp [sv]
      unfold OwnS
      rw [e, List.length_append]
      exact h1
    · exact (((Below.refl base w).alloc hbase _).grown h2 (by simp; omega) (fun k hk => (World.ownsRow.lt hown k hk).1))
end Go.Proofs.Ytkbhjpgadhbakaa
