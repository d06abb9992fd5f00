/-
  Contracts of field.Parts and of the reference's Parts and Same: what each call answers, and that nothing that was in memory before has changed. Conditions: texts of at most 1048576 bytes, lists of at most 1048576 texts.
-/
import Derived.Test.YtkbhjpgadhbakaaParts1
import Derived.Test.YtkbhjpgadhbakaaLess
namespace Go.Proofs.Ytkbhjpgadhbakaa
open Go.RowKit

/-- the list that the text is, if it may be one's -/
def Good (s : ByteArray) (L : List ByteArray) : Prop := s.size ≤ 4096 ∧ L.length ≤ 16 ∧ go [] s.data.toList = some L
def PartsGive (s : ByteArray) (w : World) (e : Ending) (w' : World) : Prop :=
  ((∃ L A cap, e = .returned (.tuple #[.slice A L.length cap, .int .i64 0]) ∧ Good s L ∧ Reads w' A L) ∨
   (e = .returned (.tuple #[.slice none 0 0, .int .i64 4]) ∧ ∀ L, ¬ Good s L)) ∧ Below w.heap.size w w'
theorem PartsGive.yes {s : ByteArray} {w w' : World} {L : List ByteArray} {A : Option Addr} {cap : Nat} (h1 : Good s L) (h2 : Reads w' A L) (hb : Below w.heap.size w w') :
    PartsGive s w (.returned (.tuple #[.slice A L.length cap, .int .i64 0])) w' := ⟨.inl ⟨L, A, cap, rfl, h1, h2⟩, hb⟩
theorem PartsGive.no {s : ByteArray} {w w' : World} (h : ∀ L, ¬ Good s L) (hb : Below w.heap.size w w') :
    PartsGive s w (.returned (.tuple #[.slice none 0 0, .int .i64 4])) w' := ⟨.inr ⟨rfl, h⟩, hb⟩

theorem parts_big (s : ByteArray) (h : 4096 < s.size) (w : World) : Calls Try.prog 21 #[.string s] w (PartsGive s w) := by
  have hd : decide ((4096 : Int) < (s.size : Int)) = true := by simp; omega
  go_enter Try.func21, Try.ntmps21
  go_wp2
  go_ret2
  exact PartsGive.no (fun L hL => absurd hL.1 (by omega)) (Below.refl _ _)
theorem rparts_big (s : ByteArray) (h : 4096 < s.size) (w : World) : Calls Try.prog 23 #[.string s] w (PartsGive s w) := by
  have hd : decide ((4096 : Int) < (s.size : Int)) = true := by simp; omega
  go_enter Try.func23, Try.ntmps23
  go_wp2
  go_ret2
  exact PartsGive.no (fun L hL => absurd hL.1 (by omega)) (Below.refl _ _)

theorem drop_size (s : ByteArray) : s.data.toList.drop s.size = [] := drop_all' s s.size (Nat.le_refl _)
theorem go_nil : go [] [] = some [] := by rw [go.eq_def]; rfl

set_option maxHeartbeats 1600000 in
theorem parts_small (s : ByteArray) (h : s.size ≤ 4096) (w : World) : Calls Try.prog 21 #[.string s] w (PartsGive s w) := by
  have hd : decide ((4096 : Int) < (s.size : Int)) = false := by simp; omega
  go_enter Try.func21, Try.ntmps21
  go_wp2
  clear hd
  go_loopw [4, 5] (fun v i wr => ∃ (k : Nat) (L : List ByteArray), k ≤ s.size ∧ i = .int .i64 k ∧ OwnS wr w.heap.size v L ∧ L.length ≤ 16 ∧ Hid (go [] s.data.toList = (go [] (s.data.toList.drop k)).map (L ++ ·)) ∧ Below w.heap.size w wr) (fun _ i _ => s.size - (intOf i).toNat)
  case atStart => exact ⟨0, [], Nat.zero_le _, rfl, World.ownsRow_nil _ _ _ _, by simp, Lib.hid (by simp), Below.refl _ _⟩
  case round =>
    obtain ⟨k, L, hk, rfl, hown, hL, hgo, hbel⟩ := hrel
    have hge := hbel.size
    by_cases hlt : k < s.size
    · have C := fun w => Lib.hid (takePart_any s (by omega) k hlt w)
      obtain ⟨A, cap, rfl⟩ := hown.form
      go_wp2_with fail
      refine (C _).out.mono ?_
      rintro _ w1 ⟨hp, hb1⟩
      have hbel1 := hbel.trans (hb1.mono hge)
      have hown1 := hown.kept hb1
      have hge1 := hbel1.size
      clear hown C
      rcases hp with ⟨p, b, rfl, hab, hbs, hg⟩ | ⟨rfl, hg⟩
      · have HG := Lib.hid hg
        clear hg
        by_cases h16 : L.length = 16
        · have d1 : ((L.length : Int) == 16) = true := by rw [h16]; rfl
          have HL := Lib.hid h16
          clear h16
          go_wp2
          go_ret2
          refine PartsGive.no ?_ hbel1
          rintro M ⟨_, hM, hgM⟩
          rw [hgo.out, HG.out, Option.map_map, Option.map_eq_some_iff] at hgM
          obtain ⟨N, _, rfl⟩ := hgM
          have := HL.out
          simp at hM
          omega
        · have d1 : ((L.length : Int) == 16) = false := by rw [beq_eq_false_iff_ne]; omega
          go_wp2_with (at_builtin; refine wpList_append_str _ rfl (.tmp 30) (.tmp 32) 34 rfl _ Try.underlying34 strInfo _ L rfl hown1 ⟨p.toArray⟩ rfl (by omega) hge1 ?_; intro v2 w2 hown2 hbel2 _)
          go_roundw
          case rel =>
            refine ⟨b, L ++ [⟨p.toArray⟩], hbs, rfl, hown2, by rw [List.length_append, List.length_singleton]; omega, Lib.hid ?_, hbel1.trans hbel2⟩
            rw [hgo.out, HG.out, Option.map_map]
            congr 1
            funext x
            simp
          case measure => simp [intOf]; omega
      · have HG := Lib.hid hg
        clear hg
        go_wp2
        go_ret2
        refine PartsGive.no ?_ hbel1
        rintro M ⟨_, _, hgM⟩
        rw [hgo.out, HG.out] at hgM
        simp at hgM
    · obtain rfl : k = s.size := by omega
      have HG : Hid (go [] s.data.toList = some L) := Lib.hid (by rw [hgo.out, drop_size, go_nil]; simp)
      obtain ⟨A, cap, rfl⟩ := hown.form
      go_wp2
      go_ret2
      exact PartsGive.yes ⟨h, hL, HG.out⟩ hown.reads hbel

theorem go_skip (s : ByteArray) (pre : List UInt8) (L : List ByteArray) (k : Nat) (h : k < s.size) (h0 : ¬ s[k] = 0) (hgo : go [] s.data.toList = (go pre (s.data.toList.drop k)).map (L ++ ·)) :
    go [] s.data.toList = (go (pre ++ [s[k]]) (s.data.toList.drop (k + 1))).map (L ++ ·) := by rw [hgo, go_plain s pre k h h0]

set_option maxHeartbeats 1600000 in
theorem rparts_small (s : ByteArray) (h : s.size ≤ 4096) (w : World) : Calls Try.prog 23 #[.string s] w (PartsGive s w) := by
  have hd : decide ((4096 : Int) < (s.size : Int)) = false := by simp; omega
  go_enter Try.func23, Try.ntmps23
  go_wp2
  clear hd
  go_loopw [4, 5, 6, 7] (fun v b o i wr => ∃ (k : Nat) (L : List ByteArray) (pre : List UInt8) (ob : Bool), k ≤ s.size ∧ i = .int .i64 k ∧ o = .bool ob ∧ OwnS wr w.heap.size v L ∧ OwnB wr w.heap.size 5 b pre ∧ L.length ≤ k ∧ pre.length ≤ k ∧
      Hid ((ob = true) ↔ ¬ pre = []) ∧ Hid (go [] s.data.toList = (go pre (s.data.toList.drop k)).map (L ++ ·)) ∧ Below w.heap.size w wr) (fun _ _ _ i _ => s.size - (intOf i).toNat)
  case atStart =>
    refine ⟨0, [], [], false, Nat.zero_le _, rfl, rfl, ?_, ?_, by simp, by simp, Lib.hid (by simp), Lib.hid (by simp), ?_⟩
    · exact OwnS.kept (w := w.alloc (.cells #[] 9)) (World.ownsRow_made (size := 1) w #[] 0 (Nat.le_refl _) (by simp [maxLen]) rfl) ((Below.refl _ _).alloc (Nat.le_refl _) _)
    · have hE := OwnB.empty (w.alloc (.cells #[] 9)) w.heap.size 5 (by simp)
      rwa [show (w.alloc (Obj.cells #[] 9)).heap.size = w.heap.size + 1 from by simp] at hE
    · exact ((Below.refl _ w).alloc (Nat.le_refl _) _).alloc (by simp) _
  case round =>
    obtain ⟨k, L, pre, ob, hk, rfl, rfl, hS, hB, hLk, hpk, hob, hgo, hbel⟩ := hrel
    have hge := hbel.size
    have HC := Lib.hid (show pre.length + 1 ≤ 140737488355328 by omega)
    have HL := Lib.hid (show L.length + 1 ≤ 4294967296 by omega)
    by_cases hlt : k < s.size
    · by_cases h0 : s[k] = 0
      · have d0 : ((s[k].toNat : Int) != 0) = false := by rw [h0]; rfl
        by_cases h1 : k + 1 < s.size
        · have d1 : decide ((s.size : Int) ≤ k + 1) = false := by simp; omega
          by_cases hz1 : s[k + 1] = 1
          · have HG := Lib.hid (go_end s pre k h1 h0 hz1)
            have d2 : ((s[k + 1].toNat : Int) != 1) = false := by rw [hz1]; rfl
            have d3 : ((s[k + 1].toNat : Int) == 255) = false := by rw [hz1]; rfl
            have hc := run_string_B (P := Try.prog) wr 48 9 5 Try.underlying48 Try.underlying5 Try.underlying9 _ _ _ hB
            clear hz1 h0
            go_wp2_with (at_builtin; refine wpList_append_str _ rfl (.tmp 56) (.tmp 59) 34 rfl _ Try.underlying34 strInfo _ L rfl hS ⟨pre.toArray⟩ rfl HL.out hge ?_; intro v2 w2 hS2 hbel2 _)
            go_roundw
            case rel =>
              have hb2 := hbel.trans hbel2
              refine ⟨k + 2, L ++ [⟨pre.toArray⟩], [], false, by omega, by go_num, rfl, ?_, OwnB.empty _ _ _ hb2.size, ?_, by simp, Lib.hid (by simp), Lib.hid ?_, hb2.alloc hb2.size _⟩
              · exact hS2.kept ((Below.refl _ _).alloc (Nat.le_refl _) _)
              · rw [List.length_append, List.length_singleton]; omega
              · rw [hgo.out, HG.out, Option.map_map]
                congr 1
                funext x
                simp
            case measure => simp [intOf]; omega
          · have d2 : ((s[k + 1].toNat : Int) != 1) = true := by rw [bne, ne_one hz1]; rfl
            by_cases hz2 : s[k + 1] = 255
            · have HG := Lib.hid (hgo.out.trans (congrArg (Option.map (L ++ ·)) (go_nought s pre k h1 h0 hz2)))
              have d3 : ((s[k + 1].toNat : Int) != 255) = false := by rw [hz2]; rfl
              have d4 : ((s[k + 1].toNat : Int) == 255) = true := by rw [hz2]; rfl
              clear hz1 hz2 h0
              go_wp2_with (at_builtin; refine wpList_append_byteG _ rfl (.tmp 53) (.tmp 54) 48 rfl _ 5 Try.underlying48 byteInfo _ _ rfl hB _ 0 rfl rfl HC.out hge 9 (by decide) _ _ _ _ hS ?_; intro v1 w1 hB1 hbel1 hS1)
              go_roundw
              case rel => exact ⟨k + 2, L, pre ++ [0], true, by omega, by go_num, rfl, hS1, hB1, by omega, by rw [List.length_append, List.length_singleton]; omega, Lib.hid (by simp), HG, hbel.trans hbel1⟩
              case measure => simp [intOf]; omega
            · have HG := Lib.hid (hgo.out.trans (congrArg (Option.map (L ++ ·)) (go_bad s pre k h1 h0 hz1 hz2)))
              have d3 := ne_full hz2
              clear hz1 hz2 h0
              go_wp2
              go_ret2
              refine PartsGive.no (fun M hM => ?_) hbel
              have := hM.2.2
              rw [HG.out] at this
              simp at this
        · have HG := Lib.hid (hgo.out.trans (congrArg (Option.map (L ++ ·)) (go_cut s pre k (by omega) h0)))
          have d1 : decide ((s.size : Int) ≤ k + 1) = true := by simp; omega
          clear h0
          go_wp2
          go_ret2
          refine PartsGive.no (fun M hM => ?_) hbel
          have := hM.2.2
          rw [HG.out] at this
          simp at this
      · have HG := Lib.hid (go_skip s pre L k hlt h0 hgo.out)
        have d0 := ne_nought h0
        clear h0
        go_wp2_with (at_builtin; refine wpList_append_byteG _ rfl (.tmp 23) (.tmp 27) 48 rfl _ 5 Try.underlying48 byteInfo _ _ rfl hB _ s[k] rfl rfl HC.out hge 9 (by decide) _ _ _ _ hS ?_; intro v1 w1 hB1 hbel1 hS1)
        go_roundw
        case rel => exact ⟨k + 1, L, pre ++ [s[k]], true, by omega, by go_num, rfl, hS1, hB1, by omega, by rw [List.length_append, List.length_singleton]; omega, Lib.hid (by simp), HG, hbel.trans hbel1⟩
        case measure => simp [intOf]; omega
    · obtain rfl : k = s.size := by omega
      cases ob with
      | true =>
        have HG := Lib.hid (hgo.out.trans (congrArg (Option.map (L ++ ·)) ((go_last s pre s.size (Nat.le_refl _)).trans (if_neg (hob.out.1 rfl)))))
        go_wp2
        go_ret2
        refine PartsGive.no (fun M hM => ?_) hbel
        have := hM.2.2
        rw [HG.out] at this
        simp at this
      | false =>
        have hp : pre = [] := by
          by_cases e : pre = []
          · exact e
          · exact absurd (hob.out.2 e) (by simp)
        subst hp
        have HG : Hid (go [] s.data.toList = some L) := Lib.hid (by rw [hgo.out, drop_size, go_nil]; simp)
        obtain ⟨A, cap, rfl⟩ := hS.form
        by_cases h16 : 16 < L.length
        · have d1 : decide ((16 : Int) < L.length) = true := by simp; omega
          go_wp2
          go_ret2
          refine PartsGive.no (fun M hM => ?_) hbel
          have h2 := hM.2.2
          have h3 := hM.2.1
          rw [HG.out] at h2
          injection h2 with h2
          subst h2
          omega
        · have d1 : decide ((16 : Int) < L.length) = false := by simp; omega
          go_wp2
          go_ret2
          exact PartsGive.yes ⟨h, by omega, HG.out⟩ hS.reads hbel

theorem parts_any (s : ByteArray) (w : World) : Calls Try.prog 21 #[.string s] w (PartsGive s w) := by
  by_cases h : s.size ≤ 4096
  · exact parts_small s h w
  · exact parts_big s (by omega) w
theorem rparts_any (s : ByteArray) (w : World) : Calls Try.prog 23 #[.string s] w (PartsGive s w) := by
  by_cases h : s.size ≤ 4096
  · exact rparts_small s h w
  · exact rparts_big s (by omega) w
theorem parts_yes (s : ByteArray) (L : List ByteArray) (hL : Good s L) (w : World) :
    Calls Try.prog 21 #[.string s] w fun e w' => ∃ A cap, e = .returned (.tuple #[.slice A L.length cap, .int .i64 0]) ∧ Reads w' A L ∧ Below w.heap.size w w' := by
  refine (parts_any s w).mono fun e w' ⟨h, hb⟩ => ?_
  rcases h with ⟨M, A, cap, rfl, hM, hR⟩ | ⟨_, hn⟩
  · have e := hM.2.2.symm.trans hL.2.2
    injection e with e
    subst e
    exact ⟨A, cap, rfl, hR, hb⟩
  · exact absurd hL (hn L)
theorem rparts_yes (s : ByteArray) (L : List ByteArray) (hL : Good s L) (w : World) :
    Calls Try.prog 23 #[.string s] w fun e w' => ∃ A cap, e = .returned (.tuple #[.slice A L.length cap, .int .i64 0]) ∧ Reads w' A L ∧ Below w.heap.size w w' := by
  refine (rparts_any s w).mono fun e w' ⟨h, hb⟩ => ?_
  rcases h with ⟨M, A, cap, rfl, hM, hR⟩ | ⟨_, hn⟩
  · have e := hM.2.2.symm.trans hL.2.2
    injection e with e
    subst e
    exact ⟨A, cap, rfl, hR, hb⟩
  · exact absurd hL (hn L)
theorem parts_no (s : ByteArray) (hL : ∀ L, ¬ Good s L) (w : World) :
    Calls Try.prog 21 #[.string s] w fun e w' => e = .returned (.tuple #[.slice none 0 0, .int .i64 4]) ∧ Below w.heap.size w w' := by
  refine (parts_any s w).mono fun e w' ⟨h, hb⟩ => ?_
  rcases h with ⟨M, A, cap, rfl, hM, hR⟩ | ⟨rfl, _⟩
  · exact absurd hM (hL M)
  · exact ⟨rfl, hb⟩
theorem rparts_no (s : ByteArray) (hL : ∀ L, ¬ Good s L) (w : World) :
    Calls Try.prog 23 #[.string s] w fun e w' => e = .returned (.tuple #[.slice none 0 0, .int .i64 4]) ∧ Below w.heap.size w w' := by
  refine (rparts_any s w).mono fun e w' ⟨h, hb⟩ => ?_
  rcases h with ⟨M, A, cap, rfl, hM, hR⟩ | ⟨rfl, _⟩
  · exact absurd hM (hL M)
  · exact ⟨rfl, hb⟩

theorem same_len (A B : Option Addr) (n m c d : Nat) (h : n ≠ m) (w : World) : Calls Try.prog 22 #[.slice A n c, .slice B m d] w fun e w' => e = .returned (.bool false) ∧ w = w' := by
  have d1 : ((n : Int) != m) = true := by rw [bne_iff_ne]; omega
  go_enter Try.func22, Try.ntmps22
  go_wp2
  go_ret
  exact ⟨rfl, rfl⟩
theorem same_none (A B : Option Addr) (c d : Nat) (w : World) : Calls Try.prog 22 #[.slice A 0 c, .slice B 0 d] w fun e w' => e = .returned (.bool true) ∧ w = w' := by
  go_enter Try.func22, Try.ntmps22
  go_wp2
  go_loop [5] (fun i => i = .int .i64 0) (fun _ => 0)
  case atStart => exact rfl
  case round =>
    subst hrel
    go_wp2
    go_ret
    exact ⟨rfl, rfl⟩
set_option maxHeartbeats 800000 in
theorem same_some (b off b' off' : Nat) (L M : List ByteArray) (hLM : L.length = M.length) (c d : Nat) (w : World) (hb : b < w.heap.size) (hb' : b' < w.heap.size) (hA : StrsAt w b off L) (hB : StrsAt w b' off' M) (hn : L.length ≤ 1048576) :
    Calls Try.prog 22 #[.slice (some ⟨b, off, none⟩) L.length c, .slice (some ⟨b', off', none⟩) L.length d] w fun e w' => e = .returned (.bool (decide (L = M))) ∧ Below w.heap.size w w' := by
  have HA := Lib.hid hA
  have HB := Lib.hid hB
  have HLM := Lib.hid hLM
  clear hA hB hLM
  go_enter Try.func22, Try.ntmps22
  go_wp2
  go_loopw [5] (fun i wr => ∃ k : Nat, k ≤ L.length ∧ i = .int .i64 k ∧ Hid (L.take k = M.take k) ∧ Below w.heap.size w wr) (fun i _ => L.length - (intOf i).toNat)
  case atStart => exact ⟨0, by omega, rfl, Lib.hid rfl, Below.refl _ _⟩
  case round =>
    obtain ⟨k, hk, rfl, htake, hbel⟩ := hrel
    by_cases h : k < L.length
    · have hkM : k < M.length := HLM.out ▸ h
      have c1 := (hbel.cell (p := ⟨b, off + k, none⟩) hb).trans (HA.out k h)
      have c2 := (hbel.cell (p := ⟨b', off' + k, none⟩) hb').trans (HB.out k hkM)
      have d1 : decide ((k : Int) < L.length) = true := by simp; omega
      by_cases he : L[k] = M[k]
      · have d2 := beq_str_true he
        have HE := Lib.hid he
        clear he
        go_wp2
        go_quiet (fail)
        go_wp2
        go_roundw
        case rel =>
          refine ⟨k + 1, by omega, by go_num, Lib.hid ?_, hbel.drewN _⟩
          rw [List.take_succ_eq_append_getElem h, List.take_succ_eq_append_getElem hkM, htake.out, HE.out]
        case measure => simp [intOf]; omega
      · have d2 := beq_str_false he
        have HE : Hid (decide (L = M) = false) := Lib.hid (by rw [decide_eq_false_iff_not]; rintro rfl; exact he rfl)
        clear he
        go_wp2
        go_quiet (fail)
        go_wp2
        go_ret
        refine ⟨?_, hbel.drewN _⟩
        rw [HE.out]
        rfl
    · obtain rfl : k = L.length := by omega
      have HE : Hid (decide (L = M) = true) := Lib.hid (by
        have := htake.out
        rw [List.take_length, List.take_of_length_le (by rw [HLM.out]; exact Nat.le_refl _)] at this
        simpa using this)
      go_wp2
      go_ret
      refine ⟨?_, hbel⟩
      rw [HE.out]
      rfl
/-- Same, of any two lists that can be read -/
theorem same_any (A B : Option Addr) (L M : List ByteArray) (c d : Nat) (w : World) (hA : Reads w A L) (hB : Reads w B M) (hn : L.length ≤ 1048576) :
    Calls Try.prog 22 #[.slice A L.length c, .slice B M.length d] w fun e w' => e = .returned (.bool (decide (L = M))) ∧ Below w.heap.size w w' := by
  by_cases hl : L.length = M.length
  · rcases hA with rfl | ⟨b, off, rfl, hb, hA⟩
    · have hM : M = [] := List.eq_nil_of_length_eq_zero hl.symm
      subst hM
      exact (same_none A B c d w).mono fun _ _ ⟨h1, h2⟩ => ⟨h1, h2 ▸ Below.refl _ _⟩
    · rcases hB with rfl | ⟨b', off', rfl, hb', hB⟩
      · have hL : L = [] := List.eq_nil_of_length_eq_zero hl
        subst hL
        exact (same_none _ B c d w).mono fun _ _ ⟨h1, h2⟩ => ⟨h1, h2 ▸ Below.refl _ _⟩
      · rw [← hl]
        exact same_some b off b' off' L M hl c d w hb hb' hA hB hn
  · have e : decide (L = M) = false := by rw [decide_eq_false_iff_not]; rintro rfl; exact hl rfl
    rw [e]
    exact (same_len A B _ _ c d hl w).mono fun _ _ ⟨h1, h2⟩ => ⟨h1, h2 ▸ Below.refl _ _⟩
end Go.Proofs.Ytkbhjpgadhbakaa
