/-
  Contracts of field.sized, field.Put, field.Take and of the reference's Put and Take (packages field, rollbookref01): what each call answers, and that nothing that was in memory before has changed. Conditions: texts of at most 1048576 bytes.
-/
import Derived.Test.YtjgndgcegenikaaBytes
import Derived.Test.YtjgndgcegenikaaProg
import Derived.KernelRfl
namespace Go.Proofs.Ytjgndgcegenikaa
open Go.RowKit
theorem sized_yes (n : Int) (h : 1 ≤ n ∧ n ≤ 8) (w : World) : Calls Try.prog 60 #[.int .i64 n] w fun e w' => e = .returned (.bool true) ∧ w = w' := by
  have h1 : decide (1 ≤ n) = true := by simpa using h.1
  have h2 : decide (n ≤ 8) = true := by simpa using h.2
  go_enter Try.func60, Try.ntmps60
  go_wp2
  go_ret
  exact ⟨rfl, rfl⟩
theorem sized_no (n : Int) (h : ¬ (1 ≤ n ∧ n ≤ 8)) (w : World) : Calls Try.prog 60 #[.int .i64 n] w fun e w' => e = .returned (.bool false) ∧ w = w' := by
  by_cases h1 : 1 ≤ n
  · have h2 : decide (n ≤ 8) = false := by simp; omega
    have h1 : decide (1 ≤ n) = true := by simpa using h1
    go_enter Try.func60, Try.ntmps60
    go_wp2
    go_ret
    exact ⟨rfl, rfl⟩
  · have h1 : decide (1 ≤ n) = false := by simpa using h1
    go_enter Try.func60, Try.ntmps60
    go_wp2
    go_ret
    exact ⟨rfl, rfl⟩

theorem byteInfo : (Try.prog.info? 5).map (fun i => (i.zero, i.size, i.bytes)) = some (some (.int .u8 0), 1, 1) := by kernel_rfl
def beB (n k m : Nat) : List UInt8 := (List.range (k - m)).map fun t => UInt8.ofNat (n / 2 ^ (8 * (k - 1 - t)))
theorem beB_snoc (n k d : Nat) (h : d < k) : beB n k d = beB n k (d + 1) ++ [UInt8.ofNat (n / 2 ^ (8 * d))] := by
  unfold beB
  rw [show k - d = (k - (d + 1)) + 1 from by omega, List.range_succ, List.map_append]
  simp only [List.map_cons, List.map_nil]
  rw [show k - 1 - (k - (d + 1)) = d from by omega]
theorem beB_length (n k m : Nat) : (beB n k m).length = k - m := by simp [beB]
theorem str_cat (s : ByteArray) (l : List UInt8) : (⟨(s.data.toList ++ l).toArray⟩ : ByteArray) = s ++ ⟨l.toArray⟩ := by
  rw [← ByteArray.mk_append_mk]
theorem run_add_list {P : Program} (w : World) (s : ByteArray) (l : List UInt8) (h : s.size + l.length ≤ 9223372036854775807) :
    (Op.stringOp .add s ⟨l.toArray⟩).run P w = .ok (.string (s ++ ⟨l.toArray⟩)) w := by
  refine run_string_add_sum _ _ _ ?_
  rw [ByteArray.size_mk', List.size_toArray]
  exact h
theorem byte_of (n d : Nat) : ((n : Int) / 2 ^ (8 * d)) % 256 = ((UInt8.ofNat (n / 2 ^ (8 * d))).toNat : Int) := by
  simp

set_option maxHeartbeats 400000 in
theorem put_ok (s : ByteArray) (n : Nat) (k : Nat) (hs : s.size ≤ 1048576) (hn : n < 2 ^ (8 * k)) (hk : 1 ≤ k) (hk8 : k ≤ 8) (w : World) :
    Calls Try.prog 46 #[.string s, .int .u64 n, .int .i64 k] w fun e w' => e = .returned (.tuple #[.string ⟨(s.data.toList ++ beB n k 0).toArray⟩, .int .i64 0]) ∧ Below w.heap.size w w' := by
  have kc := fun (w : World) => Lib.run_convert_string_bytes (P := Try.prog) w 9 86 5 s Try.underlying9 Try.underlying86 Try.underlying5
  have hfit : (((n : Int) / 2 ^ (8 * k)) != 0) = false := by
    have : n / 2 ^ (8 * k) = 0 := Nat.div_eq_of_lt hn
    have h2 : ((n / 2 ^ (8 * k) : Nat) : Int) = 0 := by rw [this]; rfl
    push_cast at h2
    simp [h2]
  have hsl : s.data.toList.length = s.size := by rw [Array.length_toList]; rfl
  go_enter Try.func46, Try.ntmps46
  go_wp2_with (go_at_call 60; refine (sized_yes _ (by omega) _).mono ?_; rintro e w' ⟨rfl, rfl⟩)
  clear hfit
  go_loopw [8, 9] (fun b i wr => ∃ m : Int, -1 ≤ m ∧ m < k ∧ i = .int .i64 m ∧ OwnB wr w.heap.size 5 b (s.data.toList ++ beB n k (m + 1).toNat) ∧ Below w.heap.size w wr)
    (fun _ i _ => (intOf i + 1).toNat)
  case atStart =>
    refine ⟨k - 1, by omega, by omega, rfl, ?_, below_conv _ _ _⟩
    rw [show ((k : Int) - 1 + 1).toNat = k from by omega]
    simp only [beB, Nat.sub_self, List.range_zero, List.map_nil, List.append_nil]
    exact OwnB.conv _ _ _ _ (Nat.le_refl _) (by simp only [maxLen]; omega)
  case round =>
    obtain ⟨m, hm1, hm2, rfl, hown, hbel⟩ := hrel
    by_cases h0 : 0 ≤ m
    · obtain ⟨d, rfl⟩ := Int.eq_ofNat_of_zero_le h0
      have hsn := Lib.hid (beB_snoc n k d (by omega))
      have hlen := beB_length n k (d + 1)
      have hd : decide (0 ≤ (d : Int)) = true := by simp
      rw [show ((d : Int) + 1).toNat = d + 1 from by omega] at hown
      have hc1 : (s.data.toList ++ beB n k (d + 1)).length + 1 ≤ 140737488355328 := by rw [List.length_append, hlen, hsl]; omega
      have HC1 := Lib.hid hc1
      clear hlen hsl hc1
      have hge := hbel.size
      go_wp2_with (at_builtin; refine wpList_append_byte _ rfl (.tmp 28) (.tmp 34) 86 rfl _ 5 Try.underlying86 byteInfo _ _ rfl hown _ _ (byte_of n d) rfl HC1.out hge ?_; intro v' w1 hown1 hbel1)
      go_roundw
      case rel =>
        refine ⟨(d : Int) - 1, by omega, by omega, by go_num, ?_, hbel.trans hbel1⟩
        rw [show ((d : Int) - 1 + 1).toNat = d from by omega, hsn.out, ← List.append_assoc]
        exact hown1
      case measure => simp [intOf]
    · have hd : decide (0 ≤ m) = false := by simpa using h0
      obtain rfl : m = -1 := by omega
      have hc := run_string_B (P := Try.prog) wr 86 9 5 Try.underlying86 Try.underlying5 Try.underlying9 _ _ _ hown
      go_wp2
      go_ret2
      exact ⟨rfl, hbel⟩
def beN (l : List UInt8) : Nat := l.foldl (fun n b => n * 256 + b.toNat) 0
theorem beN_snoc (l : List UInt8) (b : UInt8) : beN (l ++ [b]) = beN l * 256 + b.toNat := by simp [beN]
theorem beN_lt (l : List UInt8) : beN l < 2 ^ (8 * l.length) := by
  have h : ∀ (m : Nat) (l : List UInt8), l.length = m → beN l < 2 ^ (8 * m) := by
    intro m
    induction m with
    | zero => intro l h; simp [List.eq_nil_of_length_eq_zero h, beN]
    | succ m ih =>
      intro l h
      have hne : l ≠ [] := by intro e; simp [e] at h
      obtain ⟨r, b, rfl⟩ : ∃ r b, l = r ++ [b] := ⟨l.dropLast, l.getLast hne, (List.dropLast_concat_getLast hne).symm⟩
      have := ih r (by simpa using h)
      rw [beN_snoc, Nat.mul_add, Nat.pow_add]
      have := b.toNat_lt
      omega
  exact h _ l rfl
set_option maxHeartbeats 400000 in
theorem put_bad (s : ByteArray) (n : Nat) (k : Int) (hk : ¬ (1 ≤ k ∧ k ≤ 8)) (w : World) :
    Calls Try.prog 46 #[.string s, .int .u64 n, .int .i64 k] w fun e w' => e = .returned (.tuple #[.string ⟨#[]⟩, .int .i64 1]) ∧ w = w' := by
  go_enter Try.func46, Try.ntmps46
  go_wp2_with (go_at_call 60; refine (sized_no _ hk _).mono ?_; rintro e w' ⟨rfl, rfl⟩)
  go_ret2
  exact ⟨rfl, rfl⟩
set_option maxHeartbeats 400000 in
theorem put_great (s : ByteArray) (n k : Nat) (hk : 1 ≤ k) (hk8 : k ≤ 8) (hn : ¬ n < 2 ^ (8 * k)) (w : World) :
    Calls Try.prog 46 #[.string s, .int .u64 n, .int .i64 k] w fun e w' => e = .returned (.tuple #[.string ⟨#[]⟩, .int .i64 1]) ∧ w = w' := by
  have hfit : (((n : Int) / 2 ^ (8 * k)) != 0) = true := by
    have h1 : 0 < n / 2 ^ (8 * k) := Nat.div_pos (by omega) (Nat.pow_pos (by omega))
    have h2 : 0 < ((n / 2 ^ (8 * k) : Nat) : Int) := by omega
    push_cast at h2
    simp
    omega
  go_enter Try.func46, Try.ntmps46
  go_wp2_with (go_at_call 60; refine (sized_yes _ (by omega) _).mono ?_; rintro e w' ⟨rfl, rfl⟩)
  go_ret2
  exact ⟨rfl, rfl⟩
theorem take_bad (s : ByteArray) (at_ k : Int) (hk : ¬ (1 ≤ k ∧ k ≤ 8)) (w : World) :
    Calls Try.prog 48 #[.string s, .int .i64 at_, .int .i64 k] w fun e w' => e = .returned (.tuple #[.int .u64 0, .int .i64 1]) ∧ w = w' := by
  go_enter Try.func48, Try.ntmps48
  go_wp2_with (go_at_call 60; refine (sized_no _ hk _).mono ?_; rintro e w' ⟨rfl, rfl⟩)
  go_ret2
  exact ⟨rfl, rfl⟩
theorem take_neg (s : ByteArray) (at_ k : Int) (hk : 1 ≤ k ∧ k ≤ 8) (h : at_ < 0) (w : World) :
    Calls Try.prog 48 #[.string s, .int .i64 at_, .int .i64 k] w fun e w' => e = .returned (.tuple #[.int .u64 0, .int .i64 1]) ∧ w = w' := by
  have hd : decide (at_ < 0) = true := by simpa using h
  go_enter Try.func48, Try.ntmps48
  go_wp2_with (go_at_call 60; refine (sized_yes _ hk _).mono ?_; rintro e w' ⟨rfl, rfl⟩)
  go_ret2
  exact ⟨rfl, rfl⟩
theorem take_short (s : ByteArray) (hs : s.size ≤ 1048576) (at_ k : Int) (hk : 1 ≤ k ∧ k ≤ 8) (h : 0 ≤ at_) (h9 : at_ ≤ 9223372036854775807) (h2 : (s.size : Int) < at_ + k) (w : World) :
    Calls Try.prog 48 #[.string s, .int .i64 at_, .int .i64 k] w fun e w' => e = .returned (.tuple #[.int .u64 0, .int .i64 3]) ∧ w = w' := by
  have hd : decide (at_ < 0) = false := by simpa using h
  have hd2 : decide ((s.size : Int) - at_ < k) = true := by simp; omega
  go_enter Try.func48, Try.ntmps48
  go_wp2_with (go_at_call 60; refine (sized_yes _ hk _).mono ?_; rintro e w' ⟨rfl, rfl⟩)
  go_ret2
  exact ⟨rfl, rfl⟩

theorem shl_or (X : Nat) (b : UInt8) (h : X < 2 ^ 56) : bits .or .u64 (IntKind.u64.wrap ((X : Int) * 256)) (IntKind.u64.wrap (b.toNat : Int)) = ((X * 256 + b.toNat : Nat) : Int) := by
  have hb := b.toNat_lt
  have e1 : IntKind.u64.wrap ((X : Int) * 256) = ((X * 256 : Nat) : Int) := by rw [IntKind.wrap_u64]; omega
  have e2 : IntKind.u64.wrap (b.toNat : Int) = (b.toNat : Int) := by rw [IntKind.wrap_u64]; omega
  rw [e1, e2, bits_or_u64_nat _ _ (by omega) (by omega)]
  have := Nat.shiftLeft_add_eq_or_of_lt (b := b.toNat) (i := 8) (by omega) X
  rw [Nat.shiftLeft_eq] at this
  rw [show X * 256 = X * 2 ^ 8 from rfl, ← this]
theorem mul_add_byte (X : Nat) (b : UInt8) (h : X < 2 ^ 56) : IntKind.u64.wrap (IntKind.u64.wrap ((X : Int) * 256) + IntKind.u64.wrap (b.toNat : Int)) = ((X * 256 + b.toNat : Nat) : Int) := by
  have hb := b.toNat_lt
  simp only [IntKind.wrap_u64]
  omega
theorem drop_take_snoc (s : ByteArray) (a j : Nat) (h : a + j < s.size) : (s.data.toList.drop a).take (j + 1) = (s.data.toList.drop a).take j ++ [s[a + j]] := by
  rw [List.take_succ_eq_append_getElem (by simpa using by have : s.data.size = s.size := rfl; omega)]
  simp
  rfl
theorem beN_bound (l : List UInt8) (j : Nat) (h : j < 8) : beN (l.take j) < 2 ^ 56 :=
  Nat.lt_of_lt_of_le (beN_lt _) (Nat.pow_le_pow_right (by omega) (by have := List.length_take_le j l; omega))
set_option maxHeartbeats 400000 in
theorem take_ok (s : ByteArray) (hs : s.size ≤ 1048576) (a k : Nat) (hk : 1 ≤ k) (hk8 : k ≤ 8) (h2 : a + k ≤ s.size) (w : World) :
    Calls Try.prog 48 #[.string s, .int .i64 a, .int .i64 k] w fun e w' => e = .returned (.tuple #[.int .u64 (beN ((s.data.toList.drop a).take k)), .int .i64 0]) ∧ w = w' := by
  have hd : decide ((a : Int) < 0) = false := by simp
  have hd2 : decide ((s.size : Int) - a < k) = false := by simp; omega
  go_enter Try.func48, Try.ntmps48
  go_wp2_with (go_at_call 60; refine (sized_yes _ (by omega) _).mono ?_; rintro e w' ⟨rfl, rfl⟩)
  clear hd hd2
  go_loop [8, 24] (fun n i => ∃ j : Nat, j ≤ k ∧ i = .int .i64 j ∧ n = .int .u64 (beN ((s.data.toList.drop a).take j))) (fun _ i => k - (intOf i).toNat)
  case atStart => exact ⟨0, by omega, rfl, rfl⟩
  case round =>
    obtain ⟨j, hj, rfl, rfl⟩ := hrel
    by_cases h : j < k
    · have hb := Lib.hid (shl_or _ s[a + j] (beN_bound (s.data.toList.drop a) j (by omega)))
      have hsn := Lib.hid (drop_take_snoc s a j (by omega))
      go_wp2
      go_round
      case rel => exact ⟨j + 1, by omega, by go_num, by rw [hb.out, hsn.out, beN_snoc]⟩
      case measure => simp [intOf]; omega
    · obtain rfl : k = j := by omega
      go_wp2
      go_ret2
      exact ⟨rfl, rfl⟩
theorem rtake_bad (s : ByteArray) (at_ k : Int) (hk : ¬ (1 ≤ k ∧ k ≤ 8)) (w : World) :
    Calls Try.prog 39 #[.string s, .int .i64 at_, .int .i64 k] w fun e w' => e = .returned (.tuple #[.int .u64 0, .int .i64 1]) ∧ w = w' := by
  by_cases h : k < 1
  · have h1 : decide (k < 1) = true := by simpa using h
    go_enter Try.func39, Try.ntmps39
    go_wp2
    go_ret2
    exact ⟨rfl, rfl⟩
  · have h1 : decide (k < 1) = false := by simpa using h
    have h2 : decide (8 < k) = true := by simp; omega
    go_enter Try.func39, Try.ntmps39
    go_wp2
    go_ret2
    exact ⟨rfl, rfl⟩
theorem rtake_neg (s : ByteArray) (at_ k : Int) (hk : 1 ≤ k ∧ k ≤ 8) (h : at_ < 0) (w : World) :
    Calls Try.prog 39 #[.string s, .int .i64 at_, .int .i64 k] w fun e w' => e = .returned (.tuple #[.int .u64 0, .int .i64 1]) ∧ w = w' := by
  have hd : decide (at_ < 0) = true := by simpa using h
  have h1 : decide (k < 1) = false := by simp; omega
  have h2 : decide (8 < k) = false := by simp; omega
  go_enter Try.func39, Try.ntmps39
  go_wp2
  go_ret2
  exact ⟨rfl, rfl⟩
theorem rtake_short (s : ByteArray) (hs : s.size ≤ 1048576) (at_ k : Int) (hk : 1 ≤ k ∧ k ≤ 8) (h : 0 ≤ at_) (h9 : at_ ≤ 9223372036854775807) (h2 : (s.size : Int) < at_ + k) (w : World) :
    Calls Try.prog 39 #[.string s, .int .i64 at_, .int .i64 k] w fun e w' => e = .returned (.tuple #[.int .u64 0, .int .i64 3]) ∧ w = w' := by
  have hd : decide (at_ < 0) = false := by simpa using h
  have h1 : decide (k < 1) = false := by simp; omega
  have h2 : decide (8 < k) = false := by simp; omega
  have hd2 : decide ((s.size : Int) - k < at_) = true := by simp; omega
  go_enter Try.func39, Try.ntmps39
  go_wp2
  go_ret2
  exact ⟨rfl, rfl⟩
set_option maxHeartbeats 400000 in
theorem rtake_ok (s : ByteArray) (hs : s.size ≤ 1048576) (a k : Nat) (hk : 1 ≤ k) (hk8 : k ≤ 8) (h2 : a + k ≤ s.size) (w : World) :
    Calls Try.prog 39 #[.string s, .int .i64 a, .int .i64 k] w fun e w' => e = .returned (.tuple #[.int .u64 (beN ((s.data.toList.drop a).take k)), .int .i64 0]) ∧ w = w' := by
  have hd : decide ((a : Int) < 0) = false := by simp
  have h1 : decide ((k : Int) < 1) = false := by simp; omega
  have h3 : decide (8 < (k : Int)) = false := by simp; omega
  have hd2 : decide ((s.size : Int) - k < a) = false := by simp; omega
  go_enter Try.func39, Try.ntmps39
  go_wp2
  clear hd hd2 h1 h3
  go_loop [8, 9] (fun n i => ∃ j : Nat, j ≤ k ∧ i = .int .i64 j ∧ n = .int .u64 (beN ((s.data.toList.drop a).take j))) (fun _ i => k - (intOf i).toNat)
  case atStart => exact ⟨0, by omega, rfl, rfl⟩
  case round =>
    obtain ⟨j, hj, rfl, rfl⟩ := hrel
    by_cases h : j < k
    · have hb := Lib.hid (mul_add_byte _ s[a + j] (beN_bound (s.data.toList.drop a) j (by omega)))
      have hsn := Lib.hid (drop_take_snoc s a j (by omega))
      go_wp2
      go_round
      case rel => exact ⟨j + 1, by omega, by go_num, by rw [hb.out, hsn.out, beN_snoc]⟩
      case measure => simp [intOf]; omega
    · obtain rfl : k = j := by omega
      go_wp2
      go_ret2
      exact ⟨rfl, rfl⟩
theorem rput_bad (s : ByteArray) (n : Nat) (k : Int) (hk : ¬ (1 ≤ k ∧ k ≤ 8)) (w : World) :
    Calls Try.prog 47 #[.string s, .int .u64 n, .int .i64 k] w fun e w' => e = .returned (.tuple #[.string ⟨#[]⟩, .int .i64 1]) ∧ w = w' := by
  by_cases h : k < 1
  · have h1 : decide (k < 1) = true := by simpa using h
    go_enter Try.func47, Try.ntmps47
    go_wp2
    go_ret2
    exact ⟨rfl, rfl⟩
  · have h1 : decide (k < 1) = false := by simpa using h
    have h2 : decide (8 < k) = true := by simp; omega
    go_enter Try.func47, Try.ntmps47
    go_wp2
    go_ret2
    exact ⟨rfl, rfl⟩
theorem div_step (n t X : Nat) (h : X = n / 2 ^ (8 * t)) (hn : n < 2 ^ 64) : IntKind.u64.wrap ((X : Int) / 256) = ((X / 256 : Nat) : Int) ∧ X / 256 = n / 2 ^ (8 * (t + 1)) := by
  constructor
  · have : X ≤ n := by rw [h]; exact Nat.div_le_self _ _
    rw [IntKind.wrap_u64]
    omega
  · rw [h, Nat.mul_add, Nat.pow_add, ← Nat.div_div_eq_div_mul]
theorem byte_mod2 (X : Nat) : ((X : Int) % 256) = ((UInt8.ofNat X).toNat : Int) := by simp
set_option maxHeartbeats 800000 in
theorem rput_ok (s : ByteArray) (n : Nat) (k : Nat) (hs : s.size ≤ 1048576) (hn : n < 2 ^ (8 * k)) (hk : 1 ≤ k) (hk8 : k ≤ 8) (w : World) :
    Calls Try.prog 47 #[.string s, .int .u64 n, .int .i64 k] w fun e w' => e = .returned (.tuple #[.string ⟨(s.data.toList ++ beB n k 0).toArray⟩, .int .i64 0]) ∧ Below w.heap.size w w' := by
  have h1 : decide ((k : Int) < 1) = false := by simp; omega
  have h3 : decide (8 < (k : Int)) = false := by simp; omega
  have HN : Hid (n < 2 ^ 64) := Lib.hid (Nat.lt_of_lt_of_le hn (Nat.pow_le_pow_right (by omega) (by omega)))
  have HF : Hid (∀ d : Nat, d + 1 = k → (n / 2 ^ (8 * d)) ≤ 255) := by
    refine Lib.hid ?_
    intro d hdk
    subst hdk
    rw [Nat.mul_add, Nat.pow_add] at hn
    have : n / 2 ^ (8 * d) < 2 ^ (8 * 1) := Nat.div_lt_of_lt_mul hn
    omega
  clear hn
  go_enter Try.func47, Try.ntmps47
  go_wp2
  clear h1 h3
  go_loopw [8, 9, 10, 11] (fun b i _ _ wr => ∃ m : Int, -1 ≤ m ∧ m < k ∧ i = .int .i64 m ∧ OwnB wr w.heap.size 5 b (beB n k (m + 1).toNat) ∧ Below w.heap.size w wr)
    (fun _ i _ _ _ => (intOf i + 1).toNat)
  case atStart =>
    refine ⟨k - 1, by omega, by omega, rfl, ?_, (Below.refl _ w).alloc (Nat.le_refl _) _⟩
    rw [show ((k : Int) - 1 + 1).toNat = k from by omega]
    simp only [beB, Nat.sub_self, List.range_zero, List.map_nil]
    exact OwnB.empty _ _ _ (Nat.le_refl _)
  case round =>
    obtain ⟨m, hm1, hm2, rfl, hown, hbel⟩ := hrel
    by_cases h0 : 0 ≤ m
    · obtain ⟨d, rfl⟩ := Int.eq_ofNat_of_zero_le h0
      have hsn := Lib.hid (beB_snoc n k d (by omega))
      have hlen := beB_length n k (d + 1)
      have hd : decide (0 ≤ (d : Int)) = true := by simp
      rw [show ((d : Int) + 1).toNat = d + 1 from by omega] at hown
      have hc1 : (beB n k (d + 1)).length + 1 ≤ 140737488355328 := by omega
      have HC1 := Lib.hid hc1
      clear hlen hc1
      have hge := hbel.size
      obtain ⟨wo, rfl⟩ : ∃ wo : World, wo = wr := ⟨_, rfl⟩
      go_wp2
      clear hd
      go_loop [10, 11] (fun x i => ∃ t X : Nat, t ≤ d ∧ i = .int .i64 t ∧ x = .int .u64 (X : Int) ∧ Hid (X = n / 2 ^ (8 * t))) (fun _ i => d - (intOf i).toNat)
      case atStart => exact ⟨0, n, by omega, rfl, rfl, Lib.hid (by simp)⟩
      case round =>
        obtain ⟨t, X, ht, rfl, rfl, hX⟩ := hrel
        by_cases htd : t < d
        · have hst := Lib.hid (div_step n t X hX.out HN.out)
          go_wp2
          go_round
          case rel => exact ⟨t + 1, X / 256, by omega, by go_num, by rw [hst.out.1], Lib.hid hst.out.2⟩
          case measure => simp [intOf]; omega
        · have htd' : t = d := by omega
          subst htd'
          have hbb := Lib.hid (show UInt8.ofNat (n / 2 ^ (8 * t)) = UInt8.ofNat X by rw [hX.out])
          by_cases hk1 : t + 1 = k
          · have hle : X ≤ 255 := by rw [hX.out]; exact HF.out t hk1
            have e1 : ((t : Int) == (k : Int) - 1) = true := by rw [beq_iff_eq]; omega
            have e2 : decide (255 < (X : Int)) = false := by simp; omega
            clear hle
            go_wp2_with (at_builtin; refine wpList_append_byte _ rfl (.tmp 41) (.tmp 45) 86 rfl _ 5 Try.underlying86 byteInfo _ _ rfl hown _ _ (byte_mod2 X) rfl HC1.out hge ?_; intro v' w1 hown1 hbel1)
            go_roundw
            case rel =>
              refine ⟨(t : Int) - 1, by omega, by omega, by go_num, ?_, hbel.trans hbel1⟩
              rw [show ((t : Int) - 1 + 1).toNat = t from by omega, hsn.out, hbb.out]
              exact hown1
            case measure => simp [intOf]
          · have e1 : ((t : Int) == (k : Int) - 1) = false := by rw [beq_eq_false_iff_ne]; omega
            go_wp2_with (at_builtin; refine wpList_append_byte _ rfl (.tmp 41) (.tmp 45) 86 rfl _ 5 Try.underlying86 byteInfo _ _ rfl hown _ _ (byte_mod2 X) rfl HC1.out hge ?_; intro v' w1 hown1 hbel1)
            go_roundw
            case rel =>
              refine ⟨(t : Int) - 1, by omega, by omega, by go_num, ?_, hbel.trans hbel1⟩
              rw [show ((t : Int) - 1 + 1).toNat = t from by omega, hsn.out, hbb.out]
              exact hown1
            case measure => simp [intOf]
    · have hd : decide (0 ≤ m) = false := by simpa using h0
      obtain rfl : m = -1 := by omega
      have hc := run_string_B (P := Try.prog) wr 86 9 5 Try.underlying86 Try.underlying5 Try.underlying9 _ _ _ hown
      have hl := beB_length n k 0
      have hadd := run_add_list (P := Try.prog) wr s (beB n k 0) (by omega)
      have HA := Lib.hid (str_cat s (beB n k 0))
      clear hl
      rw [show ((-1 : Int) + 1).toNat = 0 from rfl] at hc
      go_wp2
      go_ret2
      refine ⟨?_, hbel⟩
      show Ending.returned (.tuple #[.string (s ++ ⟨(beB n k 0).toArray⟩), .int .i64 0]) = _
      rw [HA.out]
set_option maxHeartbeats 800000 in
theorem rput_great (s : ByteArray) (n : Nat) (k : Nat) (hn : ¬ n < 2 ^ (8 * k)) (h64 : n < 2 ^ 64) (hk : 1 ≤ k) (hk8 : k ≤ 8) (w : World) :
    Calls Try.prog 47 #[.string s, .int .u64 n, .int .i64 k] w fun e w' => e = .returned (.tuple #[.string ⟨#[]⟩, .int .i64 1]) ∧ Below w.heap.size w w' := by
  have h1 : decide ((k : Int) < 1) = false := by simp; omega
  have h3 : decide (8 < (k : Int)) = false := by simp; omega
  have HN : Hid (n < 2 ^ 64) := Lib.hid h64
  obtain ⟨d, rfl⟩ : ∃ d, k = d + 1 := ⟨k - 1, by omega⟩
  have HF : Hid (256 ≤ n / 2 ^ (8 * d)) := by
    refine Lib.hid ?_
    rw [Nat.mul_add, Nat.pow_add] at hn
    rw [Nat.le_div_iff_mul_le (Nat.pow_pos (by omega))]
    omega
  clear hn h64
  go_enter Try.func47, Try.ntmps47
  go_wp2
  clear h1 h3
  go_loopw [9, 10, 11] (fun i _ _ wr => i = .int .i64 (d : Int) ∧ Below w.heap.size w wr)
    (fun i _ _ _ => (intOf i + 1).toNat)
  case atStart => exact ⟨by go_num, (Below.refl _ w).alloc (Nat.le_refl _) _⟩
  case round =>
    obtain ⟨rfl, hbel⟩ := hrel
    have hd : decide (0 ≤ (d : Int)) = true := by simp
    obtain ⟨wo, rfl⟩ : ∃ wo : World, wo = wr := ⟨_, rfl⟩
    go_wp2
    clear hd
    go_loop [10, 11] (fun x i => ∃ t X : Nat, t ≤ d ∧ i = .int .i64 t ∧ x = .int .u64 (X : Int) ∧ Hid (X = n / 2 ^ (8 * t))) (fun _ i => d - (intOf i).toNat)
    case atStart => exact ⟨0, n, by omega, rfl, rfl, Lib.hid (by simp)⟩
    case round =>
      obtain ⟨t, X, ht, rfl, rfl, hX⟩ := hrel
      by_cases htd : t < d
      · have hst := Lib.hid (div_step n t X hX.out HN.out)
        go_wp2
        go_round
        case rel => exact ⟨t + 1, X / 256, by omega, by go_num, by rw [hst.out.1], Lib.hid hst.out.2⟩
        case measure => simp [intOf]; omega
      · have htd' : t = d := by omega
        subst htd'
        have hle : 256 ≤ X := by rw [hX.out]; exact HF.out
        have e2 : decide (255 < (X : Int)) = true := by simp; omega
        go_wp2
        go_ret2
        exact ⟨rfl, hbel⟩
theorem beN_beB (n k j : Nat) (hj : j ≤ k) (hn : n < 2 ^ (8 * k)) : beN (beB n k j) = n / 2 ^ (8 * j) := by
  obtain ⟨d, hd⟩ : ∃ d, k - j = d := ⟨_, rfl⟩
  induction d generalizing j with
  | zero =>
    obtain rfl : j = k := by omega
    rw [Nat.div_eq_of_lt hn]
    simp [beB, beN]
  | succ d ih =>
    rw [beB_snoc n k j (by omega), beN_snoc, ih (j + 1) (by omega) (by omega), Nat.mul_add, Nat.pow_add, ← Nat.div_div_eq_div_mul]
    have : (UInt8.ofNat (n / 2 ^ (8 * j))).toNat = n / 2 ^ (8 * j) % 256 := by simp
    rw [this]
    omega

end Go.Proofs.Ytjgndgcegenikaa
