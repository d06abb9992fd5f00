/-
  Contracts of field.sized, field.Put, field.Take and of the reference's Put and Take (packages field, rollbookref01): what each call answers, and that nothing that was in memory before has changed. Conditions: texts of at most 1048576 bytes.
  Plain laws of no statement: the steps of a register of 32 bits (chapter 2), as numbers: they are linear, none is lost, four bytes at once. No conditions but those typed.
  Plain laws of no statement: a page's and a meta's bytes (chapter 4), as lists: what is packed is read as it was; what is read is packed. No conditions but those typed.
  Plain laws of no statement: four neighbouring bytes of a text turned one by one, and the sums of both texts (chapter 2). No conditions but those typed.
  Plain laws of no statement: a page's bytes of which one to four neighbouring ones were turned are none's (chapter 4). No conditions but those typed.
  Plain laws of no statement: a meta's bytes (chapter 4), as lists: what is packed is read as it was; what is read is packed; what is turned is told; the newest of two. No conditions but those typed.
  Plain definitions of no statement: pages and metas as values (chapter 4), which may be, their bytes, and what any bytes are read as. No conditions.
-/
import Derived.Test.YtjgmlpfallakmaaB1
import Derived.Test.YtjgmlpfallakmaaProg
import Derived.KernelRfl
import Derived.Laws.Sem
section
namespace Go.Proofs.Ytjgmlpfallakmaa
open Go.RowKit
theorem sized_yes (n : Int) (h : 1 ≤ n ∧ n ≤ 8) (w : World) : Calls Try.prog 77 #[.int .i64 n] w fun e w' => e = .returned (.bool true) ∧ w = w' := by
  have h1 : decide (1 ≤ n) = true := by simpa using h.1
  have h2 : decide (n ≤ 8) = true := by simpa using h.2
  go_enter Try.func77, Try.ntmps77
  go_wp2
  go_ret
  exact ⟨rfl, rfl⟩
theorem sized_no (n : Int) (h : ¬ (1 ≤ n ∧ n ≤ 8)) (w : World) : Calls Try.prog 77 #[.int .i64 n] w fun e w' => e = .returned (.bool false) ∧ w = w' := by
  by_cases h1 : 1 ≤ n
  · have h2 : decide (n ≤ 8) = false := by simp; omega
    have h1 : decide (1 ≤ n) = true := by simpa using h1
    go_enter Try.func77, Try.ntmps77
    go_wp2
    go_ret
    exact ⟨rfl, rfl⟩
  · have h1 : decide (1 ≤ n) = false := by simpa using h1
    go_enter Try.func77, Try.ntmps77
    go_wp2
    go_ret
    exact ⟨rfl, rfl⟩

theorem byteInfo : (Try.prog.info? 5).map (fun i => (i.zero, i.size, i.bytes)) = some (some (.int .u8 0), 1, 1) := by kernel_rfl
def beB (n k m : Nat) : List UInt8 := (List.range (k - m)).map fun t => UInt8.ofNat (n / 2 ^ (8 * (k - 1 - t)))
theorem beB_snoc (n k d : Nat) (h : d < k) : beB n k d = beB n k (d + 1) ++ [UInt8.ofNat (n / 2 ^ (8 * d))] := by
  unfold beB
  rw [show k - d = (k - (d + 1)) + 1 from by omega, List.range_succ, List.map_append]
  simp only [List.map_cons, List.map_nil]
  rw [show k - 1 - (k - (d + 1)) = d from by omega]
theorem beB_length (n k m : Nat) : (beB n k m).length = k - m := by simp [beB]
theorem str_cat (s : ByteArray) (l : List UInt8) : (⟨(s.data.toList ++ l).toArray⟩ : ByteArray) = s ++ ⟨l.toArray⟩ := by
  rw [← ByteArray.mk_append_mk]
theorem run_add_list {P : Program} (w : World) (s : ByteArray) (l : List UInt8) (h : s.size + l.length ≤ 9223372036854775807) :
    (Op.stringOp .add s ⟨l.toArray⟩).run P w = .ok (.string (s ++ ⟨l.toArray⟩)) w := by
  refine run_string_add_sum _ _ _ ?_
  rw [ByteArray.size_mk', List.size_toArray]
  exact h
theorem byte_of (n d : Nat) : ((n : Int) / 2 ^ (8 * d)) % 256 = ((UInt8.ofNat (n / 2 ^ (8 * d))).toNat : Int) := by
  simp

set_option maxHeartbeats 400000 in
theorem put_ok (s : ByteArray) (n : Nat) (k : Nat) (hs : s.size ≤ 1048576) (hn : n < 2 ^ (8 * k)) (hk : 1 ≤ k) (hk8 : k ≤ 8) (w : World) :
    Calls Try.prog 64 #[.string s, .int .u64 n, .int .i64 k] w fun e w' => e = .returned (.tuple #[.string ⟨(s.data.toList ++ beB n k 0).toArray⟩, .int .i64 0]) ∧ Below w.heap.size w w' := by
  have kc := fun (w : World) => Lib.run_convert_string_bytes (P := Try.prog) w 9 93 5 s Try.underlying9 Try.underlying93 Try.underlying5
  have hfit : (((n : Int) / 2 ^ (8 * k)) != 0) = false := by
    have : n / 2 ^ (8 * k) = 0 := Nat.div_eq_of_lt hn
    have h2 : ((n / 2 ^ (8 * k) : Nat) : Int) = 0 := by rw [this]; rfl
    push_cast at h2
    simp [h2]
  have hsl : s.data.toList.length = s.size := by rw [Array.length_toList]; rfl
  go_enter Try.func64, Try.ntmps64
  go_wp2_with (go_at_call 77; refine (sized_yes _ (by omega) _).mono ?_; rintro e w' ⟨rfl, rfl⟩)
  clear hfit
  go_loopw [8, 9] (fun b i wr => ∃ m : Int, -1 ≤ m ∧ m < k ∧ i = .int .i64 m ∧ OwnB wr w.heap.size 5 b (s.data.toList ++ beB n k (m + 1).toNat) ∧ Below w.heap.size w wr)
    (fun _ i _ => (intOf i + 1).toNat)
  case atStart =>
    refine ⟨k - 1, by omega, by omega, rfl, ?_, below_conv _ _ _⟩
    rw [show ((k : Int) - 1 + 1).toNat = k from by omega]
    simp only [beB, Nat.sub_self, List.range_zero, List.map_nil, List.append_nil]
    exact OwnB.conv _ _ _ _ (Nat.le_refl _) (by simp only [maxLen]; omega)
  case round =>
    obtain ⟨m, hm1, hm2, rfl, hown, hbel⟩ := hrel
    by_cases h0 : 0 ≤ m
    · obtain ⟨d, rfl⟩ := Int.eq_ofNat_of_zero_le h0
      have hsn := Lib.hid (beB_snoc n k d (by omega))
      have hlen := beB_length n k (d + 1)
      have hd : decide (0 ≤ (d : Int)) = true := by simp
      rw [show ((d : Int) + 1).toNat = d + 1 from by omega] at hown
      have hc1 : (s.data.toList ++ beB n k (d + 1)).length + 1 ≤ 140737488355328 := by rw [List.length_append, hlen, hsl]; omega
      have HC1 := Lib.hid hc1
      clear hlen hsl hc1
      have hge := hbel.size
      go_wp2_with (at_builtin; refine wpList_append_byte _ rfl (.tmp 28) (.tmp 34) 93 rfl _ 5 Try.underlying93 byteInfo _ _ rfl hown _ _ (byte_of n d) rfl HC1.out hge ?_; intro v' w1 hown1 hbel1)
      go_roundw
      case rel =>
        refine ⟨(d : Int) - 1, by omega, by omega, by go_num, ?_, hbel.trans hbel1⟩
        rw [show ((d : Int) - 1 + 1).toNat = d from by omega, hsn.out, ← List.append_assoc]
        exact hown1
      case measure => simp [intOf]
    · have hd : decide (0 ≤ m) = false := by simpa using h0
      obtain rfl : m = -1 := by omega
      have hc := run_string_B (P := Try.prog) wr 93 9 5 Try.underlying93 Try.underlying5 Try.underlying9 _ _ _ hown
      go_wp2
      go_ret2
      exact ⟨rfl, hbel⟩
def beN (l : List UInt8) : Nat := l.foldl (fun n b => n * 256 + b.toNat) 0
theorem beN_snoc (l : List UInt8) (b : UInt8) : beN (l ++ [b]) = beN l * 256 + b.toNat := by simp [beN]
theorem beN_lt (l : List UInt8) : beN l < 2 ^ (8 * l.length) := by
  have h : ∀ (m : Nat) (l : List UInt8), l.length = m → beN l < 2 ^ (8 * m) := by
    intro m
    induction m with
    | zero => intro l h; simp [List.eq_nil_of_length_eq_zero h, beN]
    | succ m ih =>
      intro l h
      have hne : l ≠ [] := by intro e; simp [e] at h
      obtain ⟨r, b, rfl⟩ : ∃ r b, l = r ++ [b] := ⟨l.dropLast, l.getLast hne, (List.dropLast_concat_getLast hne).symm⟩
      have := ih r (by simpa using h)
      rw [beN_snoc, Nat.mul_add, Nat.pow_add]
      have := b.toNat_lt
      omega
  exact h _ l rfl
set_option maxHeartbeats 400000 in
theorem put_bad (s : ByteArray) (n : Nat) (k : Int) (hk : ¬ (1 ≤ k ∧ k ≤ 8)) (w : World) :
    Calls Try.prog 64 #[.string s, .int .u64 n, .int .i64 k] w fun e w' => e = .returned (.tuple #[.string ⟨#[]⟩, .int .i64 1]) ∧ w = w' := by
  go_enter Try.func64, Try.ntmps64
  go_wp2_with (go_at_call 77; refine (sized_no _ hk _).mono ?_; rintro e w' ⟨rfl, rfl⟩)
  go_ret2
  exact ⟨rfl, rfl⟩
set_option maxHeartbeats 400000 in
theorem put_great (s : ByteArray) (n k : Nat) (hk : 1 ≤ k) (hk8 : k ≤ 8) (hn : ¬ n < 2 ^ (8 * k)) (w : World) :
    Calls Try.prog 64 #[.string s, .int .u64 n, .int .i64 k] w fun e w' => e = .returned (.tuple #[.string ⟨#[]⟩, .int .i64 1]) ∧ w = w' := by
  have hfit : (((n : Int) / 2 ^ (8 * k)) != 0) = true := by
    have h1 : 0 < n / 2 ^ (8 * k) := Nat.div_pos (by omega) (Nat.pow_pos (by omega))
    have h2 : 0 < ((n / 2 ^ (8 * k) : Nat) : Int) := by omega
    push_cast at h2
    simp
    omega
  go_enter Try.func64, Try.ntmps64
  go_wp2_with (go_at_call 77; refine (sized_yes _ (by omega) _).mono ?_; rintro e w' ⟨rfl, rfl⟩)
  go_ret2
  exact ⟨rfl, rfl⟩
theorem take_bad (s : ByteArray) (at_ k : Int) (hk : ¬ (1 ≤ k ∧ k ≤ 8)) (w : World) :
    Calls Try.prog 62 #[.string s, .int .i64 at_, .int .i64 k] w fun e w' => e = .returned (.tuple #[.int .u64 0, .int .i64 1]) ∧ w = w' := by
  go_enter Try.func62, Try.ntmps62
  go_wp2_with (go_at_call 77; refine (sized_no _ hk _).mono ?_; rintro e w' ⟨rfl, rfl⟩)
  go_ret2
  exact ⟨rfl, rfl⟩
theorem take_neg (s : ByteArray) (at_ k : Int) (hk : 1 ≤ k ∧ k ≤ 8) (h : at_ < 0) (w : World) :
    Calls Try.prog 62 #[.string s, .int .i64 at_, .int .i64 k] w fun e w' => e = .returned (.tuple #[.int .u64 0, .int .i64 1]) ∧ w = w' := by
  have hd : decide (at_ < 0) = true := by simpa using h
  go_enter Try.func62, Try.ntmps62
  go_wp2_with (go_at_call 77; refine (sized_yes _ hk _).mono ?_; rintro e w' ⟨rfl, rfl⟩)
  go_ret2
  exact ⟨rfl, rfl⟩
theorem take_short (s : ByteArray) (hs : s.size ≤ 1048576) (at_ k : Int) (hk : 1 ≤ k ∧ k ≤ 8) (h : 0 ≤ at_) (h9 : at_ ≤ 9223372036854775807) (h2 : (s.size : Int) < at_ + k) (w : World) :
    Calls Try.prog 62 #[.string s, .int .i64 at_, .int .i64 k] w fun e w' => e = .returned (.tuple #[.int .u64 0, .int .i64 3]) ∧ w = w' := by
  have hd : decide (at_ < 0) = false := by simpa using h
  have hd2 : decide ((s.size : Int) - at_ < k) = true := by simp; omega
  go_enter Try.func62, Try.ntmps62
  go_wp2_with (go_at_call 77; refine (sized_yes _ hk _).mono ?_; rintro e w' ⟨rfl, rfl⟩)
  go_ret2
  exact ⟨rfl, rfl⟩

theorem shl_or (X : Nat) (b : UInt8) (h : X < 2 ^ 56) : bits .or .u64 (IntKind.u64.wrap ((X : Int) * 256)) (IntKind.u64.wrap (b.toNat : Int)) = ((X * 256 + b.toNat : Nat) : Int) := by
  have hb := b.toNat_lt
  have e1 : IntKind.u64.wrap ((X : Int) * 256) = ((X * 256 : Nat) : Int) := by rw [IntKind.wrap_u64]; omega
  have e2 : IntKind.u64.wrap (b.toNat : Int) = (b.toNat : Int) := by rw [IntKind.wrap_u64]; omega
  rw [e1, e2, bits_or_u64_nat _ _ (by omega) (by omega)]
  have := Nat.shiftLeft_add_eq_or_of_lt (b := b.toNat) (i := 8) (by omega) X
  rw [Nat.shiftLeft_eq] at this
  rw [show X * 256 = X * 2 ^ 8 from rfl, ← this]
theorem mul_add_byte (X : Nat) (b : UInt8) (h : X < 2 ^ 56) : IntKind.u64.wrap (IntKind.u64.wrap ((X : Int) * 256) + IntKind.u64.wrap (b.toNat : Int)) = ((X * 256 + b.toNat : Nat) : Int) := by
  have hb := b.toNat_lt
  simp only [IntKind.wrap_u64]
  omega
theorem drop_take_snoc (s : ByteArray) (a j : Nat) (h : a + j < s.size) : (s.data.toList.drop a).take (j + 1) = (s.data.toList.drop a).take j ++ [s[a + j]] := by
  rw [List.take_succ_eq_append_getElem (by simpa using by have : s.data.size = s.size := rfl; omega)]
  simp
  rfl
theorem beN_bound (l : List UInt8) (j : Nat) (h : j < 8) : beN (l.take j) < 2 ^ 56 :=
  Nat.lt_of_lt_of_le (beN_lt _) (Nat.pow_le_pow_right (by omega) (by have := List.length_take_le j l; omega))
set_option maxHeartbeats 400000 in
theorem take_ok (s : ByteArray) (hs : s.size ≤ 1048576) (a k : Nat) (hk : 1 ≤ k) (hk8 : k ≤ 8) (h2 : a + k ≤ s.size) (w : World) :
    Calls Try.prog 62 #[.string s, .int .i64 a, .int .i64 k] w fun e w' => e = .returned (.tuple #[.int .u64 (beN ((s.data.toList.drop a).take k)), .int .i64 0]) ∧ w = w' := by
  have hd : decide ((a : Int) < 0) = false := by simp
  have hd2 : decide ((s.size : Int) - a < k) = false := by simp; omega
  go_enter Try.func62, Try.ntmps62
  go_wp2_with (go_at_call 77; refine (sized_yes _ (by omega) _).mono ?_; rintro e w' ⟨rfl, rfl⟩)
  clear hd hd2
  go_loop [8, 24] (fun n i => ∃ j : Nat, j ≤ k ∧ i = .int .i64 j ∧ n = .int .u64 (beN ((s.data.toList.drop a).take j))) (fun _ i => k - (intOf i).toNat)
  case atStart => exact ⟨0, by omega, rfl, rfl⟩
  case round =>
    obtain ⟨j, hj, rfl, rfl⟩ := hrel
    by_cases h : j < k
    · have hb := Lib.hid (shl_or _ s[a + j] (beN_bound (s.data.toList.drop a) j (by omega)))
      have hsn := Lib.hid (drop_take_snoc s a j (by omega))
      go_wp2
      go_round
      case rel => exact ⟨j + 1, by omega, by go_num, by rw [hb.out, hsn.out, beN_snoc]⟩
      case measure => simp [intOf]; omega
    · obtain rfl : k = j := by omega
      go_wp2
      go_ret2
      exact ⟨rfl, rfl⟩
theorem div_step (n t X : Nat) (h : X = n / 2 ^ (8 * t)) (hn : n < 2 ^ 64) : IntKind.u64.wrap ((X : Int) / 256) = ((X / 256 : Nat) : Int) ∧ X / 256 = n / 2 ^ (8 * (t + 1)) := by
  constructor
  · have : X ≤ n := by rw [h]; exact Nat.div_le_self _ _
    rw [IntKind.wrap_u64]
    omega
  · rw [h, Nat.mul_add, Nat.pow_add, ← Nat.div_div_eq_div_mul]
theorem byte_mod2 (X : Nat) : ((X : Int) % 256) = ((UInt8.ofNat X).toNat : Int) := by simp
theorem beN_beB (n k j : Nat) (hj : j ≤ k) (hn : n < 2 ^ (8 * k)) : beN (beB n k j) = n / 2 ^ (8 * j) := by
  obtain ⟨d, hd⟩ : ∃ d, k - j = d := ⟨_, rfl⟩
  induction d generalizing j with
  | zero =>
    obtain rfl : j = k := by omega
    rw [Nat.div_eq_of_lt hn]
    simp [beB, beN]
  | succ d ih =>
    rw [beB_snoc n k j (by omega), beN_snoc, ih (j + 1) (by omega) (by omega), Nat.mul_add, Nat.pow_add, ← Nat.div_div_eq_div_mul]
    have : (UInt8.ofNat (n / 2 ^ (8 * j))).toNat = n / 2 ^ (8 * j) % 256 := by simp
    rw [this]
    omega

end Go.Proofs.Ytjgmlpfallakmaa
end
section
namespace Go.Proofs.Ytjgmlpfallakmaa
namespace Crc

def step (r : Nat) : Nat := if r % 2 = 1 then (r / 2) ^^^ 3988292384 else r / 2
def steps : Nat → Nat → Nat
  | 0, r => r
  | k + 1, r => steps k (step r)
def byte (r : Nat) (b : UInt8) : Nat := steps 8 (r ^^^ b.toNat)
/-- the register behind a text -/
def reg (r : Nat) (l : List UInt8) : Nat := l.foldl byte r
/-- the sum of a text that goes on from a sum -/
def on (sum : Nat) (l : List UInt8) : Nat := 4294967295 - reg (4294967295 - sum) l

theorem half_xor (x y : Nat) : (x ^^^ y) / 2 = x / 2 ^^^ y / 2 := by
  have := Nat.shiftRight_xor_distrib (a := x) (b := y) (i := 1)
  simpa [Nat.shiftRight_eq_div_pow] using this
theorem odd_xor (x y : Nat) : (x ^^^ y) % 2 = (x % 2 + y % 2) % 2 := by
  have h := Nat.testBit_xor x y 0
  simp only [Nat.testBit_zero] at h
  rcases Nat.mod_two_eq_zero_or_one x with hx | hx <;> rcases Nat.mod_two_eq_zero_or_one y with hy | hy <;> rcases Nat.mod_two_eq_zero_or_one (x ^^^ y) with hz | hz <;> simp [hx, hy, hz] at h ⊢
theorem step_xor (x y : Nat) : step (x ^^^ y) = step x ^^^ step y := by
  unfold step
  rw [odd_xor, half_xor]
  have e1 : ∀ a b c : Nat, a ^^^ b ^^^ c = a ^^^ c ^^^ b := fun a b c => by rw [Nat.xor_assoc, Nat.xor_comm b c, ← Nat.xor_assoc]
  have e2 : ∀ a b c : Nat, a ^^^ c ^^^ (b ^^^ c) = a ^^^ b := fun a b c => by
    rw [Nat.xor_comm b c, ← Nat.xor_assoc, Nat.xor_assoc a c c, Nat.xor_self, Nat.xor_zero]
  rcases Nat.mod_two_eq_zero_or_one x with hx | hx <;> rcases Nat.mod_two_eq_zero_or_one y with hy | hy <;> simp only [hx, hy]
  · rfl
  · simp [Nat.xor_assoc]
  · simpa using e1 (x / 2) (y / 2) 3988292384
  · simpa using (e2 (x / 2) (y / 2) 3988292384).symm
theorem step_lt (r : Nat) (h : r < 2 ^ 32) : step r < 2 ^ 32 := by
  unfold step
  split
  · exact Nat.xor_lt_two_pow (by omega) (by omega)
  · omega
theorem step_zero (r : Nat) (h : r < 2 ^ 32) (h0 : step r = 0) : r = 0 := by
  unfold step at h0
  split at h0
  · exfalso
    have ht : (r / 2 ^^^ 3988292384).testBit 31 = false := by rw [h0]; simp
    rw [Nat.testBit_xor] at ht
    have h1 : (r / 2).testBit 31 = false := Nat.testBit_lt_two_pow (by omega)
    have h2 : (3988292384 : Nat).testBit 31 = true := by decide
    rw [h1, h2] at ht
    simp at ht
  · omega
theorem steps_xor (k x y : Nat) : steps k (x ^^^ y) = steps k x ^^^ steps k y := by
  induction k generalizing x y with
  | zero => rfl
  | succ k ih => simp only [steps, step_xor, ih]
theorem steps_lt (k r : Nat) (h : r < 2 ^ 32) : steps k r < 2 ^ 32 := by
  induction k generalizing r with
  | zero => exact h
  | succ k ih => exact ih _ (step_lt r h)
theorem steps_zero (k r : Nat) (h : r < 2 ^ 32) (h0 : steps k r = 0) : r = 0 := by
  induction k generalizing r with
  | zero => exact h0
  | succ k ih => exact step_zero r h (ih _ (step_lt r h) h0)
theorem steps_add (k m r : Nat) : steps (k + m) r = steps m (steps k r) := by
  induction k generalizing r with
  | zero => rw [Nat.zero_add]; rfl
  | succ k ih => rw [show k + 1 + m = (k + m) + 1 from by omega]; exact ih _
theorem xor_zero_iff {x y : Nat} (h : x ^^^ y = 0) : x = y := by
  have : x ^^^ (x ^^^ y) = x ^^^ 0 := by rw [h]
  rw [← Nat.xor_assoc, Nat.xor_self, Nat.zero_xor, Nat.xor_zero] at this
  exact this.symm
theorem steps_inj (k x y : Nat) (hx : x < 2 ^ 32) (hy : y < 2 ^ 32) (h : steps k x = steps k y) : x = y := by
  apply xor_zero_iff
  apply steps_zero k _ (Nat.xor_lt_two_pow hx hy)
  rw [steps_xor, h, Nat.xor_self]
/-- a register whose lowest bits are none is only divided -/
theorem steps_shift (k b : Nat) : steps k (b * 2 ^ k) = b := by
  induction k generalizing b with
  | zero => simp [steps]
  | succ k ih =>
    have e : step (b * 2 ^ (k + 1)) = b * 2 ^ k := by
      unfold step
      rw [Nat.pow_succ, ← Nat.mul_assoc]
      rw [if_neg (by omega)]
      omega
    rw [steps, e, ih]
theorem byte_lt (r : Nat) (b : UInt8) (h : r < 2 ^ 32) : byte r b < 2 ^ 32 :=
  steps_lt 8 _ (Nat.xor_lt_two_pow h (Nat.lt_trans b.toNat_lt (by decide)))
theorem reg_lt (l : List UInt8) (r : Nat) (h : r < 2 ^ 32) : reg r l < 2 ^ 32 := by
  induction l generalizing r with
  | nil => exact h
  | cons b l ih => exact ih _ (byte_lt r b h)
theorem byte_inj (x y : Nat) (b : UInt8) (hx : x < 2 ^ 32) (hy : y < 2 ^ 32) (h : byte x b = byte y b) : x = y := by
  have hb : b.toNat < 2 ^ 32 := Nat.lt_trans b.toNat_lt (by decide)
  have := steps_inj 8 _ _ (Nat.xor_lt_two_pow hx hb) (Nat.xor_lt_two_pow hy hb) h
  have e : ∀ z : Nat, z ^^^ b.toNat ^^^ b.toNat = z := fun z => by rw [Nat.xor_assoc, Nat.xor_self, Nat.xor_zero]
  rw [← e x, this, e y]
theorem reg_inj (l : List UInt8) (x y : Nat) (hx : x < 2 ^ 32) (hy : y < 2 ^ 32) (h : reg x l = reg y l) : x = y := by
  induction l generalizing x y with
  | nil => exact h
  | cons b l ih => exact byte_inj x y b hx hy (ih _ _ (byte_lt x b hx) (byte_lt y b hy) h)
theorem reg_append (l k : List UInt8) (r : Nat) : reg r (l ++ k) = reg (reg r l) k := by simp [reg]
/-- two bytes and more at once -/
theorem byte_then (k r x : Nat) (b : UInt8) : steps k (byte r b ^^^ x) = steps (8 + k) (r ^^^ (b.toNat ^^^ x * 256)) := by
  rw [steps_add]
  have : steps 8 (r ^^^ (b.toNat ^^^ x * 256)) = byte r b ^^^ x := by
    rw [← Nat.xor_assoc, steps_xor 8 (r ^^^ b.toNat) (x * 256)]
    rw [show x * 256 = x * 2 ^ 8 from rfl, steps_shift]
    rfl
  rw [this]
/-- four bytes as one number, the first the lowest -/
def four (a b c d : UInt8) : Nat := a.toNat ^^^ (b.toNat ^^^ (c.toNat ^^^ d.toNat * 256) * 256) * 256
theorem reg_four (r : Nat) (a b c d : UInt8) : reg r [a, b, c, d] = steps 32 (r ^^^ four a b c d) := by
  show steps 8 (byte (byte (byte r a) b) c ^^^ d.toNat) = _
  rw [byte_then 8, byte_then 16, byte_then 24]
  rfl
theorem xor_mul (x y : Nat) : (x ^^^ y) * 256 = x * 256 ^^^ y * 256 := by
  have := Nat.shiftLeft_xor_distrib (a := x) (b := y) (i := 8)
  simpa [Nat.shiftLeft_eq] using this
theorem four_xor (a b c d a' b' c' d' : UInt8) : four (a ^^^ a') (b ^^^ b') (c ^^^ c') (d ^^^ d') = four a b c d ^^^ four a' b' c' d' := by
  unfold four
  simp only [UInt8.toNat_xor, xor_mul]
  ac_rfl
theorem four_lt (a b c d : UInt8) : four a b c d < 2 ^ 32 := by
  have h1 := a.toNat_lt
  have h2 := b.toNat_lt
  have h3 := c.toNat_lt
  have h4 := d.toNat_lt
  unfold four
  have k1 : c.toNat ^^^ d.toNat * 256 < 2 ^ 16 := Nat.xor_lt_two_pow (by omega) (by omega)
  have k2 : b.toNat ^^^ (c.toNat ^^^ d.toNat * 256) * 256 < 2 ^ 24 := Nat.xor_lt_two_pow (by omega) (by omega)
  exact Nat.xor_lt_two_pow (by omega) (by omega)
theorem low_xor (x : Nat) (a : UInt8) : (a.toNat ^^^ x * 256) % 256 = a.toNat ∧ (a.toNat ^^^ x * 256) / 256 = x := by
  have h1 := a.toNat_lt
  have e : a.toNat ^^^ x * 256 = x * 256 + a.toNat := by
    rw [Nat.xor_comm]
    have h := Nat.shiftLeft_add_eq_or_of_lt (b := a.toNat) (i := 8) (by omega) x
    have h2 : x <<< 8 ||| a.toNat = x <<< 8 ^^^ a.toNat := by
      apply Nat.eq_of_testBit_eq
      intro i
      rw [Nat.testBit_or, Nat.testBit_xor, Nat.testBit_shiftLeft]
      by_cases hi : 8 ≤ i
      · have : a.toNat.testBit i = false := Nat.testBit_lt_two_pow (Nat.lt_of_lt_of_le h1 (Nat.pow_le_pow_right (by omega) hi))
        simp [this]
      · simp [hi]
    rw [Nat.shiftLeft_eq] at h h2
    rw [show x * 256 = x * 2 ^ 8 from rfl, ← h2, ← h]
  rw [e]
  omega
theorem four_zero (a b c d : UInt8) (h : four a b c d = 0) : a = 0 ∧ b = 0 ∧ c = 0 ∧ d = 0 := by
  unfold four at h
  obtain ⟨l1, l2⟩ := low_xor (b.toNat ^^^ (c.toNat ^^^ d.toNat * 256) * 256) a
  obtain ⟨m1, m2⟩ := low_xor (c.toNat ^^^ d.toNat * 256) b
  obtain ⟨n1, n2⟩ := low_xor d.toNat c
  rw [h] at l1 l2
  have e2 : b.toNat ^^^ (c.toNat ^^^ d.toNat * 256) * 256 = 0 := by omega
  rw [e2] at m1 m2
  have e3 : c.toNat ^^^ d.toNat * 256 = 0 := by omega
  rw [e3] at n1 n2
  have z : ∀ x : UInt8, x.toNat = 0 → x = 0 := fun x hx => UInt8.toNat_inj.1 hx
  exact ⟨z a (by omega), z b (by omega), z c (by omega), z d (by omega)⟩
/-- P2.2: of two texts that differ in four neighbouring bytes the sums differ -/
theorem tells (r : Nat) (hr : r < 2 ^ 32) (P S : List UInt8) (a b c d a' b' c' d' : UInt8) (h : reg r (P ++ [a ^^^ a', b ^^^ b', c ^^^ c', d ^^^ d'] ++ S) = reg r (P ++ [a, b, c, d] ++ S)) :
    a' = 0 ∧ b' = 0 ∧ c' = 0 ∧ d' = 0 := by
  simp only [reg_append] at h
  have hP := reg_lt P r hr
  have h2 := reg_inj S _ _ (reg_lt _ _ hP) (reg_lt _ _ hP) h
  rw [reg_four, reg_four] at h2
  have h3 := steps_inj 32 _ _ (Nat.xor_lt_two_pow hP (four_lt _ _ _ _)) (Nat.xor_lt_two_pow hP (four_lt _ _ _ _)) h2
  apply four_zero
  rw [four_xor, ← Nat.xor_assoc] at h3
  apply xor_zero_iff (y := 0)
  rw [Nat.xor_zero]
  have h4 : reg r P ^^^ four a b c d ^^^ (reg r P ^^^ four a b c d ^^^ four a' b' c' d') = 0 := by rw [h3, Nat.xor_self]
  rwa [← Nat.xor_assoc, Nat.xor_self, Nat.zero_xor] at h4
/-- P2.2: the sum goes on -/
theorem on_append (s : Nat) (hs : s ≤ 4294967295) (l k : List UInt8) : on (on s l) k = on s (l ++ k) := by
  unfold on
  have h := reg_lt l (4294967295 - s) (by omega)
  rw [reg_append, show 4294967295 - (4294967295 - reg (4294967295 - s) l) = reg (4294967295 - s) l from by omega]
end Crc
end Go.Proofs.Ytjgmlpfallakmaa
end
section
namespace Go.Proofs.Ytjgmlpfallakmaa
namespace Page
/-- a page -/
structure PG where
  kind : Nat
  no : Nat
  txn : Nat
  body : List UInt8
def right (p : PG) : Bool := decide (1 ≤ p.kind) && decide (p.kind ≤ 4) && decide (1 ≤ p.no) && decide (p.no ≤ 511) && decide (p.txn ≤ 1099511627776) && decide (p.body.length ≤ 488)
def noughts (n : Nat) : List UInt8 := List.replicate n 0
/-- a page's bytes with four bytes as sum -/
def withSum (p : PG) (sum : List UInt8) : List UInt8 :=
  [82, 66] ++ (beB p.kind 1 0 ++ ([0] ++ (beB p.body.length 2 0 ++ (beB p.no 4 0 ++ (beB p.txn 8 0 ++ (sum ++ ([0, 0] ++ (p.body ++ noughts (488 - p.body.length)))))))))
def sumOf (p : PG) : Nat := Crc.on 0 (withSum p (noughts 4))
def packed (p : PG) : List UInt8 := withSum p (beB (sumOf p) 4 0)
/-- the number that stands in so many bytes at a place -/
def at_ (l : List UInt8) (a k : Nat) : Nat := beN ((l.drop a).take k)
def fields (l : List UInt8) : PG := ⟨at_ l 2 1, at_ l 6 4, at_ l 10 8, (l.drop 24).take (at_ l 4 2)⟩
/-- what is read -/
def read (l : List UInt8) : Option PG :=
  if l.length = 512 ∧ at_ l 4 2 ≤ 488 ∧ at_ l 10 8 ≤ 1099511627776 ∧ right (fields l) = true ∧ packed (fields l) = l then some (fields l) else none
theorem on_lt (s : Nat) (l : List UInt8) : Crc.on s l < 2 ^ 32 := by unfold Crc.on; omega
theorem withSum_length (p : PG) (s : List UInt8) (hs : s.length = 4) (hb : p.body.length ≤ 488) : (withSum p s).length = 512 := by
  unfold withSum
  simp only [List.length_append, beB_length, List.length_cons, List.length_nil, hs, noughts, List.length_replicate]
  omega
theorem packed_length (p : PG) (hb : p.body.length ≤ 488) : (packed p).length = 512 := withSum_length p _ (beB_length _ _ _) hb
theorem drop_app {α : Type} (a b : List α) (n k : Nat) (h : a.length = k) (hn : k ≤ n) : (a ++ b).drop n = b.drop (n - k) := by
  subst h
  rw [List.drop_append, List.drop_eq_nil_of_le hn, List.nil_append]
theorem take_app {α : Type} (a b : List α) (k : Nat) (h : a.length = k) : (a ++ b).take k = a := by
  subst h
  simp
theorem beN_whole (n k : Nat) (hn : n < 2 ^ (8 * k)) : beN (beB n k 0) = n := by
  rw [beN_beB n k 0 (by omega) hn]
  simp
theorem withSum_fields (p : PG) (s : List UInt8) (hs : s.length = 4) (h : right p = true) : at_ (withSum p s) 4 2 = p.body.length ∧ at_ (withSum p s) 10 8 = p.txn ∧ fields (withSum p s) = p := by
  unfold right at h
  simp only [Bool.and_eq_true, decide_eq_true_eq] at h
  obtain ⟨⟨⟨⟨⟨h1, h2⟩, h3⟩, h4⟩, h5⟩, h6⟩ := h
  have k1 := beN_whole p.kind 1 (by omega)
  have k2 := beN_whole p.body.length 2 (by omega)
  have k3 := beN_whole p.no 4 (by omega)
  have k4 := beN_whole p.txn 8 (by omega)
  have l1 := beB_length p.kind 1 0
  have l2 := beB_length p.body.length 2 0
  have l3 := beB_length p.no 4 0
  have l4 := beB_length p.txn 8 0
  have e2 : at_ (withSum p s) 4 2 = p.body.length := by
    unfold at_ withSum
    rw [drop_app _ _ 4 2 rfl (by omega), drop_app _ _ 2 1 l1 (by omega), drop_app _ _ 1 1 rfl (by omega), Nat.sub_self, List.drop_zero, take_app _ _ 2 l2, k2]
  have e1 : at_ (withSum p s) 2 1 = p.kind := by
    unfold at_ withSum
    rw [drop_app _ _ 2 2 rfl (by omega), Nat.sub_self, List.drop_zero, take_app _ _ 1 l1, k1]
  have e3 : at_ (withSum p s) 6 4 = p.no := by
    unfold at_ withSum
    rw [drop_app _ _ 6 2 rfl (by omega), drop_app _ _ 4 1 l1 (by omega), drop_app _ _ 3 1 rfl (by omega), drop_app _ _ 2 2 l2 (by omega), Nat.sub_self, List.drop_zero, take_app _ _ 4 l3, k3]
  have e4 : at_ (withSum p s) 10 8 = p.txn := by
    unfold at_ withSum
    rw [drop_app _ _ 10 2 rfl (by omega), drop_app _ _ 8 1 l1 (by omega), drop_app _ _ 7 1 rfl (by omega), drop_app _ _ 6 2 l2 (by omega), drop_app _ _ 4 4 l3 (by omega), Nat.sub_self, List.drop_zero, take_app _ _ 8 l4, k4]
  have e5 : (withSum p s).drop 24 = p.body ++ noughts (488 - p.body.length) := by
    unfold withSum
    rw [drop_app _ _ 24 2 rfl (by omega), drop_app _ _ 22 1 l1 (by omega), drop_app _ _ 21 1 rfl (by omega), drop_app _ _ 20 2 l2 (by omega), drop_app _ _ 18 4 l3 (by omega), drop_app _ _ 14 8 l4 (by omega), drop_app _ _ 6 4 hs (by omega), drop_app _ _ 2 2 rfl (by omega), Nat.sub_self, List.drop_zero]
  refine ⟨e2, e4, ?_⟩
  unfold fields
  rw [e1, e2, e3, e4, e5, take_app _ _ _ rfl]
/-- what is packed is read as it was -/
theorem read_packed (p : PG) (h : right p = true) : read (packed p) = some p := by
  obtain ⟨e1, e2, e3⟩ := withSum_fields p (beB (sumOf p) 4 0) (beB_length _ _ _) h
  have hb : p.body.length ≤ 488 ∧ p.txn ≤ 1099511627776 := by
    unfold right at h
    simp only [Bool.and_eq_true, decide_eq_true_eq] at h
    omega
  unfold read
  show (if _ ∧ at_ (packed p) 4 2 ≤ 488 ∧ at_ (packed p) 10 8 ≤ 1099511627776 ∧ right (fields (packed p)) = true ∧ packed (fields (packed p)) = packed p then some (fields (packed p)) else none) = _
  rw [show fields (packed p) = p from e3, if_pos ⟨packed_length p hb.1, by rw [show at_ (packed p) 4 2 = _ from e1]; exact hb.1, by rw [show at_ (packed p) 10 8 = _ from e2]; exact hb.2, h, rfl⟩]
/-- what is read is packed so -/
theorem of_read (l : List UInt8) (p : PG) (h : read l = some p) : right p = true ∧ packed p = l := by
  unfold read at h
  split at h
  · rename_i h'
    injection h with h
    subst h
    exact ⟨h'.2.2.2.1, h'.2.2.2.2⟩
  · cases h
end Page
end Go.Proofs.Ytjgmlpfallakmaa
end
section
namespace Go.Proofs.Ytjgmlpfallakmaa
namespace Crc
def turn (l : List UInt8) (p y : Nat) : Nat → List UInt8
  | 0 => l
  | k + 1 => (turn l p y k).set (p + k) ((turn l p y k).getD (p + k) 0 ^^^ UInt8.ofNat (y / 2 ^ (8 * k)))
theorem turn_length (l : List UInt8) (p y k : Nat) : (turn l p y k).length = l.length := by
  induction k with
  | zero => rfl
  | succ k ih => rw [turn, List.length_set, ih]
theorem turn_four (P S : List UInt8) (a b c d : UInt8) (y : Nat) : turn (P ++ [a, b, c, d] ++ S) P.length y 4 =
    P ++ [a ^^^ UInt8.ofNat (y / 2 ^ (8 * 0)), b ^^^ UInt8.ofNat (y / 2 ^ (8 * 1)), c ^^^ UInt8.ofNat (y / 2 ^ (8 * 2)), d ^^^ UInt8.ofNat (y / 2 ^ (8 * 3))] ++ S := by
  simp [turn, List.getD_eq_getElem?_getD]
theorem parted (l : List UInt8) (p : Nat) (h : p + 4 ≤ l.length) : ∃ P S a b c d, l = P ++ [a, b, c, d] ++ S ∧ p = P.length := by
  refine ⟨l.take p, l.drop (p + 4), l[p], l[p + 1], l[p + 2], l[p + 3], ?_, by rw [List.length_take]; omega⟩
  have e1 : l.drop p = l[p] :: l[p + 1] :: l[p + 2] :: l[p + 3] :: l.drop (p + 4) := by
    rw [List.drop_eq_getElem_cons (by omega), List.drop_eq_getElem_cons (by omega : p + 1 < l.length), List.drop_eq_getElem_cons (by omega : p + 1 + 1 < l.length), List.drop_eq_getElem_cons (by omega : p + 1 + 1 + 1 < l.length)]
  conv => lhs; rw [← List.take_append_drop p l, e1]
  simp
theorem zero_of (y : Nat) (h : y < 2 ^ 32) (h0 : UInt8.ofNat (y / 2 ^ (8 * 0)) = 0) (h1 : UInt8.ofNat (y / 2 ^ (8 * 1)) = 0) (h2 : UInt8.ofNat (y / 2 ^ (8 * 2)) = 0) (h3 : UInt8.ofNat (y / 2 ^ (8 * 3)) = 0) : y = 0 := by
  have t : ∀ n : Nat, UInt8.ofNat n = 0 → n % 256 = 0 := fun n hn => by
    have := congrArg UInt8.toNat hn
    simpa using this
  have := t _ h0
  have := t _ h1
  have := t _ h2
  have := t _ h3
  omega
theorem turn_zero (l : List UInt8) (p k : Nat) (hk : p + k ≤ l.length) : turn l p 0 k = l := by
  induction k with
  | zero => rfl
  | succ k ih =>
    rw [turn, ih (by omega)]
    have hk : p + k < l.length := by omega
    simp [List.getD_eq_getElem?_getD, hk]
/-- the sums agree just where nothing was turned -/
theorem turn_tells (l : List UInt8) (p y : Nat) (h : p + 4 ≤ l.length) (hy : y < 2 ^ 32) (hy0 : y ≠ 0) : on 0 (turn l p y 4) ≠ on 0 l := by
  intro he
  obtain ⟨P, S, a, b, c, d, rfl, rfl⟩ := parted l p h
  rw [turn_four] at he
  unfold on at he
  have hr := fun l => reg_lt l (4294967295 - 0) (by omega)
  have e2 : reg (4294967295 - 0) (P ++ [a ^^^ UInt8.ofNat (y / 2 ^ (8 * 0)), b ^^^ UInt8.ofNat (y / 2 ^ (8 * 1)), c ^^^ UInt8.ofNat (y / 2 ^ (8 * 2)), d ^^^ UInt8.ofNat (y / 2 ^ (8 * 3))] ++ S) = reg (4294967295 - 0) (P ++ [a, b, c, d] ++ S) := by
    have h1 := hr (P ++ [a ^^^ UInt8.ofNat (y / 2 ^ (8 * 0)), b ^^^ UInt8.ofNat (y / 2 ^ (8 * 1)), c ^^^ UInt8.ofNat (y / 2 ^ (8 * 2)), d ^^^ UInt8.ofNat (y / 2 ^ (8 * 3))] ++ S)
    have h2 := hr (P ++ [a, b, c, d] ++ S)
    omega
  obtain ⟨k0, k1, k2, k3⟩ := tells (4294967295 - 0) (by omega) P S a b c d _ _ _ _ e2
  exact hy0 (zero_of y hy k0 k1 k2 k3)
end Crc
end Go.Proofs.Ytjgmlpfallakmaa
end
section
namespace Go.Proofs.Ytjgmlpfallakmaa
namespace Page
theorem ext_getD (l k : List UInt8) (h : l.length = k.length) (he : ∀ i, i < l.length → l.getD i 0 = k.getD i 0) : l = k := by
  refine List.ext_getElem h (fun i h1 h2 => ?_)
  have := he i h1
  simpa [List.getD_eq_getElem?_getD, h1, h2] using this
/-- the k-th byte that is turned -/
def turnB (y k : Nat) : UInt8 := UInt8.ofNat (y / 2 ^ (8 * k))
theorem getD_set (l : List UInt8) (j i : Nat) (u : UInt8) (hj : j < l.length) : (l.set j u).getD i 0 = if j = i then u else l.getD i 0 := by
  simp only [List.getD_eq_getElem?_getD, List.getElem?_set]
  by_cases h : j = i
  · subst h; simp [hj]
  · simp [h]
theorem turn_getD (l : List UInt8) (p y n : Nat) (h : p + n ≤ l.length) (i : Nat) : (Crc.turn l p y n).getD i 0 = if p ≤ i ∧ i < p + n then l.getD i 0 ^^^ turnB y (i - p) else l.getD i 0 := by
  induction n with
  | zero => rw [if_neg (by omega)]; rfl
  | succ n ih =>
    have ih := ih (by omega)
    rw [Crc.turn, getD_set _ _ _ _ (by rw [Crc.turn_length]; omega)]
    by_cases hi : p + n = i
    · subst hi
      rw [if_pos rfl, if_pos (by omega), ih, if_neg (by omega), Nat.add_sub_cancel_left]
      rfl
    · rw [if_neg hi, ih]
      by_cases h2 : p ≤ i ∧ i < p + n
      · rw [if_pos h2, if_pos (by omega)]
      · rw [if_neg h2, if_neg (by omega)]
/-- the text with noughts for the sum's four bytes -/
def nulled (l : List UInt8) : List UInt8 := l.take 18 ++ (noughts 4 ++ l.drop 22)
theorem nulled_length (l : List UInt8) (h : l.length = 512) : (nulled l).length = 512 := by
  unfold nulled noughts
  simp only [List.length_append, List.length_take, List.length_replicate, List.length_drop, h]
  omega
theorem nulled_getD (l : List UInt8) (h : l.length = 512) (i : Nat) : (nulled l).getD i 0 = if 18 ≤ i ∧ i < 22 then 0 else l.getD i 0 := by
  unfold nulled noughts
  simp only [List.getD_eq_getElem?_getD, List.getElem?_append, List.getElem?_take, List.getElem?_replicate, List.getElem?_drop, List.length_take, List.length_replicate, h]
  by_cases h1 : i < 18
  · rw [if_pos (by omega), if_pos h1, if_neg (by omega)]
  · rw [if_neg (by omega)]
    by_cases h2 : i < 22
    · rw [if_pos (by omega), if_pos (by omega), if_pos (by omega)]; rfl
    · rw [if_neg (by omega), if_neg (by omega)]
      congr 2
      omega
theorem withSum_nulled (p : PG) (s : List UInt8) (hs : s.length = 4) : nulled (withSum p s) = withSum p (noughts 4) ∧ ((withSum p s).drop 18).take 4 = s := by
  have l1 := beB_length p.kind 1 0
  have l2 := beB_length p.body.length 2 0
  have l3 := beB_length p.no 4 0
  have l4 := beB_length p.txn 8 0
  obtain ⟨A, hA⟩ : ∃ A : List UInt8, A = [82, 66] ++ (beB p.kind 1 0 ++ ([0] ++ (beB p.body.length 2 0 ++ (beB p.no 4 0 ++ beB p.txn 8 0)))) := ⟨_, rfl⟩
  have hlen : A.length = 18 := by rw [hA]; simp [l1, l2, l3, l4]
  have e : ∀ t : List UInt8, withSum p t = A ++ (t ++ ([0, 0] ++ (p.body ++ noughts (488 - p.body.length)))) := fun t => by rw [hA]; unfold withSum; simp only [List.append_assoc]
  rw [e s, e (noughts 4)]
  unfold nulled
  constructor
  · rw [take_app _ _ 18 hlen, drop_app _ _ 22 18 hlen (by omega), drop_app _ _ 4 4 hs (by omega), Nat.sub_self, List.drop_zero]
  · rw [drop_app _ _ 18 18 hlen (by omega), Nat.sub_self, List.drop_zero, take_app _ _ 4 hs]
theorem packed_nulled (p : PG) : ((packed p).drop 18).take 4 = beB (Crc.on 0 (nulled (packed p))) 4 0 := by
  obtain ⟨e1, e2⟩ := withSum_nulled p (beB (sumOf p) 4 0) (beB_length _ _ _)
  unfold packed
  rw [e1, e2]
  rfl
theorem beB_inj (a b : Nat) (ha : a < 2 ^ 32) (hb : b < 2 ^ 32) (h : beB a 4 0 = beB b 4 0) : a = b := by
  have := congrArg beN h
  rwa [beN_whole a 4 ha, beN_whole b 4 hb] at this
theorem xor_self_zero (a b : UInt8) (h : a ^^^ b = a) : b = 0 := by
  have : a ^^^ (a ^^^ b) = a ^^^ a := by rw [h]
  rwa [← UInt8.xor_assoc, UInt8.xor_self, UInt8.zero_xor] at this
theorem sum_bytes (l k : List UInt8) (hl : l.length = 512) (hk : k.length = 512) (h : ∀ i, 18 ≤ i → i < 22 → l.getD i 0 = k.getD i 0) : (l.drop 18).take 4 = (k.drop 18).take 4 := by
  refine ext_getD _ _ (by simp [hl, hk]) (fun i hi => ?_)
  have hi : i < 4 := by simp [hl] at hi; omega
  have := h (18 + i) (by omega) (by omega)
  simpa [List.getD_eq_getElem?_getD, List.getElem?_take, List.getElem?_drop, hi] using this
theorem of_sum_bytes (l k : List UInt8) (h : (l.drop 18).take 4 = (k.drop 18).take 4) (i : Nat) (h1 : 18 ≤ i) (h2 : i < 22) : l.getD i 0 = k.getD i 0 := by
  have := congrArg (fun m => m.getD (i - 18) 0) h
  simp only [List.getD_eq_getElem?_getD, List.getElem?_take, List.getElem?_drop, if_pos (show i - 18 < 4 by omega), show 18 + (i - 18) = i by omega] at this
  simpa [List.getD_eq_getElem?_getD] using this
theorem page_told (p : PG) (h : right p = true) (a y : Nat) (ha : a + 4 ≤ 512) (hy : y < 2 ^ 32) (hy0 : y ≠ 0)
    (hm : (∀ k, k < 4 → turnB y k ≠ 0 → 18 ≤ a + k ∧ a + k < 22) ∨ (∀ k, k < 4 → turnB y k ≠ 0 → ¬ (18 ≤ a + k ∧ a + k < 22))) : read (Crc.turn (packed p) a y 4) = none := by
  cases hr : read (Crc.turn (packed p) a y 4) with
  | none => rfl
  | some q =>
    exfalso
    obtain ⟨_, hq⟩ := of_read _ _ hr
    have hb : p.body.length ≤ 488 := by
      unfold right at h
      simp only [Bool.and_eq_true, decide_eq_true_eq] at h
      omega
    have hl := packed_length p hb
    obtain ⟨l, hl0⟩ : ∃ l, packed p = l := ⟨_, rfl⟩
    obtain ⟨l', hl0'⟩ : ∃ l', Crc.turn l a y 4 = l' := ⟨_, rfl⟩
    have n1 := packed_nulled p
    have n2 := packed_nulled q
    rw [hl0] at n1 hl hq
    rw [hq, hl0'] at n2
    have hl' : l'.length = 512 := by rw [← hl0', Crc.turn_length]; exact hl
    have g : ∀ i, l'.getD i 0 = if a ≤ i ∧ i < a + 4 then l.getD i 0 ^^^ turnB y (i - a) else l.getD i 0 := fun i => by rw [← hl0']; exact turn_getD l a y 4 (by omega) i
    rcases hm with hm | hm
    · have hz : nulled l' = nulled l := by
        refine ext_getD _ _ (by rw [nulled_length _ hl', nulled_length _ hl]) (fun i _ => ?_)
        rw [nulled_getD _ hl', nulled_getD _ hl]
        split
        · rfl
        · rename_i hi
          rw [g i]
          split
          · rename_i hj
            have : turnB y (i - a) = 0 := by
              rcases Classical.em (turnB y (i - a) = 0) with e | e
              · exact e
              · have := hm (i - a) (by omega) e
                omega
            rw [this, UInt8.xor_zero]
          · rfl
      rw [hz, ← n1] at n2
      have hz4 : ∀ k, k < 4 → turnB y k = 0 := by
        intro k hk
        rcases Classical.em (turnB y k = 0) with e | e
        · exact e
        · exfalso
          have hk2 := hm k hk e
          have := of_sum_bytes l' l n2 (a + k) hk2.1 hk2.2
          rw [g (a + k), if_pos (by omega), Nat.add_sub_cancel_left] at this
          exact e (xor_self_zero _ _ this)
      exact hy0 (Crc.zero_of y hy (hz4 0 (by omega)) (hz4 1 (by omega)) (hz4 2 (by omega)) (hz4 3 (by omega)))
    · have hb0 : ∀ i, 18 ≤ i → i < 22 → a ≤ i → i < a + 4 → turnB y (i - a) = 0 := by
        intro i h1 h2 h3 h4
        rcases Classical.em (turnB y (i - a) = 0) with e | e
        · exact e
        · exact absurd (by omega) (hm (i - a) (by omega) e)
      have hs : (l'.drop 18).take 4 = (l.drop 18).take 4 := sum_bytes l' l hl' hl (fun i h1 h2 => by
        rw [g i]
        split
        · rename_i hj
          rw [hb0 i h1 h2 hj.1 hj.2, UInt8.xor_zero]
        · rfl)
      rw [n2, n1] at hs
      have hon := beB_inj _ _ (on_lt _ _) (on_lt _ _) hs
      have hz : nulled l' = Crc.turn (nulled l) a y 4 := by
        refine ext_getD _ _ (by rw [Crc.turn_length, nulled_length _ hl', nulled_length _ hl]) (fun i _ => ?_)
        rw [turn_getD _ a y 4 (by rw [nulled_length _ hl]; exact ha), nulled_getD _ hl', nulled_getD _ hl, g i]
        by_cases h1 : 18 ≤ i ∧ i < 22
        · rw [if_pos h1, if_pos h1]
          split
          · rename_i hj
            rw [hb0 i h1.1 h1.2 hj.1 hj.2]; rfl
          · rfl
        · rw [if_neg h1, if_neg h1]
      rw [hz] at hon
      exact Crc.turn_tells (nulled l) a y (by rw [nulled_length _ hl]; exact ha) hy hy0 hon
end Page
end Go.Proofs.Ytjgmlpfallakmaa
end
section
namespace Go.Proofs.Ytjgmlpfallakmaa
namespace Page
/-- a meta -/
structure ME where
  txn : Nat
  root : Nat
  free : Nat
  pages : Nat
  limit : Nat
def rightM (m : ME) : Bool := decide (m.txn ≤ 1099511627776) && decide (2 ≤ m.limit) && decide (m.limit ≤ 512) && decide (1 ≤ m.pages) && decide (m.pages ≤ m.limit) && decide (m.root < m.pages) && decide (m.free < m.pages)
/-- the bytes that are summed -/
def headM (m : ME) : List UInt8 := [82, 79, 76, 76, 66, 79, 79, 75] ++ (beB m.txn 8 0 ++ (beB m.root 4 0 ++ (beB m.free 4 0 ++ (beB m.pages 4 0 ++ beB m.limit 4 0))))
def packedM (m : ME) : List UInt8 := headM m ++ (beB (Crc.on 0 (headM m)) 4 0 ++ noughts 92)
def fieldsM (l : List UInt8) : ME := ⟨at_ l 8 8, at_ l 16 4, at_ l 20 4, at_ l 24 4, at_ l 28 4⟩
/-- what is read -/
def readM (l : List UInt8) : Option ME :=
  if l.length = 128 ∧ at_ l 8 8 ≤ 1099511627776 ∧ rightM (fieldsM l) = true ∧ packedM (fieldsM l) = l then some (fieldsM l) else none
theorem headM_length (m : ME) : (headM m).length = 32 := by
  unfold headM
  simp only [List.length_append, beB_length, List.length_cons, List.length_nil]
theorem packedM_length (m : ME) : (packedM m).length = 128 := by
  unfold packedM noughts
  simp only [List.length_append, headM_length, beB_length, List.length_replicate]
theorem packedM_fields (m : ME) (h : rightM m = true) : fieldsM (packedM m) = m := by
  unfold rightM at h
  simp only [Bool.and_eq_true, decide_eq_true_eq] at h
  obtain ⟨⟨⟨⟨⟨⟨h1, h2⟩, h3⟩, h4⟩, h5⟩, h6⟩, h7⟩ := h
  have k1 := beN_whole m.txn 8 (by omega)
  have k2 := beN_whole m.root 4 (by omega)
  have k3 := beN_whole m.free 4 (by omega)
  have k4 := beN_whole m.pages 4 (by omega)
  have k5 := beN_whole m.limit 4 (by omega)
  have l1 := beB_length m.txn 8 0
  have l2 := beB_length m.root 4 0
  have l3 := beB_length m.free 4 0
  have l4 := beB_length m.pages 4 0
  have l5 := beB_length m.limit 4 0
  obtain ⟨T, hT⟩ : ∃ T, packedM m = [82, 79, 76, 76, 66, 79, 79, 75] ++ (beB m.txn 8 0 ++ (beB m.root 4 0 ++ (beB m.free 4 0 ++ (beB m.pages 4 0 ++ (beB m.limit 4 0 ++ T))))) :=
    ⟨beB (Crc.on 0 (headM m)) 4 0 ++ noughts 92, by unfold packedM headM; simp only [List.append_assoc]⟩
  rw [hT]
  have e1 : at_ ([82, 79, 76, 76, 66, 79, 79, 75] ++ (beB m.txn 8 0 ++ (beB m.root 4 0 ++ (beB m.free 4 0 ++ (beB m.pages 4 0 ++ (beB m.limit 4 0 ++ T)))))) 8 8 = m.txn := by
    unfold at_
    rw [drop_app _ _ 8 8 rfl (by omega), Nat.sub_self, List.drop_zero, take_app _ _ 8 l1, k1]
  have e2 : at_ ([82, 79, 76, 76, 66, 79, 79, 75] ++ (beB m.txn 8 0 ++ (beB m.root 4 0 ++ (beB m.free 4 0 ++ (beB m.pages 4 0 ++ (beB m.limit 4 0 ++ T)))))) 16 4 = m.root := by
    unfold at_
    rw [drop_app _ _ 16 8 rfl (by omega), drop_app _ _ 8 8 l1 (by omega), Nat.sub_self, List.drop_zero, take_app _ _ 4 l2, k2]
  have e3 : at_ ([82, 79, 76, 76, 66, 79, 79, 75] ++ (beB m.txn 8 0 ++ (beB m.root 4 0 ++ (beB m.free 4 0 ++ (beB m.pages 4 0 ++ (beB m.limit 4 0 ++ T)))))) 20 4 = m.free := by
    unfold at_
    rw [drop_app _ _ 20 8 rfl (by omega), drop_app _ _ 12 8 l1 (by omega), drop_app _ _ 4 4 l2 (by omega), Nat.sub_self, List.drop_zero, take_app _ _ 4 l3, k3]
  have e4 : at_ ([82, 79, 76, 76, 66, 79, 79, 75] ++ (beB m.txn 8 0 ++ (beB m.root 4 0 ++ (beB m.free 4 0 ++ (beB m.pages 4 0 ++ (beB m.limit 4 0 ++ T)))))) 24 4 = m.pages := by
    unfold at_
    rw [drop_app _ _ 24 8 rfl (by omega), drop_app _ _ 16 8 l1 (by omega), drop_app _ _ 8 4 l2 (by omega), drop_app _ _ 4 4 l3 (by omega), Nat.sub_self, List.drop_zero, take_app _ _ 4 l4, k4]
  have e5 : at_ ([82, 79, 76, 76, 66, 79, 79, 75] ++ (beB m.txn 8 0 ++ (beB m.root 4 0 ++ (beB m.free 4 0 ++ (beB m.pages 4 0 ++ (beB m.limit 4 0 ++ T)))))) 28 4 = m.limit := by
    unfold at_
    rw [drop_app _ _ 28 8 rfl (by omega), drop_app _ _ 20 8 l1 (by omega), drop_app _ _ 12 4 l2 (by omega), drop_app _ _ 8 4 l3 (by omega), drop_app _ _ 4 4 l4 (by omega), Nat.sub_self, List.drop_zero, take_app _ _ 4 l5, k5]
  unfold fieldsM
  rw [e1, e2, e3, e4, e5]
/-- what is packed is read as it was -/
theorem readM_packed (m : ME) (h : rightM m = true) : readM (packedM m) = some m := by
  have e := packedM_fields m h
  have ht : m.txn ≤ 1099511627776 := by
    unfold rightM at h
    simp only [Bool.and_eq_true, decide_eq_true_eq] at h
    omega
  have e1 : at_ (packedM m) 8 8 = m.txn := congrArg ME.txn e
  unfold readM
  rw [e, if_pos ⟨packedM_length m, by rw [e1]; exact ht, h, rfl⟩]
/-- what is read is packed so -/
theorem of_readM (l : List UInt8) (m : ME) (h : readM l = some m) : rightM m = true ∧ packedM m = l := by
  unfold readM at h
  split at h
  · rename_i h'
    injection h with h
    subst h
    exact ⟨h'.2.2.1, h'.2.2.2⟩
  · cases h
theorem readM_long (l : List UInt8) (h : l.length ≠ 128) : readM l = none := by
  unfold readM
  rw [if_neg (fun e => h e.1)]
theorem read_long (l : List UInt8) (h : l.length ≠ 512) : read l = none := by
  unfold read
  rw [if_neg (fun e => h e.1)]
theorem headM_getD (m : ME) (i : Nat) (h : i < 32) : (packedM m).getD i 0 = (headM m).getD i 0 := by
  unfold packedM
  simp only [List.getD_eq_getElem?_getD]
  rw [List.getElem?_append_left (by rw [headM_length]; exact h)]
theorem sumM_getD (m : ME) (i : Nat) (h : i < 4) : (packedM m).getD (32 + i) 0 = (beB (Crc.on 0 (headM m)) 4 0).getD i 0 := by
  unfold packedM
  simp only [List.getD_eq_getElem?_getD]
  rw [List.getElem?_append_right (by rw [headM_length]; omega), headM_length, Nat.add_sub_cancel_left, List.getElem?_append_left (by rw [beB_length]; exact h)]
theorem tailM_getD (m : ME) (i : Nat) (h : 36 ≤ i) : (packedM m).getD i 0 = 0 := by
  unfold packedM noughts
  simp only [List.getD_eq_getElem?_getD]
  rw [List.getElem?_append_right (by rw [headM_length]; omega), headM_length, List.getElem?_append_right (by rw [beB_length]; omega), beB_length, List.getElem?_replicate]
  split <;> rfl
theorem wide_getD (m : ME) (i : Nat) : (headM m ++ noughts 4).getD i 0 = if i < 32 then (headM m).getD i 0 else 0 := by
  simp only [List.getD_eq_getElem?_getD]
  by_cases h : i < 32
  · rw [if_pos h, List.getElem?_append_left (by rw [headM_length]; exact h)]
  · rw [if_neg h, List.getElem?_append_right (by rw [headM_length]; omega)]
    unfold noughts
    rw [List.getElem?_replicate]
    split <;> rfl
theorem meta_told (m : ME) (a y : Nat) (ha : a + 4 ≤ 128) (hy : y < 2 ^ 32) (hy0 : y ≠ 0)
    (hm : (∀ k, k < 4 → turnB y k ≠ 0 → 32 ≤ a + k ∧ a + k < 36) ∨ (∀ k, k < 4 → turnB y k ≠ 0 → ¬ (32 ≤ a + k ∧ a + k < 36))) : readM (Crc.turn (packedM m) a y 4) = none := by
  cases hr : readM (Crc.turn (packedM m) a y 4) with
  | none => rfl
  | some q =>
    exfalso
    obtain ⟨_, hq⟩ := of_readM _ _ hr
    have hl := packedM_length m
    have g : ∀ i, (packedM q).getD i 0 = if a ≤ i ∧ i < a + 4 then (packedM m).getD i 0 ^^^ turnB y (i - a) else (packedM m).getD i 0 := fun i => by rw [hq]; exact turn_getD _ a y 4 (by omega) i
    have z : ∀ k, k < 4 → (∀ h : turnB y k ≠ 0, False) → turnB y k = 0 := fun k _ h => by
      rcases Classical.em (turnB y k = 0) with e | e
      · exact e
      · exact (h e).elim
    rcases hm with hm | hm
    · have hh : headM q = headM m := by
        refine ext_getD _ _ (by rw [headM_length, headM_length]) (fun i hi => ?_)
        rw [headM_length] at hi
        rw [← headM_getD q i hi, ← headM_getD m i hi, g i]
        split
        · rename_i hj
          rw [z (i - a) (by omega) (fun h => by have := hm (i - a) (by omega) h; omega), UInt8.xor_zero]
        · rfl
      have hz4 : ∀ k, k < 4 → turnB y k = 0 := fun k hk => z k hk (fun h => by
        have hk2 := hm k hk h
        have h1 := sumM_getD q (a + k - 32) (by omega)
        rw [hh, ← sumM_getD m (a + k - 32) (by omega), show 32 + (a + k - 32) = a + k by omega, g (a + k), if_pos (by omega), Nat.add_sub_cancel_left] at h1
        exact h (xor_self_zero _ _ h1))
      exact hy0 (Crc.zero_of y hy (hz4 0 (by omega)) (hz4 1 (by omega)) (hz4 2 (by omega)) (hz4 3 (by omega)))
    · have hb0 : ∀ i, 32 ≤ i → a ≤ i → i < a + 4 → turnB y (i - a) = 0 := by
        intro i h1 h3 h4
        refine z (i - a) (by omega) (fun h => ?_)
        by_cases h2 : i < 36
        · exact hm (i - a) (by omega) h (by omega)
        · have := g i
          rw [tailM_getD q i (by omega), if_pos ⟨h3, h4⟩, tailM_getD m i (by omega), UInt8.zero_xor] at this
          exact h this.symm
      have hs : beB (Crc.on 0 (headM q)) 4 0 = beB (Crc.on 0 (headM m)) 4 0 := by
        refine ext_getD _ _ (by rw [beB_length, beB_length]) (fun i hi => ?_)
        rw [beB_length] at hi
        rw [← sumM_getD q i (by omega), ← sumM_getD m i (by omega), g (32 + i)]
        split
        · rename_i hj
          rw [hb0 (32 + i) (by omega) hj.1 hj.2, UInt8.xor_zero]
        · rfl
      have hon := beB_inj _ _ (on_lt _ _) (on_lt _ _) hs
      have hon2 : Crc.on 0 (headM q ++ noughts 4) = Crc.on 0 (headM m ++ noughts 4) := by
        rw [← Crc.on_append 0 (by omega), ← Crc.on_append 0 (by omega), hon]
      have hlen : ∀ x : ME, (headM x ++ noughts 4).length = 36 := fun x => by rw [List.length_append, headM_length]; rfl
      by_cases ha2 : a + 4 ≤ 36
      · have hz : headM q ++ noughts 4 = Crc.turn (headM m ++ noughts 4) a y 4 := by
          refine ext_getD _ _ (by rw [Crc.turn_length, hlen, hlen]) (fun i _ => ?_)
          rw [turn_getD _ a y 4 (by rw [hlen]; exact ha2), wide_getD, wide_getD]
          by_cases h1 : i < 32
          · rw [if_pos h1, if_pos h1, ← headM_getD q i h1, ← headM_getD m i h1, g i]
          · rw [if_neg h1, if_neg h1]
            split
            · rename_i hj
              rw [hb0 i (by omega) hj.1 hj.2]; rfl
            · rfl
        rw [hz] at hon2
        exact Crc.turn_tells (headM m ++ noughts 4) a y (by rw [hlen]; exact ha2) hy hy0 hon2
      · have hz4 : ∀ k, k < 4 → turnB y k = 0 := fun k hk => by
          have := hb0 (a + k) (by omega) (by omega) (by omega)
          rwa [Nat.add_sub_cancel_left] at this
        exact hy0 (Crc.zero_of y hy (hz4 0 (by omega)) (hz4 1 (by omega)) (hz4 2 (by omega)) (hz4 3 (by omega)))
/-- the newest of two, and where it stands -/
def newest (a b : List UInt8) : Option (ME × Nat) :=
  match readM a, readM b with
  | some x, some y => if x.txn < y.txn then some (y, 1) else some (x, 0)
  | some x, none => some (x, 0)
  | none, some y => some (y, 1)
  | none, none => none
theorem newest_told (a b : List UInt8) : (newest a b).isSome = ((readM a).isSome || (readM b).isSome) ∧
    ∀ m k, newest a b = some (m, k) → (∀ x, readM a = some x → x.txn ≤ m.txn) ∧ (∀ x, readM b = some x → x.txn ≤ m.txn) := by
  unfold newest
  cases readM a with
  | none =>
    cases readM b with
    | none => exact ⟨rfl, fun m k h => (nomatch h)⟩
    | some y =>
      refine ⟨rfl, fun m k h => ⟨fun x hx => (nomatch hx), fun x hx => ?_⟩⟩
      cases h
      cases hx
      exact Nat.le_refl _
  | some x =>
    cases readM b with
    | none =>
      refine ⟨rfl, fun m k h => ⟨fun x hx => ?_, fun x hx => (nomatch hx)⟩⟩
      cases h
      cases hx
      exact Nat.le_refl _
    | some y =>
      refine ⟨by dsimp only; split <;> rfl, fun m k h => ?_⟩
      dsimp only at h
      split at h <;> cases h <;> refine ⟨fun z hz => ?_, fun z hz => ?_⟩ <;> cases hz <;> omega
end Page
end Go.Proofs.Ytjgmlpfallakmaa
end
section
namespace Go.Proofs.Ytjgmlpfallakmaa
def ba (l : List UInt8) : ByteArray := ⟨l.toArray⟩
theorem ba_append (l k : List UInt8) : ba l ++ ba k = ba (l ++ k) := by
  unfold ba
  rw [← ByteArray.mk_append_mk]
theorem ba_data (s : ByteArray) : ba s.data.toList = s := by unfold ba; simp
theorem data_ba (l : List UInt8) : (ba l).data.toList = l := by unfold ba; simp
theorem ba_size (l : List UInt8) : (ba l).size = l.length := by
  unfold ba
  rw [ByteArray.size_mk', List.size_toArray]
theorem ba_inj {l k : List UInt8} (h : ba l = ba k) : l = k := by rw [← data_ba l, ← data_ba k, h]

open Go.RowKit
structure PV where
  kind : Int
  no : Int
  txn : Int
  body : ByteArray
def PV.val (p : PV) : Value := .agg #[.int .i64 p.kind, .int .i64 p.no, .int .i64 p.txn, .string p.body]
def PV.right (p : PV) : Bool := decide (1 ≤ p.kind) && decide (p.kind ≤ 4) && decide (1 ≤ p.no) && decide (p.no ≤ 511) && decide (0 ≤ p.txn) && decide (p.txn ≤ 1099511627776) && decide (p.body.size ≤ 488)
def PV.pg (p : PV) : Page.PG := ⟨p.kind.toNat, p.no.toNat, p.txn.toNat, p.body.data.toList⟩
def ofPG (q : Page.PG) : PV := ⟨q.kind, q.no, q.txn, ba q.body⟩
def PV.none : PV := ⟨0, 0, 0, ba []⟩
def PV.packS (p : PV) : ByteArray := if p.right then ba (Page.packed p.pg) else ba []
def PV.packE (p : PV) : Int := if p.right then 0 else 4
def unpackP (s : ByteArray) : PV := match Page.read s.data.toList with
  | some q => ofPG q
  | Option.none => PV.none
def unpackE (s : ByteArray) : Int := if (Page.read s.data.toList).isSome then 0 else 4
theorem PV.right_iff (p : PV) : p.right = true ↔ 1 ≤ p.kind ∧ p.kind ≤ 4 ∧ 1 ≤ p.no ∧ p.no ≤ 511 ∧ 0 ≤ p.txn ∧ p.txn ≤ 1099511627776 ∧ p.body.size ≤ 488 := by
  unfold PV.right
  simp only [Bool.and_eq_true, decide_eq_true_eq]
  omega
theorem PV.right_pg (p : PV) (h : p.right = true) : Page.right p.pg = true ∧ ofPG p.pg = p := by
  rw [PV.right_iff] at h
  obtain ⟨kind, no, txn, body⟩ := p
  simp only at h
  refine ⟨?_, ?_⟩
  · unfold Page.right PV.pg
    have e : body.data.toList.length = body.size := by rw [Array.length_toList]; rfl
    simp only [e, Bool.and_eq_true, decide_eq_true_eq]
    omega
  · unfold ofPG PV.pg
    simp only [ba_data, PV.mk.injEq, and_true]
    omega
theorem right_ofPG (q : Page.PG) : (ofPG q).right = Page.right q := by
  unfold ofPG PV.right Page.right
  rw [ba_size, Bool.eq_iff_iff]
  simp only [Bool.and_eq_true, decide_eq_true_eq]
  omega
theorem pg_ofPG (q : Page.PG) : (ofPG q).pg = q := by
  unfold ofPG PV.pg
  simp only [data_ba, Int.toNat_natCast]
theorem PV.packS_size (p : PV) : p.packS.size ≤ 512 := by
  unfold PV.packS
  split
  · rename_i h
    rw [ba_size, Page.packed_length]
    · exact Nat.le_refl _
    · rw [PV.right_iff] at h
      unfold PV.pg
      simp only [Array.length_toList]
      exact h.2.2.2.2.2.2
  · rw [ba_size]; exact Nat.zero_le _
/-- a meta, as it comes -/
structure MV where
  txn : Int
  root : Int
  free : Int
  pages : Int
  limit : Int
def MV.val (m : MV) : Value := .agg #[.int .i64 m.txn, .int .i64 m.root, .int .i64 m.free, .int .i64 m.pages, .int .i64 m.limit]
def MV.right (m : MV) : Bool := decide (0 ≤ m.txn) && decide (m.txn ≤ 1099511627776) && decide (2 ≤ m.limit) && decide (m.limit ≤ 512) && decide (1 ≤ m.pages) && decide (m.pages ≤ m.limit) && decide (0 ≤ m.root) && decide (m.root < m.pages) && decide (0 ≤ m.free) && decide (m.free < m.pages)
def MV.me (m : MV) : Page.ME := ⟨m.txn.toNat, m.root.toNat, m.free.toNat, m.pages.toNat, m.limit.toNat⟩
def ofME (q : Page.ME) : MV := ⟨q.txn, q.root, q.free, q.pages, q.limit⟩
def MV.none : MV := ⟨0, 0, 0, 0, 0⟩
def MV.packS (m : MV) : ByteArray := if m.right then ba (Page.packedM m.me) else ba []
def MV.packE (m : MV) : Int := if m.right then 0 else 4
def unpackM (s : ByteArray) : MV := match Page.readM s.data.toList with
  | some q => ofME q
  | Option.none => MV.none
def unpackME (s : ByteArray) : Int := if (Page.readM s.data.toList).isSome then 0 else 4
theorem MV.right_iff (m : MV) : m.right = true ↔ 0 ≤ m.txn ∧ m.txn ≤ 1099511627776 ∧ 2 ≤ m.limit ∧ m.limit ≤ 512 ∧ 1 ≤ m.pages ∧ m.pages ≤ m.limit ∧ 0 ≤ m.root ∧ m.root < m.pages ∧ 0 ≤ m.free ∧ m.free < m.pages := by
  unfold MV.right
  simp only [Bool.and_eq_true, decide_eq_true_eq]
  omega
theorem MV.right_me (m : MV) (h : m.right = true) : Page.rightM m.me = true ∧ ofME m.me = m := by
  rw [MV.right_iff] at h
  obtain ⟨txn, root, free, pages, limit⟩ := m
  simp only at h
  refine ⟨?_, ?_⟩
  · unfold Page.rightM MV.me
    simp only [Bool.and_eq_true, decide_eq_true_eq]
    omega
  · unfold ofME MV.me
    simp only [MV.mk.injEq]
    omega
theorem right_ofME (q : Page.ME) : (ofME q).right = Page.rightM q := by
  unfold ofME MV.right Page.rightM
  rw [Bool.eq_iff_iff]
  simp only [Bool.and_eq_true, decide_eq_true_eq]
  omega
theorem me_ofME (q : Page.ME) : (ofME q).me = q := by
  unfold ofME MV.me
  simp only [Int.toNat_natCast]
theorem MV.packS_size (m : MV) : m.packS.size ≤ 128 := by
  unfold MV.packS
  split
  · rw [ba_size, Page.packedM_length]; exact Nat.le_refl _
  · rw [ba_size]; exact Nat.zero_le _
def newestM (a b : ByteArray) : MV := match Page.newest a.data.toList b.data.toList with
  | some (q, _) => ofME q
  | Option.none => MV.none
def newestI (a b : ByteArray) : Int := match Page.newest a.data.toList b.data.toList with
  | some (_, k) => k
  | Option.none => 0
def newestE (a b : ByteArray) : Int := if (Page.newest a.data.toList b.data.toList).isSome then 0 else 4
/-- the seven functions of chapter 4: what each answers -/
structure PageKit (fright fpack funpack frightM fpackM funpackM fnewest : FuncId) : Prop where
  right : ∀ (w : World) (p : PV), Calls Try.prog fright #[p.val] w fun e w' => e = .returned (.bool p.right) ∧ Below w.heap.size w w'
  pack : ∀ (w : World) (p : PV), p.body.size ≤ 2000 → Calls Try.prog fpack #[p.val] w fun e w' => e = .returned (.tuple #[.string p.packS, .int .i64 p.packE]) ∧ Below w.heap.size w w'
  unpack : ∀ (w : World) (s : ByteArray), s.size ≤ 2000 → Calls Try.prog funpack #[.string s] w fun e w' => e = .returned (.tuple #[(unpackP s).val, .int .i64 (unpackE s)]) ∧ Below w.heap.size w w'
  rightM : ∀ (w : World) (m : MV), Calls Try.prog frightM #[m.val] w fun e w' => e = .returned (.bool m.right) ∧ Below w.heap.size w w'
  packM : ∀ (w : World) (m : MV), Calls Try.prog fpackM #[m.val] w fun e w' => e = .returned (.tuple #[.string m.packS, .int .i64 m.packE]) ∧ Below w.heap.size w w'
  unpackM : ∀ (w : World) (s : ByteArray), s.size ≤ 2000 → Calls Try.prog funpackM #[.string s] w fun e w' => e = .returned (.tuple #[(unpackM s).val, .int .i64 (unpackME s)]) ∧ Below w.heap.size w w'
  newest : ∀ (w : World) (a b : ByteArray), a.size ≤ 2000 → b.size ≤ 2000 → Calls Try.prog fnewest #[.string a, .string b] w fun e w' => e = .returned (.tuple #[(newestM a b).val, .int .i64 (newestI a b), .int .i64 (newestE a b)]) ∧ Below w.heap.size w w'
end Go.Proofs.Ytjgmlpfallakmaa
end
