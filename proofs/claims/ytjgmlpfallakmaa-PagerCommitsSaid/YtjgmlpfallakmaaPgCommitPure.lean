/-
  Plain laws of no statement: a meta that is sealed and done with no fuse, one after another (P5.4). No conditions but those typed.
-/
import Derived.Test.YtjgmlpfallakmaaPgOpensW
import Derived.Laws.Bits128
namespace Go.Proofs.Ytjgmlpfallakmaa
theorem and_low (n : Int) (k : Nat) (hk : k ≤ 8) : Go.bits .and .i64 n ((2 ^ k - 1 : Nat) : Int) = n % ((2 ^ k : Nat) : Int) := by
  have h1 : 2 ^ k ≤ 2 ^ 8 := Nat.pow_le_pow_right (by omega) hk
  have h2 : (BitVec.ofInt 64 ((2 ^ k - 1 : Nat) : Int)).toNat = 2 ^ k - 1 := by
    rw [BitVec.toNat_ofInt]
    omega
  have h3 : 0 < 2 ^ k := Nat.pow_pos (by omega)
  have h4 : (2 ^ k : Nat) ∣ 2 ^ 64 := Nat.pow_dvd_pow 2 (by omega)
  show IntKind.i64.wrap ((BitVec.ofInt 64 n &&& BitVec.ofInt 64 ((2 ^ k - 1 : Nat) : Int)).toNat : Nat) = _
  rw [BitVec.toNat_and, BitVec.toNat_ofInt, h2, Nat.and_two_pow_sub_one_eq_mod, IntKind.wrap_i64]
  have h5 : (n % ((2 ^ 64 : Nat) : Int)).toNat % 2 ^ k < 2 ^ k := Nat.mod_lt _ h3
  have h6 : (((n % ((2 ^ 64 : Nat) : Int)).toNat % 2 ^ k : Nat) : Int) = n % ((2 ^ k : Nat) : Int) := by
    rw [Int.natCast_emod, Int.toNat_of_nonneg (Int.emod_nonneg _ (by decide)), Int.emod_emod_of_dvd _ (Int.natCast_dvd_natCast.2 h4)]
  rw [← h6]
  omega
theorem and7 (n : Int) : Go.bits .and .i64 n 7 = n % 8 := and_low n 3 (by omega)
theorem and3 (n : Int) : Go.bits .and .i64 n 3 = n % 4 := and_low n 2 (by omega)
namespace RD
theorem file_next {d : RD} {s : PS} (h : File d s) (n : MV) (hn : n.right = true) (hl : n.limit = 6) (ht : n.txn = s.m.txn + 1) :
    s.sealE d n = 0 ∧ (s.sealS d n).doneE (s.sealD d n) = 0 ∧ File ((s.sealS d n).doneD (s.sealD d n)) ((s.sealS d n).doneS (s.sealD d n)) ∧ ((s.sealS d n).doneS (s.sealD d n)).m = n := by
  have hd : d = { d with left := 0 } := by
    have := h.calm.left
    obtain ⟨a, b, c, l, e, f⟩ := d
    simp only at this
    subst this
    rfl
  obtain ⟨ms, ms'⟩ := maySeal_of hn (hl.trans h.limit.symm) ht h.seal_
  obtain ⟨e1, _, _⟩ := seal_e (d := d) ms ms'
  have hk : 0 ≤ n.txn % 2 ∧ n.txn % 2 < d.sector.length := by rw [h.len]; omega
  obtain ⟨w1, _⟩ := write_goes h.calm.off h.calm.row _ hk _ (packS_len n hn) (by rw [h.calm.left]; omega)
  have es : s.sealE d n = 0 := e1.trans w1
  rcases file_seal h 0 n hn hl ht d hd with ⟨x, _⟩ | ⟨_, _, ⟨y1, y2, _⟩ | ⟨_, y, _⟩⟩
  · omega
  · exact ⟨es, y1, (y2 rfl).1, (y2 rfl).2⟩
  · exact absurd rfl y
theorem fuse_left {d : RD} (h : d.off = false) (n : Int) : d.fuseD n = { d with left := if n < 1 then 0 else n } := by
  unfold fuseD
  rw [h]
  rfl
theorem cut_of_off {d : RD} (h : d.off = true) : d.cutD = d := by unfold cutD; rw [h]; rfl
end RD
end Go.Proofs.Ytjgmlpfallakmaa
