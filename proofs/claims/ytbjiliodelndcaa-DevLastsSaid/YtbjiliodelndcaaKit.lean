/-
  What the statements of chapter 3 lean on, of any device in memory: a representation 'At', and what each call answers and leaves (as a structure of contracts); the reference's device meets it. Conditions: at most 1000000 calls before.
-/
import Derived.Test.YtbjiliodelndcaaRefD
namespace Go.Proofs.Ytbjiliodelndcaa
open Go.RowKit
/-- the calls that both devices have -/
structure CoreKit (At : World → Nat → RD → List Nat → Prop) (fwrite fsync ffuse fcut fstart fread fwaits : FuncId) : Prop where
  lt : ∀ {w : World} {p : Nat} {d : RD} {F : List Nat}, At w p d F → ∀ k ∈ F, k < w.heap.size
  touch : ∀ {w w' : World} {p : Nat} {d : RD} {F S : List Nat}, At w p d F → Touch S w w' → (∀ k ∈ S, k ∉ F) → At w' p d F
  write : ∀ (w : World) (p : Nat) (d : RD) (F : List Nat) (K : Nat), K ≤ 1000000 → RD.Ok K d → ∀ (i : Int) (s : ByteArray), At w p d F →
    Calls Try.prog fwrite #[.pointer (some ⟨p, 0, none⟩), .int .i64 i, .string s] w (Did At w p F (d.writeD i s) (.returned (.int .i64 (d.writeE i s))))
  sync : ∀ (w : World) (p : Nat) (d : RD) (F : List Nat) (K : Nat), K ≤ 1000000 → RD.Ok K d → At w p d F →
    Calls Try.prog fsync #[.pointer (some ⟨p, 0, none⟩)] w (Did At w p F d.syncD (.returned (.int .i64 d.syncE)))
  fuse : ∀ (w : World) (p : Nat) (d : RD) (F : List Nat) (n : Int), At w p d F →
    Calls Try.prog ffuse #[.pointer (some ⟨p, 0, none⟩), .int .i64 n] w (Did At w p F (d.fuseD n) (.returned (.int .i64 d.fuseE)))
  cut : ∀ (w : World) (p : Nat) (d : RD) (F : List Nat), At w p d F →
    Calls Try.prog fcut #[.pointer (some ⟨p, 0, none⟩)] w (Did At w p F d.cutD (.returned (.int .i64 d.fuseE)))
  start : ∀ (w : World) (p : Nat) (d : RD) (F : List Nat) (K : Nat), K ≤ 1000000 → RD.Ok K d → At w p d F → ∀ (v : Value) (picks : List Int), NumsAt w F v picks →
    Calls Try.prog fstart #[.pointer (some ⟨p, 0, none⟩), v] w (Did At w p F (d.startD picks) (.returned (.int .i64 d.startE)))
  read : ∀ (w : World) (p : Nat) (d : RD) (F : List Nat) (K : Nat), K ≤ 1000000 → RD.Ok K d → ∀ (i : Int), At w p d F →
    Calls Try.prog fread #[.pointer (some ⟨p, 0, none⟩), .int .i64 i] w fun e w' => e = .returned (.tuple #[.string (d.readS i), .int .i64 (d.readE i)]) ∧ Below w.heap.size w w'
  waits : ∀ (w : World) (p : Nat) (d : RD) (F : List Nat) (K : Nat), K ≤ 1000000 → RD.Ok K d → ∀ (i : Int), At w p d F →
    Calls Try.prog fwaits #[.pointer (some ⟨p, 0, none⟩), .int .i64 i] w fun e w' => e = .returned (.int .i64 (d.waits i)) ∧ w = w'
theorem RefAt.lt {w : World} {p : Nat} {d : RD} {F : List Nat} (h : RefAt w p d F) : ∀ k ∈ F, k < w.heap.size := by
  obtain ⟨vs, vr, hb, hs, hr, rfl, hN⟩ := h
  intro k hk
  rcases mem3.1 hk with rfl | hk | hk
  · exact hb.lt
  · exact ownsRow_lt hs k hk
  · exact ownsRow_lt hr k hk
theorem RefAt.touch {w w' : World} {p : Nat} {d : RD} {F S : List Nat} (h : RefAt w p d F) (hT : Touch S w w') (hS : ∀ k ∈ S, k ∉ F) : RefAt w' p d F := by
  obtain ⟨vs, vr, hb, hs, hr, rfl, hN⟩ := h
  exact ⟨vs, vr, hb.touch hT (fun hk => hS _ hk (mem3.2 (.inl rfl))), ownsRow_touch hs hT (fun k hk hm => hS k hm (mem3.2 (.inr (.inl hk)))), ownsRow_touch hr hT (fun k hk hm => hS k hm (mem3.2 (.inr (.inr hk)))), rfl, hN⟩
theorem refKit : CoreKit RefAt 28 29 30 31 32 17 19 where
  lt := RefAt.lt
  touch := RefAt.touch
  write := fun w p d F K hK ok i s h => ref_write w p d F K hK ok i s h
  sync := fun w p d F K hK ok h => ref_sync w p d F K hK ok h
  fuse := fun w p d F n h => ref_fuse w p d F n h
  cut := fun w p d F h => ref_cut w p d F h
  start := fun w p d F K hK ok h v picks hp => ref_start w p d F K hK ok h v picks hp
  read := fun w p d F K hK ok i h => (ref_read w p d F K hK ok i h).mono fun _ _ ⟨h1, h2⟩ => ⟨h1, h2 ▸ Below.refl _ _⟩
  waits := fun w p d F K hK ok i h => ref_waits w p d F K hK ok i h
/-- what lasts of a sector -/
def RD.lastsS (d : RD) (i : Int) : ByteArray := if d.has i then d.sector.getD i.toNat ⟨#[]⟩ else ⟨#[]⟩
/-- the program's device -/
structure DevKit (At : World → Nat → RD → List Nat → Prop) : Prop extends CoreKit At 27 26 25 23 24 16 18 where
  newNot : ∀ (n : Int) (w : World), n < 1 ∨ 2048 < n → Calls Try.prog 8 #[.int .i64 n] w fun e w' => e = .returned (.tuple #[.pointer none, .int .i64 1]) ∧ w = w'
  new : ∀ (n : Nat) (w : World), 1 ≤ n → n ≤ 2048 → Calls Try.prog 8 #[.int .i64 n] w (Made At w n)
  size : ∀ (w : World) (p : Nat) (d : RD) (F : List Nat), At w p d F → Calls Try.prog 10 #[.pointer (some ⟨p, 0, none⟩)] w fun e w' => e = .returned (.int .i64 d.sector.length) ∧ w = w'
  on : ∀ (w : World) (p : Nat) (d : RD) (F : List Nat), At w p d F → Calls Try.prog 13 #[.pointer (some ⟨p, 0, none⟩)] w fun e w' => e = .returned (.bool (!d.off)) ∧ w = w'
  steps : ∀ (w : World) (p : Nat) (d : RD) (F : List Nat), At w p d F → Calls Try.prog 14 #[.pointer (some ⟨p, 0, none⟩)] w fun e w' => e = .returned (.int .i64 d.count) ∧ w = w'
  writes : ∀ (w : World) (p : Nat) (d : RD) (F : List Nat), At w p d F → Calls Try.prog 15 #[.pointer (some ⟨p, 0, none⟩)] w fun e w' => e = .returned (.int .i64 d.wrote) ∧ w = w'
  lasts : ∀ (w : World) (p : Nat) (d : RD) (F : List Nat) (i : Int), At w p d F → Calls Try.prog 20 #[.pointer (some ⟨p, 0, none⟩), .int .i64 i] w fun e w' => e = .returned (.string (d.lastsS i)) ∧ Below w.heap.size w w'
  nilSize : ∀ (w : World), Calls Try.prog 10 #[.pointer none] w fun e w' => e = .returned (.int .i64 0) ∧ w = w'
  nilOn : ∀ (w : World), Calls Try.prog 13 #[.pointer none] w fun e w' => e = .returned (.bool false) ∧ w = w'
  nilSteps : ∀ (w : World), Calls Try.prog 14 #[.pointer none] w fun e w' => e = .returned (.int .i64 0) ∧ w = w'
  nilWrites : ∀ (w : World), Calls Try.prog 15 #[.pointer none] w fun e w' => e = .returned (.int .i64 0) ∧ w = w'
  nilRead : ∀ (w : World) (i : Int), Calls Try.prog 16 #[.pointer none, .int .i64 i] w fun e w' => e = .returned (.tuple #[.string ⟨#[]⟩, .int .i64 2]) ∧ w = w'
  nilWaits : ∀ (w : World) (i : Int), Calls Try.prog 18 #[.pointer none, .int .i64 i] w fun e w' => e = .returned (.int .i64 0) ∧ w = w'
  nilLasts : ∀ (w : World) (i : Int), Calls Try.prog 20 #[.pointer none, .int .i64 i] w fun e w' => e = .returned (.string ⟨#[]⟩) ∧ w = w'
  nilCut : ∀ (w : World), Calls Try.prog 23 #[.pointer none] w fun e w' => e = .returned (.int .i64 2) ∧ w = w'
  nilStart : ∀ (w : World) (v : Value), Calls Try.prog 24 #[.pointer none, v] w fun e w' => e = .returned (.int .i64 2) ∧ w = w'
  nilFuse : ∀ (w : World) (n : Int), Calls Try.prog 25 #[.pointer none, .int .i64 n] w fun e w' => e = .returned (.int .i64 2) ∧ w = w'
  nilSync : ∀ (w : World), Calls Try.prog 26 #[.pointer none] w fun e w' => e = .returned (.int .i64 2) ∧ w = w'
  nilWrite : ∀ (w : World) (i : Int) (s : ByteArray), Calls Try.prog 27 #[.pointer none, .int .i64 i, .string s] w fun e w' => e = .returned (.int .i64 2) ∧ w = w'
end Go.Proofs.Ytbjiliodelndcaa
