/-
  Plain words of no statement: a list of calls that came in, as it lies in memory, below a block's number. No conditions but those typed.
-/
import Derived.Test.YtjgmlpfallakmaaAct
namespace Go.Proofs.Ytjgmlpfallakmaa
open Go.RowKit
/-- the slice v reads as the numbers l, below block B -/
def NumsLow (w : World) (B : Nat) (v : Value) (l : List Int) : Prop :=
  ∃ A cap, v = .slice A l.length cap ∧ l.length ≤ 9223372036854775807 ∧ (∀ z ∈ l, -9223372036854775808 ≤ z ∧ z ≤ 9223372036854775807) ∧
    ∀ j (h : j < l.length), ∃ b off, A = some ⟨b, off, none⟩ ∧ b < B ∧ w.cell? ⟨b, off + j, none⟩ = some (.int .i64 l[j])
theorem NumsLow.below {w w' : World} {B : Nat} {v : Value} {l : List Int} (h : NumsLow w B v l) (hb : Below B w w') : NumsLow w' B v l := by
  obtain ⟨A, cap, hv, hl, hz, hc⟩ := h
  refine ⟨A, cap, hv, hl, hz, fun j hj => ?_⟩
  obtain ⟨b, off, hA, hlt, hcell⟩ := hc j hj
  exact ⟨b, off, hA, hlt, (hb.cell (p := ⟨b, off + j, none⟩) hlt).trans hcell⟩
theorem NumsLow.at_ {w : World} {B : Nat} {v : Value} {l : List Int} {F : List Nat} (h : NumsLow w B v l) (hB : B ≤ w.heap.size) (hF : ∀ k ∈ F, B ≤ k) : NumsAt w F v l := by
  obtain ⟨A, cap, hv, hl, hz, hc⟩ := h
  refine ⟨A, cap, hv, hl, hz, fun j hj => ?_⟩
  obtain ⟨b, off, hA, hlt, hcell⟩ := hc j hj
  exact ⟨b, off, hA, fun hk => by have := hF b hk; omega, by omega, hcell⟩
/-- the six cells of a call -/
def ActCells (w : World) (b o : Nat) (x : ActM) (pv : Value) : Prop :=
  w.cell? ⟨b, o, none⟩ = some (.int .i64 x.kind) ∧ w.cell? ⟨b, o + 1, none⟩ = some (.int .i64 x.i) ∧ w.cell? ⟨b, o + 2, none⟩ = some (.int .i64 x.n) ∧
  w.cell? ⟨b, o + 3, none⟩ = some (.int .u8 x.c.toNat) ∧ w.cell? ⟨b, o + 4, none⟩ = some (.string x.text) ∧ w.cell? ⟨b, o + 5, none⟩ = some pv
theorem ActCells.below {w w' : World} {B b o : Nat} {x : ActM} {pv : Value} (h : ActCells w b o x pv) (hb : Below B w w') (hlt : b < B) : ActCells w' b o x pv := by
  obtain ⟨h0, h1, h2, h3, h4, h5⟩ := h
  have c := fun o => hb.cell (p := ⟨b, o, none⟩) hlt
  exact ⟨(c _).trans h0, (c _).trans h1, (c _).trans h2, (c _).trans h3, (c _).trans h4, (c _).trans h5⟩
/-- the slice v reads as the calls xs, below block B -/
def ActsAt (w : World) (B : Nat) (v : Value) (xs : List ActM) : Prop :=
  ∃ A cap, v = .slice A xs.length cap ∧ xs.length ≤ cap ∧ xs.length ≤ 9223372036854775807 ∧
    ∀ k (h : k < xs.length), ∃ b off pv, A = some ⟨b, off, none⟩ ∧ b < B ∧ ActCells w b (off + k * 6) xs[k] pv ∧ NumsLow w B pv xs[k].picks ∧ xs[k].n ≤ 9223372036854775807
theorem ActsAt.below {w w' : World} {B : Nat} {v : Value} {xs : List ActM} (h : ActsAt w B v xs) (hb : Below B w w') : ActsAt w' B v xs := by
  obtain ⟨A, cap, hv, hc, hl, hx⟩ := h
  refine ⟨A, cap, hv, hc, hl, fun k hk => ?_⟩
  obtain ⟨b, off, pv, hA, hlt, h1, h2, h3⟩ := hx k hk
  exact ⟨b, off, pv, hA, hlt, h1.below hb hlt, h2.below hb, h3⟩
theorem ActsAt.get {w : World} {B : Nat} {A : Option Addr} {len cap : Nat} {xs : List ActM} (h : ActsAt w B (.slice A len cap) xs) (k : Nat) (hk : k < xs.length) :
    ∃ b off pv, A = some ⟨b, off, none⟩ ∧ b < B ∧ ActCells w b (off + k * 6) xs[k] pv ∧ NumsLow w B pv xs[k].picks ∧ xs[k].n ≤ 9223372036854775807 := by
  obtain ⟨A', cap', hv, _, _, hh⟩ := h
  injection hv with e1 e2 e3
  subst e1
  exact hh k hk
/-- two objects apart, of which each is changed in turn -/
theorem apart_after {F G F1 G2 : List Nat} {a b B : Nat} (ltG : ∀ k ∈ G, k < a) (hab : a ≤ b) (lt1 : ∀ k ∈ F1, k < b) (h1 : Grows F F1 a) (h2 : Grows G G2 b) (hFG : ∀ k ∈ F, k ∉ G) (hF : ∀ k ∈ F, B ≤ k) (hG : ∀ k ∈ G, B ≤ k) (hB : B ≤ a) :
    (∀ k ∈ G, k ∉ F1) ∧ (∀ k ∈ F1, k ∉ G2) ∧ (∀ k ∈ F1, B ≤ k) ∧ (∀ k ∈ G2, B ≤ k) := by
  refine ⟨?_, ?_, ?_, ?_⟩
  · intro k hk hm
    rcases h1 k hm with h | h
    · exact hFG k h hk
    · have := ltG k hk; omega
  · intro k hk hm
    have hlt := lt1 k hk
    rcases h2 k hm with h | h
    · rcases h1 k hk with h' | h'
      · exact hFG k h' h
      · have := ltG k h; omega
    · omega
  · intro k hk
    exact (h1 k hk).elim (hF k) (fun h => by omega)
  · intro k hk
    exact (h2 k hk).elim (hG k) (fun h => by omega)
end Go.Proofs.Ytjgmlpfallakmaa
