/-
  No cell of these rows narrows 'for every input' (looked for: loops, veiled, ifaces, maps, wideKeys, modest, calm, conditions, laid).
  DERIVED. THE GIVEN ROWS OF THIS SEAT. 6 by the template 'for every input the law returns true; each argument reads behind the call as it read before'; 0 by the template 'total and deterministic' (their statements: YtkbhjpgadhbakaaTotals.lean).
  GIVEN WITH THE SEED: the statements are not yours to turn. If you find one false, say at which input.
  Laid BY PROGRAM, IN A SANDBOX (cutbox-rows.mjs): the forced cells as the released guide's own fill.sh prints them over the translation 13055da78543c407… (all of the seat's roots in one cut). By AI agents, Wed Nov 11 2026. No macro, syntax, notation, axiom, sorry.
-/
import Derived.Test.YtkbhjpgadhbakaaChecked
import GoSem.Claim
import GoSem.ClaimJoined
import GoSem.ClaimMapViews
import Derived.JoinedTies
import Derived.KernelRfl
namespace Go.Proofs.Ytkbhjpgadhbakaa
/- THE CELL 'sum', in the pinned program and in every row, IS THE sha256 OF THE DUMP (.gsa) THAT YtkbhjpgadhbakaaProg.lean LOADS. Nothing in Lean hashes anything: it is a label: what it is worth is what the hold of that sum in a sandbox is worth. -/
noncomputable def Try.pinned : Pinned := { name := "ytkbhjpgadhbakaa", sum := "13055da78543c407faba333786e56fcc8cdeb9dd81ccc39ff8efa6695e0d3a0b", checked := Try.checked }
namespace Rows
def none {H : Type} : Left H := { results := [], args := [] }

/-- 'rollbooklaw01.FieldNumbers': WHATEVER THE INPUT: true; the input reads as it did. -/
def fieldNumbersSpec : ChangeSpec := { name := "fieldNumbers", fn := fun _ => fun
  | [d1, d2, d3, d4] => { results := [.lit (.bool true)], args := [d1, d2, d3, d4] }
  | _ => none }
def fieldNumbersRow : OpenClaim := { program := "ytkbhjpgadhbakaa", sum := "13055da78543c407faba333786e56fcc8cdeb9dd81ccc39ff8efa6695e0d3a0b", func := "rollbook/rollbooklaw01.FieldNumbers", spec := "fieldNumbers", apart := false }
def FieldNumbersSaid : Prop := fieldNumbersRow.holds Try.pinned (OpenSpec.ofChange fieldNumbersSpec)

/-- ITS FALSE NEIGHBOUR: 'it returns false'. Refute it at one input. -/
def fieldNumbersWrong : ChangeSpec := { name := "fieldNumbers", fn := fun _ => fun
  | [d1, d2, d3, d4] => { results := [.lit (.bool false)], args := [d1, d2, d3, d4] }
  | _ => none }
def FieldNumbersWrongFalsely : Prop := fieldNumbersRow.holds Try.pinned (OpenSpec.ofChange fieldNumbersWrong)

/-- 'rollbooklaw01.FieldTexts': WHATEVER THE INPUT: true; the input reads as it did. -/
def fieldTextsSpec : ChangeSpec := { name := "fieldTexts", fn := fun _ => fun
  | [d1, d2, d3, d4] => { results := [.lit (.bool true)], args := [d1, d2, d3, d4] }
  | _ => none }
def fieldTextsRow : OpenClaim := { program := "ytkbhjpgadhbakaa", sum := "13055da78543c407faba333786e56fcc8cdeb9dd81ccc39ff8efa6695e0d3a0b", func := "rollbook/rollbooklaw01.FieldTexts", spec := "fieldTexts", apart := false }
def FieldTextsSaid : Prop := fieldTextsRow.holds Try.pinned (OpenSpec.ofChange fieldTextsSpec)

/-- ITS FALSE NEIGHBOUR: 'it returns false'. Refute it at one input. -/
def fieldTextsWrong : ChangeSpec := { name := "fieldTexts", fn := fun _ => fun
  | [d1, d2, d3, d4] => { results := [.lit (.bool false)], args := [d1, d2, d3, d4] }
  | _ => none }
def FieldTextsWrongFalsely : Prop := fieldTextsRow.holds Try.pinned (OpenSpec.ofChange fieldTextsWrong)

/-- 'rollbooklaw01.FieldTuples': WHATEVER THE INPUT: true; the input reads as it did. -/
def fieldTuplesSpec : ChangeSpec := { name := "fieldTuples", fn := fun _ => fun
  | [d] => { results := [.lit (.bool true)], args := [d] }
  | _ => none }
def fieldTuplesRow : OpenClaim := { program := "ytkbhjpgadhbakaa", sum := "13055da78543c407faba333786e56fcc8cdeb9dd81ccc39ff8efa6695e0d3a0b", func := "rollbook/rollbooklaw01.FieldTuples", spec := "fieldTuples", apart := false }
def FieldTuplesSaid : Prop := fieldTuplesRow.holds Try.pinned (OpenSpec.ofChange fieldTuplesSpec)

/-- ITS FALSE NEIGHBOUR: 'it returns false'. Refute it at one input. -/
def fieldTuplesWrong : ChangeSpec := { name := "fieldTuples", fn := fun _ => fun
  | [d] => { results := [.lit (.bool false)], args := [d] }
  | _ => none }
def FieldTuplesWrongFalsely : Prop := fieldTuplesRow.holds Try.pinned (OpenSpec.ofChange fieldTuplesWrong)

/-- 'rollbooklaw01.FieldParts': WHATEVER THE INPUT: true; the input reads as it did. -/
def fieldPartsSpec : ChangeSpec := { name := "fieldParts", fn := fun _ => fun
  | [d] => { results := [.lit (.bool true)], args := [d] }
  | _ => none }
def fieldPartsRow : OpenClaim := { program := "ytkbhjpgadhbakaa", sum := "13055da78543c407faba333786e56fcc8cdeb9dd81ccc39ff8efa6695e0d3a0b", func := "rollbook/rollbooklaw01.FieldParts", spec := "fieldParts", apart := false }
def FieldPartsSaid : Prop := fieldPartsRow.holds Try.pinned (OpenSpec.ofChange fieldPartsSpec)

/-- ITS FALSE NEIGHBOUR: 'it returns false'. Refute it at one input. -/
def fieldPartsWrong : ChangeSpec := { name := "fieldParts", fn := fun _ => fun
  | [d] => { results := [.lit (.bool false)], args := [d] }
  | _ => none }
def FieldPartsWrongFalsely : Prop := fieldPartsRow.holds Try.pinned (OpenSpec.ofChange fieldPartsWrong)

/-- 'rollbooklaw01.FieldOrder': WHATEVER THE INPUT: true; the input reads as it did. -/
def fieldOrderSpec : ChangeSpec := { name := "fieldOrder", fn := fun _ => fun
  | [d1, d2] => { results := [.lit (.bool true)], args := [d1, d2] }
  | _ => none }
def fieldOrderRow : OpenClaim := { program := "ytkbhjpgadhbakaa", sum := "13055da78543c407faba333786e56fcc8cdeb9dd81ccc39ff8efa6695e0d3a0b", func := "rollbook/rollbooklaw01.FieldOrder", spec := "fieldOrder", apart := false }
def FieldOrderSaid : Prop := fieldOrderRow.holds Try.pinned (OpenSpec.ofChange fieldOrderSpec)

/-- ITS FALSE NEIGHBOUR: 'it returns false'. Refute it at one input. -/
def fieldOrderWrong : ChangeSpec := { name := "fieldOrder", fn := fun _ => fun
  | [d1, d2] => { results := [.lit (.bool false)], args := [d1, d2] }
  | _ => none }
def FieldOrderWrongFalsely : Prop := fieldOrderRow.holds Try.pinned (OpenSpec.ofChange fieldOrderWrong)

/-- 'rollbooklaw01.FieldAfter': WHATEVER THE INPUT: true; the input reads as it did. -/
def fieldAfterSpec : ChangeSpec := { name := "fieldAfter", fn := fun _ => fun
  | [d1, d2, d3] => { results := [.lit (.bool true)], args := [d1, d2, d3] }
  | _ => none }
def fieldAfterRow : OpenClaim := { program := "ytkbhjpgadhbakaa", sum := "13055da78543c407faba333786e56fcc8cdeb9dd81ccc39ff8efa6695e0d3a0b", func := "rollbook/rollbooklaw01.FieldAfter", spec := "fieldAfter", apart := false }
def FieldAfterSaid : Prop := fieldAfterRow.holds Try.pinned (OpenSpec.ofChange fieldAfterSpec)

/-- ITS FALSE NEIGHBOUR: 'it returns false'. Refute it at one input. -/
def fieldAfterWrong : ChangeSpec := { name := "fieldAfter", fn := fun _ => fun
  | [d1, d2, d3] => { results := [.lit (.bool false)], args := [d1, d2, d3] }
  | _ => none }
def FieldAfterWrongFalsely : Prop := fieldAfterRow.holds Try.pinned (OpenSpec.ofChange fieldAfterWrong)

/- THE SECOND FORM. 'bulk': how many values and letters a reading holds, each counted each time it is reached (what is shared counts as often as it is met; a slice's spare places count too). A statement '..UptoSaid' is the law's where the arguments, and the package variables that the reading takes, are together of bulk at most 1048576: NARROWER than '..Said'. Prove '..Said' where nothing that the law and all that it calls make is longer than what came in: it says more and counts as full. Else prove '..UptoSaid'. A law counts once. -/
mutual
def uptoBulk {H : Type} : DataW H → Nat
  | .lit (.string bytes) => bytes.length + 1
  | .lit _ => 1
  | .nil => 1
  | .ptr d => uptoBulk d + 1
  | .slice elems spare => uptoBulkAll elems + uptoBulkAll spare + 1
  | .agg parts => uptoBulkAll parts + 1
  | .iface _ d => uptoBulk d + 1
  | .map entries => uptoBulkEntries entries + 1
  | .held _ => 1
def uptoBulkAll {H : Type} : List (DataW H) → Nat
  | [] => 0
  | d :: r => uptoBulk d + uptoBulkAll r
def uptoBulkEntries {H : Type} : List (Lit × DataW H) → Nat
  | [] => 0
  | x :: r => uptoBulkEntry x + uptoBulkEntries r
def uptoBulkEntry {H : Type} : Lit × DataW H → Nat
  | (.string bytes, d) => bytes.length + uptoBulk d + 1
  | (_, d) => uptoBulk d + 1
 end
def uptoSmall : (H : Type) → List (DataW H) → Bool := fun _ ds => decide (uptoBulkAll ds ≤ 1048576)
def OpenSpec.upto (s : _root_.Go.ChangeSpec) : _root_.Go.OpenSpec := { _root_.Go.OpenSpec.ofChange s with cond := some uptoSmall }

/-- 'rollbooklaw01.FieldNumbers', WHERE WHAT IT READS IS OF BULK AT MOST 1048576: true; the input reads as it did. -/
def fieldNumbersUptoRow : OpenClaim := { program := "ytkbhjpgadhbakaa", sum := "13055da78543c407faba333786e56fcc8cdeb9dd81ccc39ff8efa6695e0d3a0b", func := "rollbook/rollbooklaw01.FieldNumbers", spec := "fieldNumbers", apart := false, narrowed := true }
def FieldNumbersUptoSaid : Prop := fieldNumbersUptoRow.holds Try.pinned (OpenSpec.upto fieldNumbersSpec)

/-- 'rollbooklaw01.FieldTexts', WHERE WHAT IT READS IS OF BULK AT MOST 1048576: true; the input reads as it did. -/
def fieldTextsUptoRow : OpenClaim := { program := "ytkbhjpgadhbakaa", sum := "13055da78543c407faba333786e56fcc8cdeb9dd81ccc39ff8efa6695e0d3a0b", func := "rollbook/rollbooklaw01.FieldTexts", spec := "fieldTexts", apart := false, narrowed := true }
def FieldTextsUptoSaid : Prop := fieldTextsUptoRow.holds Try.pinned (OpenSpec.upto fieldTextsSpec)

/-- 'rollbooklaw01.FieldTuples', WHERE WHAT IT READS IS OF BULK AT MOST 1048576: true; the input reads as it did. -/
def fieldTuplesUptoRow : OpenClaim := { program := "ytkbhjpgadhbakaa", sum := "13055da78543c407faba333786e56fcc8cdeb9dd81ccc39ff8efa6695e0d3a0b", func := "rollbook/rollbooklaw01.FieldTuples", spec := "fieldTuples", apart := false, narrowed := true }
def FieldTuplesUptoSaid : Prop := fieldTuplesUptoRow.holds Try.pinned (OpenSpec.upto fieldTuplesSpec)

/-- 'rollbooklaw01.FieldParts', WHERE WHAT IT READS IS OF BULK AT MOST 1048576: true; the input reads as it did. -/
def fieldPartsUptoRow : OpenClaim := { program := "ytkbhjpgadhbakaa", sum := "13055da78543c407faba333786e56fcc8cdeb9dd81ccc39ff8efa6695e0d3a0b", func := "rollbook/rollbooklaw01.FieldParts", spec := "fieldParts", apart := false, narrowed := true }
def FieldPartsUptoSaid : Prop := fieldPartsUptoRow.holds Try.pinned (OpenSpec.upto fieldPartsSpec)

/-- 'rollbooklaw01.FieldOrder', WHERE WHAT IT READS IS OF BULK AT MOST 1048576: true; the input reads as it did. -/
def fieldOrderUptoRow : OpenClaim := { program := "ytkbhjpgadhbakaa", sum := "13055da78543c407faba333786e56fcc8cdeb9dd81ccc39ff8efa6695e0d3a0b", func := "rollbook/rollbooklaw01.FieldOrder", spec := "fieldOrder", apart := false, narrowed := true }
def FieldOrderUptoSaid : Prop := fieldOrderUptoRow.holds Try.pinned (OpenSpec.upto fieldOrderSpec)

/-- 'rollbooklaw01.FieldAfter', WHERE WHAT IT READS IS OF BULK AT MOST 1048576: true; the input reads as it did. -/
def fieldAfterUptoRow : OpenClaim := { program := "ytkbhjpgadhbakaa", sum := "13055da78543c407faba333786e56fcc8cdeb9dd81ccc39ff8efa6695e0d3a0b", func := "rollbook/rollbooklaw01.FieldAfter", spec := "fieldAfter", apart := false, narrowed := true }
def FieldAfterUptoSaid : Prop := fieldAfterUptoRow.holds Try.pinned (OpenSpec.upto fieldAfterSpec)

end Rows
end Go.Proofs.Ytkbhjpgadhbakaa
