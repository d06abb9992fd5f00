/-
  No cell of these rows narrows 'for every input' (looked for: loops, veiled, ifaces, maps, wideKeys, modest, calm, conditions, laid).
  DERIVED. THE GIVEN ROWS OF THIS SEAT. 3 by the template 'for every input the law returns true; each argument reads behind the call as it read before'; 0 by the template 'total and deterministic' (their statements: YtmfbjdfekgbamaaTotals.lean).
  GIVEN WITH THE SEED: the statements are not yours to turn. If you find one false, say at which input.
  Laid BY PROGRAM, IN A SANDBOX (cutbox-rows.mjs): the forced cells as the released guide's own fill.sh prints them over the translation cb754979f6814a5a… (all of the seat's roots in one cut). By AI agents, Wed Nov 11 2026. No macro, syntax, notation, axiom, sorry.
-/
import Derived.Test.YtmfbjdfekgbamaaChecked
import GoSem.Claim
import GoSem.ClaimJoined
import GoSem.ClaimMapViews
import Derived.JoinedTies
import Derived.KernelRfl
namespace Go.Proofs.Ytmfbjdfekgbamaa
/- THE CELL 'sum', in the pinned program and in every row, IS THE sha256 OF THE DUMP (.gsa) THAT YtmfbjdfekgbamaaProg.lean LOADS. Nothing in Lean hashes anything: it is a label: what it is worth is what the hold of that sum in a sandbox is worth. -/
noncomputable def Try.pinned : Pinned := { name := "ytmfbjdfekgbamaa", sum := "cb754979f6814a5adb8adcddd56ea0724f429bdfecf6952cb1d288b2379c2ab4", checked := Try.checked }
namespace Rows
def none {H : Type} : Left H := { results := [], args := [] }

/-- 'rollbooklaw07.ReadersPlay': WHATEVER THE INPUT: true; the input reads as it did. -/
def readersPlaySpec : ChangeSpec := { name := "readersPlay", fn := fun _ => fun
  | [d] => { results := [.lit (.bool true)], args := [d] }
  | _ => none }
def readersPlayRow : OpenClaim := { program := "ytmfbjdfekgbamaa", sum := "cb754979f6814a5adb8adcddd56ea0724f429bdfecf6952cb1d288b2379c2ab4", func := "rollbook/rollbooklaw07.ReadersPlay", spec := "readersPlay", recurses := true, apart := false }
def ReadersPlaySaid : Prop := readersPlayRow.holds Try.pinned (OpenSpec.ofChange readersPlaySpec)

/-- ITS FALSE NEIGHBOUR: 'it returns false'. Refute it at one input. -/
def readersPlayWrong : ChangeSpec := { name := "readersPlay", fn := fun _ => fun
  | [d] => { results := [.lit (.bool false)], args := [d] }
  | _ => none }
def ReadersPlayWrongFalsely : Prop := readersPlayRow.holds Try.pinned (OpenSpec.ofChange readersPlayWrong)

/-- 'rollbooklaw07.ReadersGuard': WHATEVER THE INPUT: true; the input reads as it did. -/
def readersGuardSpec : ChangeSpec := { name := "readersGuard", fn := fun _ => fun
  | [d1, d2, d3] => { results := [.lit (.bool true)], args := [d1, d2, d3] }
  | _ => none }
def readersGuardRow : OpenClaim := { program := "ytmfbjdfekgbamaa", sum := "cb754979f6814a5adb8adcddd56ea0724f429bdfecf6952cb1d288b2379c2ab4", func := "rollbook/rollbooklaw07.ReadersGuard", spec := "readersGuard", recurses := true, apart := false }
def ReadersGuardSaid : Prop := readersGuardRow.holds Try.pinned (OpenSpec.ofChange readersGuardSpec)

/-- ITS FALSE NEIGHBOUR: 'it returns false'. Refute it at one input. -/
def readersGuardWrong : ChangeSpec := { name := "readersGuard", fn := fun _ => fun
  | [d1, d2, d3] => { results := [.lit (.bool false)], args := [d1, d2, d3] }
  | _ => none }
def ReadersGuardWrongFalsely : Prop := readersGuardRow.holds Try.pinned (OpenSpec.ofChange readersGuardWrong)

/-- 'rollbooklaw07.ReadersNil': WHATEVER THE INPUT: true; the input reads as it did. -/
def readersNilSpec : ChangeSpec := { name := "readersNil", fn := fun _ => fun
  | [d] => { results := [.lit (.bool true)], args := [d] }
  | _ => none }
def readersNilRow : OpenClaim := { program := "ytmfbjdfekgbamaa", sum := "cb754979f6814a5adb8adcddd56ea0724f429bdfecf6952cb1d288b2379c2ab4", func := "rollbook/rollbooklaw07.ReadersNil", spec := "readersNil", recurses := true, apart := false }
def ReadersNilSaid : Prop := readersNilRow.holds Try.pinned (OpenSpec.ofChange readersNilSpec)

/-- ITS FALSE NEIGHBOUR: 'it returns false'. Refute it at one input. -/
def readersNilWrong : ChangeSpec := { name := "readersNil", fn := fun _ => fun
  | [d] => { results := [.lit (.bool false)], args := [d] }
  | _ => none }
def ReadersNilWrongFalsely : Prop := readersNilRow.holds Try.pinned (OpenSpec.ofChange readersNilWrong)

/- THE SECOND FORM. 'bulk': how many values and letters a reading holds, each counted each time it is reached (what is shared counts as often as it is met; a slice's spare places count too). A statement '..UptoSaid' is the law's where the arguments, and the package variables that the reading takes, are together of bulk at most 1048576: NARROWER than '..Said'. Prove '..Said' where nothing that the law and all that it calls make is longer than what came in: it says more and counts as full. Else prove '..UptoSaid'. A law counts once. -/
mutual
def uptoBulk {H : Type} : DataW H → Nat
  | .lit (.string bytes) => bytes.length + 1
  | .lit _ => 1
  | .nil => 1
  | .ptr d => uptoBulk d + 1
  | .slice elems spare => uptoBulkAll elems + uptoBulkAll spare + 1
  | .agg parts => uptoBulkAll parts + 1
  | .iface _ d => uptoBulk d + 1
  | .map entries => uptoBulkEntries entries + 1
  | .held _ => 1
def uptoBulkAll {H : Type} : List (DataW H) → Nat
  | [] => 0
  | d :: r => uptoBulk d + uptoBulkAll r
def uptoBulkEntries {H : Type} : List (Lit × DataW H) → Nat
  | [] => 0
  | x :: r => uptoBulkEntry x + uptoBulkEntries r
def uptoBulkEntry {H : Type} : Lit × DataW H → Nat
  | (.string bytes, d) => bytes.length + uptoBulk d + 1
  | (_, d) => uptoBulk d + 1
 end
def uptoSmall : (H : Type) → List (DataW H) → Bool := fun _ ds => decide (uptoBulkAll ds ≤ 1048576)
def OpenSpec.upto (s : _root_.Go.ChangeSpec) : _root_.Go.OpenSpec := { _root_.Go.OpenSpec.ofChange s with cond := some uptoSmall }

/-- 'rollbooklaw07.ReadersPlay', WHERE WHAT IT READS IS OF BULK AT MOST 1048576: true; the input reads as it did. -/
def readersPlayUptoRow : OpenClaim := { program := "ytmfbjdfekgbamaa", sum := "cb754979f6814a5adb8adcddd56ea0724f429bdfecf6952cb1d288b2379c2ab4", func := "rollbook/rollbooklaw07.ReadersPlay", spec := "readersPlay", recurses := true, apart := false, narrowed := true }
def ReadersPlayUptoSaid : Prop := readersPlayUptoRow.holds Try.pinned (OpenSpec.upto readersPlaySpec)

/-- 'rollbooklaw07.ReadersGuard', WHERE WHAT IT READS IS OF BULK AT MOST 1048576: true; the input reads as it did. -/
def readersGuardUptoRow : OpenClaim := { program := "ytmfbjdfekgbamaa", sum := "cb754979f6814a5adb8adcddd56ea0724f429bdfecf6952cb1d288b2379c2ab4", func := "rollbook/rollbooklaw07.ReadersGuard", spec := "readersGuard", recurses := true, apart := false, narrowed := true }
def ReadersGuardUptoSaid : Prop := readersGuardUptoRow.holds Try.pinned (OpenSpec.upto readersGuardSpec)

/-- 'rollbooklaw07.ReadersNil', WHERE WHAT IT READS IS OF BULK AT MOST 1048576: true; the input reads as it did. -/
def readersNilUptoRow : OpenClaim := { program := "ytmfbjdfekgbamaa", sum := "cb754979f6814a5adb8adcddd56ea0724f429bdfecf6952cb1d288b2379c2ab4", func := "rollbook/rollbooklaw07.ReadersNil", spec := "readersNil", recurses := true, apart := false, narrowed := true }
def ReadersNilUptoSaid : Prop := readersNilUptoRow.holds Try.pinned (OpenSpec.upto readersNilSpec)

end Rows
end Go.Proofs.Ytmfbjdfekgbamaa
