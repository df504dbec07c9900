/-
  No cell of these rows narrows 'for every input' (looked for: loops, veiled, ifaces, maps, wideKeys, modest, calm, conditions, laid).
  DERIVED. THE GIVEN ROWS OF THIS SEAT. 5 by the template 'for every input the law returns true; each argument reads behind the call as it read before'; 0 by the template 'total and deterministic' (their statements: YtbadbjcommdjgaaTotals.lean).
  GIVEN WITH THE SEED: the statements are not yours to turn. If you find one false, say at which input.
  Laid BY PROGRAM, IN A SANDBOX (cutbox-rows.mjs): the forced cells as the released guide's own fill.sh prints them over the translation 9112f75c3cd55066… (all of the seat's roots in one cut). By AI agents, Wed Nov 11 2026. No macro, syntax, notation, axiom, sorry.
-/
import Derived.Test.YtbadbjcommdjgaaChecked
import GoSem.Claim
import GoSem.ClaimJoined
import GoSem.ClaimMapViews
import Derived.JoinedTies
import Derived.KernelRfl
namespace Go.Proofs.Ytbadbjcommdjgaa
/- THE CELL 'sum', in the pinned program and in every row, IS THE sha256 OF THE DUMP (.gsa) THAT YtbadbjcommdjgaaProg.lean LOADS. Nothing in Lean hashes anything: it is a label: what it is worth is what the hold of that sum in a sandbox is worth. -/
noncomputable def Try.pinned : Pinned := { name := "ytbadbjcommdjgaa", sum := "9112f75c3cd55066618c9f46d8f973f7db6bad1ed4bdaf59d25df5ac9af0b9e0", checked := Try.checked }
namespace Rows
def none {H : Type} : Left H := { results := [], args := [] }

/-- 'intarsialaw05.ArrayChecks': WHATEVER THE INPUT: true; the input reads as it did. -/
def arrayChecksSpec : ChangeSpec := { name := "arrayChecks", fn := fun _ => fun
  | [d] => { results := [.lit (.bool true)], args := [d] }
  | _ => none }
def arrayChecksRow : OpenClaim := { program := "ytbadbjcommdjgaa", sum := "9112f75c3cd55066618c9f46d8f973f7db6bad1ed4bdaf59d25df5ac9af0b9e0", func := "intarsia/intarsialaw05.ArrayChecks", spec := "arrayChecks", unfollowed := true, recurses := true, apart := false }
def ArrayChecksSaid : Prop := arrayChecksRow.holds Try.pinned (OpenSpec.ofChange arrayChecksSpec)

/-- ITS FALSE NEIGHBOUR: 'it returns false'. Refute it at one input. -/
def arrayChecksWrong : ChangeSpec := { name := "arrayChecks", fn := fun _ => fun
  | [d] => { results := [.lit (.bool false)], args := [d] }
  | _ => none }
def ArrayChecksWrongFalsely : Prop := arrayChecksRow.holds Try.pinned (OpenSpec.ofChange arrayChecksWrong)

/-- 'intarsialaw05.ArrayCells': WHATEVER THE INPUT: true; the input reads as it did. -/
def arrayCellsSpec : ChangeSpec := { name := "arrayCells", fn := fun _ => fun
  | [d1, d2] => { results := [.lit (.bool true)], args := [d1, d2] }
  | _ => none }
def arrayCellsRow : OpenClaim := { program := "ytbadbjcommdjgaa", sum := "9112f75c3cd55066618c9f46d8f973f7db6bad1ed4bdaf59d25df5ac9af0b9e0", func := "intarsia/intarsialaw05.ArrayCells", spec := "arrayCells", unfollowed := true, recurses := true, apart := false }
def ArrayCellsSaid : Prop := arrayCellsRow.holds Try.pinned (OpenSpec.ofChange arrayCellsSpec)

/-- ITS FALSE NEIGHBOUR: 'it returns false'. Refute it at one input. -/
def arrayCellsWrong : ChangeSpec := { name := "arrayCells", fn := fun _ => fun
  | [d1, d2] => { results := [.lit (.bool false)], args := [d1, d2] }
  | _ => none }
def ArrayCellsWrongFalsely : Prop := arrayCellsRow.holds Try.pinned (OpenSpec.ofChange arrayCellsWrong)

/-- 'intarsialaw05.ArrayEquals': WHATEVER THE INPUT: true; the input reads as it did. -/
def arrayEqualsSpec : ChangeSpec := { name := "arrayEquals", fn := fun _ => fun
  | [d1, d2, d3] => { results := [.lit (.bool true)], args := [d1, d2, d3] }
  | _ => none }
def arrayEqualsRow : OpenClaim := { program := "ytbadbjcommdjgaa", sum := "9112f75c3cd55066618c9f46d8f973f7db6bad1ed4bdaf59d25df5ac9af0b9e0", func := "intarsia/intarsialaw05.ArrayEquals", spec := "arrayEquals", unfollowed := true, recurses := true, apart := false }
def ArrayEqualsSaid : Prop := arrayEqualsRow.holds Try.pinned (OpenSpec.ofChange arrayEqualsSpec)

/-- ITS FALSE NEIGHBOUR: 'it returns false'. Refute it at one input. -/
def arrayEqualsWrong : ChangeSpec := { name := "arrayEquals", fn := fun _ => fun
  | [d1, d2, d3] => { results := [.lit (.bool false)], args := [d1, d2, d3] }
  | _ => none }
def ArrayEqualsWrongFalsely : Prop := arrayEqualsRow.holds Try.pinned (OpenSpec.ofChange arrayEqualsWrong)

/-- 'intarsialaw05.ArrayTabulates': WHATEVER THE INPUT: true; the input reads as it did. -/
def arrayTabulatesSpec : ChangeSpec := { name := "arrayTabulates", fn := fun _ => fun
  | [d] => { results := [.lit (.bool true)], args := [d] }
  | _ => none }
def arrayTabulatesRow : OpenClaim := { program := "ytbadbjcommdjgaa", sum := "9112f75c3cd55066618c9f46d8f973f7db6bad1ed4bdaf59d25df5ac9af0b9e0", func := "intarsia/intarsialaw05.ArrayTabulates", spec := "arrayTabulates", unfollowed := true, recurses := true, apart := false }
def ArrayTabulatesSaid : Prop := arrayTabulatesRow.holds Try.pinned (OpenSpec.ofChange arrayTabulatesSpec)

/-- ITS FALSE NEIGHBOUR: 'it returns false'. Refute it at one input. -/
def arrayTabulatesWrong : ChangeSpec := { name := "arrayTabulates", fn := fun _ => fun
  | [d] => { results := [.lit (.bool false)], args := [d] }
  | _ => none }
def ArrayTabulatesWrongFalsely : Prop := arrayTabulatesRow.holds Try.pinned (OpenSpec.ofChange arrayTabulatesWrong)

/-- 'intarsialaw05.ArrayKeeps': WHATEVER THE INPUT: true; the input reads as it did. -/
def arrayKeepsSpec : ChangeSpec := { name := "arrayKeeps", fn := fun _ => fun
  | [d] => { results := [.lit (.bool true)], args := [d] }
  | _ => none }
def arrayKeepsRow : OpenClaim := { program := "ytbadbjcommdjgaa", sum := "9112f75c3cd55066618c9f46d8f973f7db6bad1ed4bdaf59d25df5ac9af0b9e0", func := "intarsia/intarsialaw05.ArrayKeeps", spec := "arrayKeeps", unfollowed := true, recurses := true, apart := false }
def ArrayKeepsSaid : Prop := arrayKeepsRow.holds Try.pinned (OpenSpec.ofChange arrayKeepsSpec)

/-- ITS FALSE NEIGHBOUR: 'it returns false'. Refute it at one input. -/
def arrayKeepsWrong : ChangeSpec := { name := "arrayKeeps", fn := fun _ => fun
  | [d] => { results := [.lit (.bool false)], args := [d] }
  | _ => none }
def ArrayKeepsWrongFalsely : Prop := arrayKeepsRow.holds Try.pinned (OpenSpec.ofChange arrayKeepsWrong)

/- THE SECOND FORM. 'bulk': how many values and letters a reading holds, each counted each time it is reached (what is shared counts as often as it is met; a slice's spare places count too). A statement '..UptoSaid' is the law's where the arguments, and the package variables that the reading takes, are together of bulk at most 1048576: NARROWER than '..Said'. Prove '..Said' where nothing that the law and all that it calls make is longer than what came in: it says more and counts as full. Else prove '..UptoSaid'. A law counts once. -/
mutual
def uptoBulk {H : Type} : DataW H → Nat
  | .lit (.string bytes) => bytes.length + 1
  | .lit _ => 1
  | .nil => 1
  | .ptr d => uptoBulk d + 1
  | .slice elems spare => uptoBulkAll elems + uptoBulkAll spare + 1
  | .agg parts => uptoBulkAll parts + 1
  | .iface _ d => uptoBulk d + 1
  | .map entries => uptoBulkEntries entries + 1
  | .held _ => 1
def uptoBulkAll {H : Type} : List (DataW H) → Nat
  | [] => 0
  | d :: r => uptoBulk d + uptoBulkAll r
def uptoBulkEntries {H : Type} : List (Lit × DataW H) → Nat
  | [] => 0
  | x :: r => uptoBulkEntry x + uptoBulkEntries r
def uptoBulkEntry {H : Type} : Lit × DataW H → Nat
  | (.string bytes, d) => bytes.length + uptoBulk d + 1
  | (_, d) => uptoBulk d + 1
 end
def uptoSmall : (H : Type) → List (DataW H) → Bool := fun _ ds => decide (uptoBulkAll ds ≤ 1048576)
def OpenSpec.upto (s : _root_.Go.ChangeSpec) : _root_.Go.OpenSpec := { _root_.Go.OpenSpec.ofChange s with cond := some uptoSmall }

/-- 'intarsialaw05.ArrayChecks', WHERE WHAT IT READS IS OF BULK AT MOST 1048576: true; the input reads as it did. -/
def arrayChecksUptoRow : OpenClaim := { program := "ytbadbjcommdjgaa", sum := "9112f75c3cd55066618c9f46d8f973f7db6bad1ed4bdaf59d25df5ac9af0b9e0", func := "intarsia/intarsialaw05.ArrayChecks", spec := "arrayChecks", unfollowed := true, recurses := true, apart := false, narrowed := true }
def ArrayChecksUptoSaid : Prop := arrayChecksUptoRow.holds Try.pinned (OpenSpec.upto arrayChecksSpec)

/-- 'intarsialaw05.ArrayCells', WHERE WHAT IT READS IS OF BULK AT MOST 1048576: true; the input reads as it did. -/
def arrayCellsUptoRow : OpenClaim := { program := "ytbadbjcommdjgaa", sum := "9112f75c3cd55066618c9f46d8f973f7db6bad1ed4bdaf59d25df5ac9af0b9e0", func := "intarsia/intarsialaw05.ArrayCells", spec := "arrayCells", unfollowed := true, recurses := true, apart := false, narrowed := true }
def ArrayCellsUptoSaid : Prop := arrayCellsUptoRow.holds Try.pinned (OpenSpec.upto arrayCellsSpec)

/-- 'intarsialaw05.ArrayEquals', WHERE WHAT IT READS IS OF BULK AT MOST 1048576: true; the input reads as it did. -/
def arrayEqualsUptoRow : OpenClaim := { program := "ytbadbjcommdjgaa", sum := "9112f75c3cd55066618c9f46d8f973f7db6bad1ed4bdaf59d25df5ac9af0b9e0", func := "intarsia/intarsialaw05.ArrayEquals", spec := "arrayEquals", unfollowed := true, recurses := true, apart := false, narrowed := true }
def ArrayEqualsUptoSaid : Prop := arrayEqualsUptoRow.holds Try.pinned (OpenSpec.upto arrayEqualsSpec)

/-- 'intarsialaw05.ArrayTabulates', WHERE WHAT IT READS IS OF BULK AT MOST 1048576: true; the input reads as it did. -/
def arrayTabulatesUptoRow : OpenClaim := { program := "ytbadbjcommdjgaa", sum := "9112f75c3cd55066618c9f46d8f973f7db6bad1ed4bdaf59d25df5ac9af0b9e0", func := "intarsia/intarsialaw05.ArrayTabulates", spec := "arrayTabulates", unfollowed := true, recurses := true, apart := false, narrowed := true }
def ArrayTabulatesUptoSaid : Prop := arrayTabulatesUptoRow.holds Try.pinned (OpenSpec.upto arrayTabulatesSpec)

/-- 'intarsialaw05.ArrayKeeps', WHERE WHAT IT READS IS OF BULK AT MOST 1048576: true; the input reads as it did. -/
def arrayKeepsUptoRow : OpenClaim := { program := "ytbadbjcommdjgaa", sum := "9112f75c3cd55066618c9f46d8f973f7db6bad1ed4bdaf59d25df5ac9af0b9e0", func := "intarsia/intarsialaw05.ArrayKeeps", spec := "arrayKeeps", unfollowed := true, recurses := true, apart := false, narrowed := true }
def ArrayKeepsUptoSaid : Prop := arrayKeepsUptoRow.holds Try.pinned (OpenSpec.upto arrayKeepsSpec)

end Rows
end Go.Proofs.Ytbadbjcommdjgaa
