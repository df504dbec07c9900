/-
  No cell of these rows narrows 'for every input' (looked for: loops, veiled, ifaces, maps, wideKeys, modest, calm, conditions, laid).
  DERIVED. THE GIVEN ROWS OF THIS SEAT. 4 by the template 'for every input the law returns true; each argument reads behind the call as it read before'; 0 by the template 'total and deterministic' (their statements: YtaegkiangjnmdaaTotals.lean).
  GIVEN WITH THE SEED: the statements are not yours to turn. If you find one false, say at which input.
  Laid BY PROGRAM, IN A SANDBOX (cutbox-rows.mjs): the forced cells as the released guide's own fill.sh prints them over the translation fa7e7e856398bacc… (all of the seat's roots in one cut). By AI agents, Wed Nov 11 2026. No macro, syntax, notation, axiom, sorry.
-/
import Derived.Test.YtaegkiangjnmdaaChecked
import GoSem.Claim
import GoSem.ClaimJoined
import GoSem.ClaimMapViews
import Derived.JoinedTies
import Derived.KernelRfl
namespace Go.Proofs.Ytaegkiangjnmdaa
/- THE CELL 'sum', in the pinned program and in every row, IS THE sha256 OF THE DUMP (.gsa) THAT YtaegkiangjnmdaaProg.lean LOADS. Nothing in Lean hashes anything: it is a label: what it is worth is what the hold of that sum in a sandbox is worth. -/
noncomputable def Try.pinned : Pinned := { name := "ytaegkiangjnmdaa", sum := "fa7e7e856398bacc9c591c8faa67534c3417e27105e4ffeee4c114a238f52b0a", checked := Try.checked }
namespace Rows
def none {H : Type} : Left H := { results := [], args := [] }

/-- 'intarsialaw06.BoxMatchesReference': WHATEVER THE INPUT: true; the input reads as it did. -/
def boxMatchesReferenceSpec : ChangeSpec := { name := "boxMatchesReference", fn := fun _ => fun
  | [d1, d2, d3] => { results := [.lit (.bool true)], args := [d1, d2, d3] }
  | _ => none }
def boxMatchesReferenceRow : OpenClaim := { program := "ytaegkiangjnmdaa", sum := "fa7e7e856398bacc9c591c8faa67534c3417e27105e4ffeee4c114a238f52b0a", func := "intarsia/intarsialaw06.BoxMatchesReference", spec := "boxMatchesReference", unfollowed := true, recurses := true, apart := false }
def BoxMatchesReferenceSaid : Prop := boxMatchesReferenceRow.holds Try.pinned (OpenSpec.ofChange boxMatchesReferenceSpec)

/-- ITS FALSE NEIGHBOUR: 'it returns false'. Refute it at one input. -/
def boxMatchesReferenceWrong : ChangeSpec := { name := "boxMatchesReference", fn := fun _ => fun
  | [d1, d2, d3] => { results := [.lit (.bool false)], args := [d1, d2, d3] }
  | _ => none }
def BoxMatchesReferenceWrongFalsely : Prop := boxMatchesReferenceRow.holds Try.pinned (OpenSpec.ofChange boxMatchesReferenceWrong)

/-- 'intarsialaw06.BoxCuts': WHATEVER THE INPUT: true; the input reads as it did. -/
def boxCutsSpec : ChangeSpec := { name := "boxCuts", fn := fun _ => fun
  | [d1, d2] => { results := [.lit (.bool true)], args := [d1, d2] }
  | _ => none }
def boxCutsRow : OpenClaim := { program := "ytaegkiangjnmdaa", sum := "fa7e7e856398bacc9c591c8faa67534c3417e27105e4ffeee4c114a238f52b0a", func := "intarsia/intarsialaw06.BoxCuts", spec := "boxCuts", unfollowed := true, recurses := true, apart := false }
def BoxCutsSaid : Prop := boxCutsRow.holds Try.pinned (OpenSpec.ofChange boxCutsSpec)

/-- ITS FALSE NEIGHBOUR: 'it returns false'. Refute it at one input. -/
def boxCutsWrong : ChangeSpec := { name := "boxCuts", fn := fun _ => fun
  | [d1, d2] => { results := [.lit (.bool false)], args := [d1, d2] }
  | _ => none }
def BoxCutsWrongFalsely : Prop := boxCutsRow.holds Try.pinned (OpenSpec.ofChange boxCutsWrong)

/-- 'intarsialaw06.BoxShifts': WHATEVER THE INPUT: true; the input reads as it did. -/
def boxShiftsSpec : ChangeSpec := { name := "boxShifts", fn := fun _ => fun
  | [d1, d2, d3] => { results := [.lit (.bool true)], args := [d1, d2, d3] }
  | _ => none }
def boxShiftsRow : OpenClaim := { program := "ytaegkiangjnmdaa", sum := "fa7e7e856398bacc9c591c8faa67534c3417e27105e4ffeee4c114a238f52b0a", func := "intarsia/intarsialaw06.BoxShifts", spec := "boxShifts", unfollowed := true, recurses := true, apart := false }
def BoxShiftsSaid : Prop := boxShiftsRow.holds Try.pinned (OpenSpec.ofChange boxShiftsSpec)

/-- ITS FALSE NEIGHBOUR: 'it returns false'. Refute it at one input. -/
def boxShiftsWrong : ChangeSpec := { name := "boxShifts", fn := fun _ => fun
  | [d1, d2, d3] => { results := [.lit (.bool false)], args := [d1, d2, d3] }
  | _ => none }
def BoxShiftsWrongFalsely : Prop := boxShiftsRow.holds Try.pinned (OpenSpec.ofChange boxShiftsWrong)

/-- 'intarsialaw06.BoxMeets': WHATEVER THE INPUT: true; the input reads as it did. -/
def boxMeetsSpec : ChangeSpec := { name := "boxMeets", fn := fun _ => fun
  | [d1, d2, d3] => { results := [.lit (.bool true)], args := [d1, d2, d3] }
  | _ => none }
def boxMeetsRow : OpenClaim := { program := "ytaegkiangjnmdaa", sum := "fa7e7e856398bacc9c591c8faa67534c3417e27105e4ffeee4c114a238f52b0a", func := "intarsia/intarsialaw06.BoxMeets", spec := "boxMeets", unfollowed := true, recurses := true, apart := false }
def BoxMeetsSaid : Prop := boxMeetsRow.holds Try.pinned (OpenSpec.ofChange boxMeetsSpec)

/-- ITS FALSE NEIGHBOUR: 'it returns false'. Refute it at one input. -/
def boxMeetsWrong : ChangeSpec := { name := "boxMeets", fn := fun _ => fun
  | [d1, d2, d3] => { results := [.lit (.bool false)], args := [d1, d2, d3] }
  | _ => none }
def BoxMeetsWrongFalsely : Prop := boxMeetsRow.holds Try.pinned (OpenSpec.ofChange boxMeetsWrong)

/- THE SECOND FORM. 'bulk': how many values and letters a reading holds, each counted each time it is reached (what is shared counts as often as it is met; a slice's spare places count too). A statement '..UptoSaid' is the law's where the arguments, and the package variables that the reading takes, are together of bulk at most 1048576: NARROWER than '..Said'. Prove '..Said' where nothing that the law and all that it calls make is longer than what came in: it says more and counts as full. Else prove '..UptoSaid'. A law counts once. -/
mutual
def uptoBulk {H : Type} : DataW H → Nat
  | .lit (.string bytes) => bytes.length + 1
  | .lit _ => 1
  | .nil => 1
  | .ptr d => uptoBulk d + 1
  | .slice elems spare => uptoBulkAll elems + uptoBulkAll spare + 1
  | .agg parts => uptoBulkAll parts + 1
  | .iface _ d => uptoBulk d + 1
  | .map entries => uptoBulkEntries entries + 1
  | .held _ => 1
def uptoBulkAll {H : Type} : List (DataW H) → Nat
  | [] => 0
  | d :: r => uptoBulk d + uptoBulkAll r
def uptoBulkEntries {H : Type} : List (Lit × DataW H) → Nat
  | [] => 0
  | x :: r => uptoBulkEntry x + uptoBulkEntries r
def uptoBulkEntry {H : Type} : Lit × DataW H → Nat
  | (.string bytes, d) => bytes.length + uptoBulk d + 1
  | (_, d) => uptoBulk d + 1
 end
def uptoSmall : (H : Type) → List (DataW H) → Bool := fun _ ds => decide (uptoBulkAll ds ≤ 1048576)
def OpenSpec.upto (s : _root_.Go.ChangeSpec) : _root_.Go.OpenSpec := { _root_.Go.OpenSpec.ofChange s with cond := some uptoSmall }

/-- 'intarsialaw06.BoxMatchesReference', WHERE WHAT IT READS IS OF BULK AT MOST 1048576: true; the input reads as it did. -/
def boxMatchesReferenceUptoRow : OpenClaim := { program := "ytaegkiangjnmdaa", sum := "fa7e7e856398bacc9c591c8faa67534c3417e27105e4ffeee4c114a238f52b0a", func := "intarsia/intarsialaw06.BoxMatchesReference", spec := "boxMatchesReference", unfollowed := true, recurses := true, apart := false, narrowed := true }
def BoxMatchesReferenceUptoSaid : Prop := boxMatchesReferenceUptoRow.holds Try.pinned (OpenSpec.upto boxMatchesReferenceSpec)

/-- 'intarsialaw06.BoxCuts', WHERE WHAT IT READS IS OF BULK AT MOST 1048576: true; the input reads as it did. -/
def boxCutsUptoRow : OpenClaim := { program := "ytaegkiangjnmdaa", sum := "fa7e7e856398bacc9c591c8faa67534c3417e27105e4ffeee4c114a238f52b0a", func := "intarsia/intarsialaw06.BoxCuts", spec := "boxCuts", unfollowed := true, recurses := true, apart := false, narrowed := true }
def BoxCutsUptoSaid : Prop := boxCutsUptoRow.holds Try.pinned (OpenSpec.upto boxCutsSpec)

/-- 'intarsialaw06.BoxShifts', WHERE WHAT IT READS IS OF BULK AT MOST 1048576: true; the input reads as it did. -/
def boxShiftsUptoRow : OpenClaim := { program := "ytaegkiangjnmdaa", sum := "fa7e7e856398bacc9c591c8faa67534c3417e27105e4ffeee4c114a238f52b0a", func := "intarsia/intarsialaw06.BoxShifts", spec := "boxShifts", unfollowed := true, recurses := true, apart := false, narrowed := true }
def BoxShiftsUptoSaid : Prop := boxShiftsUptoRow.holds Try.pinned (OpenSpec.upto boxShiftsSpec)

/-- 'intarsialaw06.BoxMeets', WHERE WHAT IT READS IS OF BULK AT MOST 1048576: true; the input reads as it did. -/
def boxMeetsUptoRow : OpenClaim := { program := "ytaegkiangjnmdaa", sum := "fa7e7e856398bacc9c591c8faa67534c3417e27105e4ffeee4c114a238f52b0a", func := "intarsia/intarsialaw06.BoxMeets", spec := "boxMeets", unfollowed := true, recurses := true, apart := false, narrowed := true }
def BoxMeetsUptoSaid : Prop := boxMeetsUptoRow.holds Try.pinned (OpenSpec.upto boxMeetsSpec)

end Rows
end Go.Proofs.Ytaegkiangjnmdaa
