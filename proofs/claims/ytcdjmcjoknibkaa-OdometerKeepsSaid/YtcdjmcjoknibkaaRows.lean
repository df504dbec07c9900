/-
  No cell of these rows narrows 'for every input' (looked for: loops, veiled, ifaces, maps, wideKeys, modest, calm, conditions, laid).
  DERIVED. THE GIVEN ROWS OF THIS SEAT. 4 by the template 'for every input the law returns true; each argument reads behind the call as it read before'; 0 by the template 'total and deterministic' (their statements: YtcdjmcjoknibkaaTotals.lean).
  GIVEN WITH THE SEED: the statements are not yours to turn. If you find one false, say at which input.
  Laid BY PROGRAM, IN A SANDBOX (cutbox-rows.mjs): the forced cells as the released guide's own fill.sh prints them over the translation a9e0dca360ccfe74… (all of the seat's roots in one cut). By AI agents, Wed Nov 11 2026. No macro, syntax, notation, axiom, sorry.
-/
import Derived.Test.YtcdjmcjoknibkaaChecked
import GoSem.Claim
import GoSem.ClaimJoined
import GoSem.ClaimMapViews
import Derived.JoinedTies
import Derived.KernelRfl
namespace Go.Proofs.Ytcdjmcjoknibkaa
/- THE CELL 'sum', in the pinned program and in every row, IS THE sha256 OF THE DUMP (.gsa) THAT YtcdjmcjoknibkaaProg.lean LOADS. Nothing in Lean hashes anything: it is a label: what it is worth is what the hold of that sum in a sandbox is worth. -/
noncomputable def Try.pinned : Pinned := { name := "ytcdjmcjoknibkaa", sum := "a9e0dca360ccfe74a77ba6f4ddb0948a746c4d52df4756bc51c577b426c1f34a", checked := Try.checked }
namespace Rows
def none {H : Type} : Left H := { results := [], args := [] }

/-- 'intarsialaw04.OdometerOrders': WHATEVER THE INPUT: true; the input reads as it did. -/
def odometerOrdersSpec : ChangeSpec := { name := "odometerOrders", fn := fun _ => fun
  | [d1, d2, d3] => { results := [.lit (.bool true)], args := [d1, d2, d3] }
  | _ => none }
def odometerOrdersRow : OpenClaim := { program := "ytcdjmcjoknibkaa", sum := "a9e0dca360ccfe74a77ba6f4ddb0948a746c4d52df4756bc51c577b426c1f34a", func := "intarsia/intarsialaw04.OdometerOrders", spec := "odometerOrders", unfollowed := true, recurses := true, apart := false }
def OdometerOrdersSaid : Prop := odometerOrdersRow.holds Try.pinned (OpenSpec.ofChange odometerOrdersSpec)

/-- ITS FALSE NEIGHBOUR: 'it returns false'. Refute it at one input. -/
def odometerOrdersWrong : ChangeSpec := { name := "odometerOrders", fn := fun _ => fun
  | [d1, d2, d3] => { results := [.lit (.bool false)], args := [d1, d2, d3] }
  | _ => none }
def OdometerOrdersWrongFalsely : Prop := odometerOrdersRow.holds Try.pinned (OpenSpec.ofChange odometerOrdersWrong)

/-- 'intarsialaw04.OdometerShapes': WHATEVER THE INPUT: true; the input reads as it did. -/
def odometerShapesSpec : ChangeSpec := { name := "odometerShapes", fn := fun _ => fun
  | [d] => { results := [.lit (.bool true)], args := [d] }
  | _ => none }
def odometerShapesRow : OpenClaim := { program := "ytcdjmcjoknibkaa", sum := "a9e0dca360ccfe74a77ba6f4ddb0948a746c4d52df4756bc51c577b426c1f34a", func := "intarsia/intarsialaw04.OdometerShapes", spec := "odometerShapes", unfollowed := true, recurses := true, apart := false }
def OdometerShapesSaid : Prop := odometerShapesRow.holds Try.pinned (OpenSpec.ofChange odometerShapesSpec)

/-- ITS FALSE NEIGHBOUR: 'it returns false'. Refute it at one input. -/
def odometerShapesWrong : ChangeSpec := { name := "odometerShapes", fn := fun _ => fun
  | [d] => { results := [.lit (.bool false)], args := [d] }
  | _ => none }
def OdometerShapesWrongFalsely : Prop := odometerShapesRow.holds Try.pinned (OpenSpec.ofChange odometerShapesWrong)

/-- 'intarsialaw04.OdometerKeeps': WHATEVER THE INPUT: true; the input reads as it did. -/
def odometerKeepsSpec : ChangeSpec := { name := "odometerKeeps", fn := fun _ => fun
  | [d1, d2] => { results := [.lit (.bool true)], args := [d1, d2] }
  | _ => none }
def odometerKeepsRow : OpenClaim := { program := "ytcdjmcjoknibkaa", sum := "a9e0dca360ccfe74a77ba6f4ddb0948a746c4d52df4756bc51c577b426c1f34a", func := "intarsia/intarsialaw04.OdometerKeeps", spec := "odometerKeeps", unfollowed := true, recurses := true, apart := false }
def OdometerKeepsSaid : Prop := odometerKeepsRow.holds Try.pinned (OpenSpec.ofChange odometerKeepsSpec)

/-- ITS FALSE NEIGHBOUR: 'it returns false'. Refute it at one input. -/
def odometerKeepsWrong : ChangeSpec := { name := "odometerKeeps", fn := fun _ => fun
  | [d1, d2] => { results := [.lit (.bool false)], args := [d1, d2] }
  | _ => none }
def OdometerKeepsWrongFalsely : Prop := odometerKeepsRow.holds Try.pinned (OpenSpec.ofChange odometerKeepsWrong)

/-- 'intarsialaw04.OdometerSplits': WHATEVER THE INPUT: true; the input reads as it did. -/
def odometerSplitsSpec : ChangeSpec := { name := "odometerSplits", fn := fun _ => fun
  | [d1, d2, d3, d4] => { results := [.lit (.bool true)], args := [d1, d2, d3, d4] }
  | _ => none }
def odometerSplitsRow : OpenClaim := { program := "ytcdjmcjoknibkaa", sum := "a9e0dca360ccfe74a77ba6f4ddb0948a746c4d52df4756bc51c577b426c1f34a", func := "intarsia/intarsialaw04.OdometerSplits", spec := "odometerSplits", unfollowed := true, recurses := true, apart := false }
def OdometerSplitsSaid : Prop := odometerSplitsRow.holds Try.pinned (OpenSpec.ofChange odometerSplitsSpec)

/-- ITS FALSE NEIGHBOUR: 'it returns false'. Refute it at one input. -/
def odometerSplitsWrong : ChangeSpec := { name := "odometerSplits", fn := fun _ => fun
  | [d1, d2, d3, d4] => { results := [.lit (.bool false)], args := [d1, d2, d3, d4] }
  | _ => none }
def OdometerSplitsWrongFalsely : Prop := odometerSplitsRow.holds Try.pinned (OpenSpec.ofChange odometerSplitsWrong)

/- THE SECOND FORM. 'bulk': how many values and letters a reading holds, each counted each time it is reached (what is shared counts as often as it is met; a slice's spare places count too). A statement '..UptoSaid' is the law's where the arguments, and the package variables that the reading takes, are together of bulk at most 1048576: NARROWER than '..Said'. Prove '..Said' where nothing that the law and all that it calls make is longer than what came in: it says more and counts as full. Else prove '..UptoSaid'. A law counts once. -/
mutual
def uptoBulk {H : Type} : DataW H → Nat
  | .lit (.string bytes) => bytes.length + 1
  | .lit _ => 1
  | .nil => 1
  | .ptr d => uptoBulk d + 1
  | .slice elems spare => uptoBulkAll elems + uptoBulkAll spare + 1
  | .agg parts => uptoBulkAll parts + 1
  | .iface _ d => uptoBulk d + 1
  | .map entries => uptoBulkEntries entries + 1
  | .held _ => 1
def uptoBulkAll {H : Type} : List (DataW H) → Nat
  | [] => 0
  | d :: r => uptoBulk d + uptoBulkAll r
def uptoBulkEntries {H : Type} : List (Lit × DataW H) → Nat
  | [] => 0
  | x :: r => uptoBulkEntry x + uptoBulkEntries r
def uptoBulkEntry {H : Type} : Lit × DataW H → Nat
  | (.string bytes, d) => bytes.length + uptoBulk d + 1
  | (_, d) => uptoBulk d + 1
 end
def uptoSmall : (H : Type) → List (DataW H) → Bool := fun _ ds => decide (uptoBulkAll ds ≤ 1048576)
def OpenSpec.upto (s : _root_.Go.ChangeSpec) : _root_.Go.OpenSpec := { _root_.Go.OpenSpec.ofChange s with cond := some uptoSmall }

/-- 'intarsialaw04.OdometerOrders', WHERE WHAT IT READS IS OF BULK AT MOST 1048576: true; the input reads as it did. -/
def odometerOrdersUptoRow : OpenClaim := { program := "ytcdjmcjoknibkaa", sum := "a9e0dca360ccfe74a77ba6f4ddb0948a746c4d52df4756bc51c577b426c1f34a", func := "intarsia/intarsialaw04.OdometerOrders", spec := "odometerOrders", unfollowed := true, recurses := true, apart := false, narrowed := true }
def OdometerOrdersUptoSaid : Prop := odometerOrdersUptoRow.holds Try.pinned (OpenSpec.upto odometerOrdersSpec)

/-- 'intarsialaw04.OdometerShapes', WHERE WHAT IT READS IS OF BULK AT MOST 1048576: true; the input reads as it did. -/
def odometerShapesUptoRow : OpenClaim := { program := "ytcdjmcjoknibkaa", sum := "a9e0dca360ccfe74a77ba6f4ddb0948a746c4d52df4756bc51c577b426c1f34a", func := "intarsia/intarsialaw04.OdometerShapes", spec := "odometerShapes", unfollowed := true, recurses := true, apart := false, narrowed := true }
def OdometerShapesUptoSaid : Prop := odometerShapesUptoRow.holds Try.pinned (OpenSpec.upto odometerShapesSpec)

/-- 'intarsialaw04.OdometerKeeps', WHERE WHAT IT READS IS OF BULK AT MOST 1048576: true; the input reads as it did. -/
def odometerKeepsUptoRow : OpenClaim := { program := "ytcdjmcjoknibkaa", sum := "a9e0dca360ccfe74a77ba6f4ddb0948a746c4d52df4756bc51c577b426c1f34a", func := "intarsia/intarsialaw04.OdometerKeeps", spec := "odometerKeeps", unfollowed := true, recurses := true, apart := false, narrowed := true }
def OdometerKeepsUptoSaid : Prop := odometerKeepsUptoRow.holds Try.pinned (OpenSpec.upto odometerKeepsSpec)

/-- 'intarsialaw04.OdometerSplits', WHERE WHAT IT READS IS OF BULK AT MOST 1048576: true; the input reads as it did. -/
def odometerSplitsUptoRow : OpenClaim := { program := "ytcdjmcjoknibkaa", sum := "a9e0dca360ccfe74a77ba6f4ddb0948a746c4d52df4756bc51c577b426c1f34a", func := "intarsia/intarsialaw04.OdometerSplits", spec := "odometerSplits", unfollowed := true, recurses := true, apart := false, narrowed := true }
def OdometerSplitsUptoSaid : Prop := odometerSplitsUptoRow.holds Try.pinned (OpenSpec.upto odometerSplitsSpec)

end Rows
end Go.Proofs.Ytcdjmcjoknibkaa
