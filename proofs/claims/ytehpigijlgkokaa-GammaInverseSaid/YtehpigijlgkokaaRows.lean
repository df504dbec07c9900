/-
  No cell of these rows narrows 'for every input' (looked for: loops, veiled, ifaces, maps, wideKeys, modest, calm, conditions, laid).
  DERIVED. THE GIVEN ROWS OF THIS SEAT. 5 by the template 'for every input the law returns true; each argument reads behind the call as it read before'; 0 by the template 'total and deterministic' (their statements: YtehpigijlgkokaaTotals.lean).
  GIVEN WITH THE SEED: the statements are not yours to turn. If you find one false, say at which input.
  Laid BY PROGRAM, IN A SANDBOX (cutbox-rows.mjs): the forced cells as the released guide's own fill.sh prints them over the translation a9065e34f33b5896… (all of the seat's roots in one cut). By AI agents, Wed Nov 11 2026. No macro, syntax, notation, axiom, sorry.
-/
import Derived.Test.YtehpigijlgkokaaChecked
import GoSem.Claim
import GoSem.ClaimJoined
import GoSem.ClaimMapViews
import Derived.JoinedTies
import Derived.KernelRfl
namespace Go.Proofs.Ytehpigijlgkokaa
/- THE CELL 'sum', in the pinned program and in every row, IS THE sha256 OF THE DUMP (.gsa) THAT YtehpigijlgkokaaProg.lean LOADS. Nothing in Lean hashes anything: it is a label: what it is worth is what the hold of that sum in a sandbox is worth. -/
noncomputable def Try.pinned : Pinned := { name := "ytehpigijlgkokaa", sum := "a9065e34f33b5896200f3e21a973666e34db198849ec745200e035699757a6d5", checked := Try.checked }
namespace Rows
def none {H : Type} : Left H := { results := [], args := [] }

/-- 'intarsialaw03.GammaMatchesReference': WHATEVER THE INPUT: true; the input reads as it did. -/
def gammaMatchesReferenceSpec : ChangeSpec := { name := "gammaMatchesReference", fn := fun _ => fun
  | [d1, d2, d3] => { results := [.lit (.bool true)], args := [d1, d2, d3] }
  | _ => none }
def gammaMatchesReferenceRow : OpenClaim := { program := "ytehpigijlgkokaa", sum := "a9065e34f33b5896200f3e21a973666e34db198849ec745200e035699757a6d5", func := "intarsia/intarsialaw03.GammaMatchesReference", spec := "gammaMatchesReference", unfollowed := true, recurses := true, apart := false }
def GammaMatchesReferenceSaid : Prop := gammaMatchesReferenceRow.holds Try.pinned (OpenSpec.ofChange gammaMatchesReferenceSpec)

/-- ITS FALSE NEIGHBOUR: 'it returns false'. Refute it at one input. -/
def gammaMatchesReferenceWrong : ChangeSpec := { name := "gammaMatchesReference", fn := fun _ => fun
  | [d1, d2, d3] => { results := [.lit (.bool false)], args := [d1, d2, d3] }
  | _ => none }
def GammaMatchesReferenceWrongFalsely : Prop := gammaMatchesReferenceRow.holds Try.pinned (OpenSpec.ofChange gammaMatchesReferenceWrong)

/-- 'intarsialaw03.GammaInverse': WHATEVER THE INPUT: true; the input reads as it did. -/
def gammaInverseSpec : ChangeSpec := { name := "gammaInverse", fn := fun _ => fun
  | [d] => { results := [.lit (.bool true)], args := [d] }
  | _ => none }
def gammaInverseRow : OpenClaim := { program := "ytehpigijlgkokaa", sum := "a9065e34f33b5896200f3e21a973666e34db198849ec745200e035699757a6d5", func := "intarsia/intarsialaw03.GammaInverse", spec := "gammaInverse", unfollowed := true, recurses := true, apart := false }
def GammaInverseSaid : Prop := gammaInverseRow.holds Try.pinned (OpenSpec.ofChange gammaInverseSpec)

/-- ITS FALSE NEIGHBOUR: 'it returns false'. Refute it at one input. -/
def gammaInverseWrong : ChangeSpec := { name := "gammaInverse", fn := fun _ => fun
  | [d] => { results := [.lit (.bool false)], args := [d] }
  | _ => none }
def GammaInverseWrongFalsely : Prop := gammaInverseRow.holds Try.pinned (OpenSpec.ofChange gammaInverseWrong)

/-- 'intarsialaw03.GammaDots': WHATEVER THE INPUT: true; the input reads as it did. -/
def gammaDotsSpec : ChangeSpec := { name := "gammaDots", fn := fun _ => fun
  | [d1, d2, d3, d4] => { results := [.lit (.bool true)], args := [d1, d2, d3, d4] }
  | _ => none }
def gammaDotsRow : OpenClaim := { program := "ytehpigijlgkokaa", sum := "a9065e34f33b5896200f3e21a973666e34db198849ec745200e035699757a6d5", func := "intarsia/intarsialaw03.GammaDots", spec := "gammaDots", unfollowed := true, recurses := true, apart := false }
def GammaDotsSaid : Prop := gammaDotsRow.holds Try.pinned (OpenSpec.ofChange gammaDotsSpec)

/-- ITS FALSE NEIGHBOUR: 'it returns false'. Refute it at one input. -/
def gammaDotsWrong : ChangeSpec := { name := "gammaDots", fn := fun _ => fun
  | [d1, d2, d3, d4] => { results := [.lit (.bool false)], args := [d1, d2, d3, d4] }
  | _ => none }
def GammaDotsWrongFalsely : Prop := gammaDotsRow.holds Try.pinned (OpenSpec.ofChange gammaDotsWrong)

/-- 'intarsialaw03.GammaReshapes': WHATEVER THE INPUT: true; the input reads as it did. -/
def gammaReshapesSpec : ChangeSpec := { name := "gammaReshapes", fn := fun _ => fun
  | [d1, d2, d3] => { results := [.lit (.bool true)], args := [d1, d2, d3] }
  | _ => none }
def gammaReshapesRow : OpenClaim := { program := "ytehpigijlgkokaa", sum := "a9065e34f33b5896200f3e21a973666e34db198849ec745200e035699757a6d5", func := "intarsia/intarsialaw03.GammaReshapes", spec := "gammaReshapes", unfollowed := true, recurses := true, apart := false }
def GammaReshapesSaid : Prop := gammaReshapesRow.holds Try.pinned (OpenSpec.ofChange gammaReshapesSpec)

/-- ITS FALSE NEIGHBOUR: 'it returns false'. Refute it at one input. -/
def gammaReshapesWrong : ChangeSpec := { name := "gammaReshapes", fn := fun _ => fun
  | [d1, d2, d3] => { results := [.lit (.bool false)], args := [d1, d2, d3] }
  | _ => none }
def GammaReshapesWrongFalsely : Prop := gammaReshapesRow.holds Try.pinned (OpenSpec.ofChange gammaReshapesWrong)

/-- 'intarsialaw03.GammaOrders': WHATEVER THE INPUT: true; the input reads as it did. -/
def gammaOrdersSpec : ChangeSpec := { name := "gammaOrders", fn := fun _ => fun
  | [d1, d2, d3] => { results := [.lit (.bool true)], args := [d1, d2, d3] }
  | _ => none }
def gammaOrdersRow : OpenClaim := { program := "ytehpigijlgkokaa", sum := "a9065e34f33b5896200f3e21a973666e34db198849ec745200e035699757a6d5", func := "intarsia/intarsialaw03.GammaOrders", spec := "gammaOrders", unfollowed := true, recurses := true, apart := false }
def GammaOrdersSaid : Prop := gammaOrdersRow.holds Try.pinned (OpenSpec.ofChange gammaOrdersSpec)

/-- ITS FALSE NEIGHBOUR: 'it returns false'. Refute it at one input. -/
def gammaOrdersWrong : ChangeSpec := { name := "gammaOrders", fn := fun _ => fun
  | [d1, d2, d3] => { results := [.lit (.bool false)], args := [d1, d2, d3] }
  | _ => none }
def GammaOrdersWrongFalsely : Prop := gammaOrdersRow.holds Try.pinned (OpenSpec.ofChange gammaOrdersWrong)

/- THE SECOND FORM. 'bulk': how many values and letters a reading holds, each counted each time it is reached (what is shared counts as often as it is met; a slice's spare places count too). A statement '..UptoSaid' is the law's where the arguments, and the package variables that the reading takes, are together of bulk at most 1048576: NARROWER than '..Said'. Prove '..Said' where nothing that the law and all that it calls make is longer than what came in: it says more and counts as full. Else prove '..UptoSaid'. A law counts once. -/
mutual
def uptoBulk {H : Type} : DataW H → Nat
  | .lit (.string bytes) => bytes.length + 1
  | .lit _ => 1
  | .nil => 1
  | .ptr d => uptoBulk d + 1
  | .slice elems spare => uptoBulkAll elems + uptoBulkAll spare + 1
  | .agg parts => uptoBulkAll parts + 1
  | .iface _ d => uptoBulk d + 1
  | .map entries => uptoBulkEntries entries + 1
  | .held _ => 1
def uptoBulkAll {H : Type} : List (DataW H) → Nat
  | [] => 0
  | d :: r => uptoBulk d + uptoBulkAll r
def uptoBulkEntries {H : Type} : List (Lit × DataW H) → Nat
  | [] => 0
  | x :: r => uptoBulkEntry x + uptoBulkEntries r
def uptoBulkEntry {H : Type} : Lit × DataW H → Nat
  | (.string bytes, d) => bytes.length + uptoBulk d + 1
  | (_, d) => uptoBulk d + 1
 end
def uptoSmall : (H : Type) → List (DataW H) → Bool := fun _ ds => decide (uptoBulkAll ds ≤ 1048576)
def OpenSpec.upto (s : _root_.Go.ChangeSpec) : _root_.Go.OpenSpec := { _root_.Go.OpenSpec.ofChange s with cond := some uptoSmall }

/-- 'intarsialaw03.GammaMatchesReference', WHERE WHAT IT READS IS OF BULK AT MOST 1048576: true; the input reads as it did. -/
def gammaMatchesReferenceUptoRow : OpenClaim := { program := "ytehpigijlgkokaa", sum := "a9065e34f33b5896200f3e21a973666e34db198849ec745200e035699757a6d5", func := "intarsia/intarsialaw03.GammaMatchesReference", spec := "gammaMatchesReference", unfollowed := true, recurses := true, apart := false, narrowed := true }
def GammaMatchesReferenceUptoSaid : Prop := gammaMatchesReferenceUptoRow.holds Try.pinned (OpenSpec.upto gammaMatchesReferenceSpec)

/-- 'intarsialaw03.GammaInverse', WHERE WHAT IT READS IS OF BULK AT MOST 1048576: true; the input reads as it did. -/
def gammaInverseUptoRow : OpenClaim := { program := "ytehpigijlgkokaa", sum := "a9065e34f33b5896200f3e21a973666e34db198849ec745200e035699757a6d5", func := "intarsia/intarsialaw03.GammaInverse", spec := "gammaInverse", unfollowed := true, recurses := true, apart := false, narrowed := true }
def GammaInverseUptoSaid : Prop := gammaInverseUptoRow.holds Try.pinned (OpenSpec.upto gammaInverseSpec)

/-- 'intarsialaw03.GammaDots', WHERE WHAT IT READS IS OF BULK AT MOST 1048576: true; the input reads as it did. -/
def gammaDotsUptoRow : OpenClaim := { program := "ytehpigijlgkokaa", sum := "a9065e34f33b5896200f3e21a973666e34db198849ec745200e035699757a6d5", func := "intarsia/intarsialaw03.GammaDots", spec := "gammaDots", unfollowed := true, recurses := true, apart := false, narrowed := true }
def GammaDotsUptoSaid : Prop := gammaDotsUptoRow.holds Try.pinned (OpenSpec.upto gammaDotsSpec)

/-- 'intarsialaw03.GammaReshapes', WHERE WHAT IT READS IS OF BULK AT MOST 1048576: true; the input reads as it did. -/
def gammaReshapesUptoRow : OpenClaim := { program := "ytehpigijlgkokaa", sum := "a9065e34f33b5896200f3e21a973666e34db198849ec745200e035699757a6d5", func := "intarsia/intarsialaw03.GammaReshapes", spec := "gammaReshapes", unfollowed := true, recurses := true, apart := false, narrowed := true }
def GammaReshapesUptoSaid : Prop := gammaReshapesUptoRow.holds Try.pinned (OpenSpec.upto gammaReshapesSpec)

/-- 'intarsialaw03.GammaOrders', WHERE WHAT IT READS IS OF BULK AT MOST 1048576: true; the input reads as it did. -/
def gammaOrdersUptoRow : OpenClaim := { program := "ytehpigijlgkokaa", sum := "a9065e34f33b5896200f3e21a973666e34db198849ec745200e035699757a6d5", func := "intarsia/intarsialaw03.GammaOrders", spec := "gammaOrders", unfollowed := true, recurses := true, apart := false, narrowed := true }
def GammaOrdersUptoSaid : Prop := gammaOrdersUptoRow.holds Try.pinned (OpenSpec.upto gammaOrdersSpec)

end Rows
end Go.Proofs.Ytehpigijlgkokaa
