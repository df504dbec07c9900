/- size.Mul: its contract. -/
import Derived.Test.YtcdjmcjoknibkaaMem
namespace Go.Proofs.Ytcdjmcjoknibkaa.mul
open Go.ChangeShapes Go.WideShapes Go.ChangeAt Go.RowKit
set_option linter.unusedVariables false

def mulN (a b l : Int) : Int := if a < 0 ∨ b < 0 ∨ l < a ∨ l < b ∨ l < a * b then 0 else a * b
def mulB (a b l : Int) : Bool := decide (0 ≤ a ∧ 0 ≤ b ∧ a ≤ l ∧ b ≤ l ∧ a * b ≤ l)


end Go.Proofs.Ytcdjmcjoknibkaa.mul
