/- The reference's value of digits; its text of a number; its names; its glyphs. -/
import Derived.Test.YtbcnilkenkmabaaLexRef
import Derived.Test.YtbcnilkenkmabaaLexNum
namespace Go.Proofs.Ytbcnilkenkmabaa.lx
open Go.ChangeShapes Go.WideShapes Go.ChangeAt Go.RowKit Go.Proofs.Ytbcnilkenkmabaa.mem Go.Proofs.Ytbcnilkenkmabaa.txt
set_option linter.unusedVariables false

end Go.Proofs.Ytbcnilkenkmabaa.lx
