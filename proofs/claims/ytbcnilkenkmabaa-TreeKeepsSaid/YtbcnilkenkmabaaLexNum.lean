/- Package lex: the text of a number; the number that a text begins with; its glyph. -/
import Derived.Test.YtbcnilkenkmabaaLexLead
namespace Go.Proofs.Ytbcnilkenkmabaa.lx
open Go.ChangeShapes Go.WideShapes Go.ChangeAt Go.RowKit Go.Proofs.Ytbcnilkenkmabaa.mem Go.Proofs.Ytbcnilkenkmabaa.txt
set_option linter.unusedVariables false


end Go.Proofs.Ytbcnilkenkmabaa.lx
