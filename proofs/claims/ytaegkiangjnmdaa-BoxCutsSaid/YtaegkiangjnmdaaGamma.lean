/- Contracts of package gamma: Valid, Dot, Offset, Index, and the methods of its layout. -/
import Derived.Test.YtaegkiangjnmdaaGammaMath
import Derived.Deep.QuietTactic
import Derived.BigQuiet
import Derived.RegionTactic
namespace Go.Proofs.Ytaegkiangjnmdaa.gam
open Go.ChangeShapes Go.WideShapes Go.ChangeAt Go.RowKit Go.Proofs.Ytaegkiangjnmdaa.mem Go.Proofs.Ytaegkiangjnmdaa.mul Go.Proofs.Ytaegkiangjnmdaa.prod Go.Proofs.Ytaegkiangjnmdaa.shp Go.Proofs.Ytaegkiangjnmdaa.strd
set_option linter.unusedVariables false

theorem wrap_in {a : Int} (h1 : -9223372036854775808 ≤ a) (h2 : a ≤ 9223372036854775807) : IntKind.i64.wrap a = a := by rw [IntKind.wrap_i64]; omega


/-- What a call answers that only reads and answers a number. -/
def Num (w : World) (r : Int) (e : Ending) (w' : World) : Prop := e = .returned (.int .i64 r) ∧ ∃ q, w' = w.drewN q


/-- What layoutOf answers: the strides, and the shape. -/
def Lays (w : World) (A : Option Addr) (n c : Nat) (us : List Int) (e : Ending) (w' : World) : Prop := ∃ S k, e = .returned (.agg #[.slice S n k, .slice A n c]) ∧ Rd w' S n us ∧ Below w.heap.size w w'

def Pair (w : World) (r : Int) (b : Bool) (e : Ending) (w' : World) : Prop := e = .returned (.tuple #[.int .i64 r, .bool b]) ∧ Below w.heap.size w w'
/-- What a call answers that makes a list, and says whether there is one. -/
def MakesB (w : World) (xs : List Int) (b : Bool) (e : Ending) (w' : World) : Prop := ∃ v, e = .returned (.tuple #[v, .bool b]) ∧ Own w' w.heap.size v xs ∧ Below w.heap.size w w'
theorem MakesB.out {w : World} {xs : List Int} {b : Bool} {e : Ending} {w' : World} (h : MakesB w xs b e w') : ∃ A c, e = .returned (.tuple #[.slice A xs.length c, .bool b]) ∧ Own w' w.heap.size (.slice A xs.length c) xs ∧ Below w.heap.size w w' ∧ xs.length ≤ c ∧ c ≤ maxLen ∧ (A = none → c = 0) := by
  obtain ⟨v, rfl, h1, h2⟩ := h
  obtain ⟨A, c, rfl, h3, h4, h5⟩ := h1.form
  exact ⟨A, c, rfl, h1, h2, h3, h4, h5⟩

end Go.Proofs.Ytaegkiangjnmdaa.gam
