/- shape.Text where the library's table of powers of ten is as the program lays it: every dimension. -/
import Derived.Test.YtbjfflflegbfaaaDoorText
import Derived.Test.YtbjfflflegbfaaaDoorShelfT
import Derived.Lib.AppendIntMem
namespace Go.Proofs.YtbjfflflegbfaaaDoor.txt
open Go.ChangeShapes Go.WideShapes Go.ChangeAt Go.RowKit Go.Proofs.YtbjfflflegbfaaaDoor.mem
set_option linter.unusedVariables false

/-- The table of powers of ten is as the program lays it. -/
def Tab (w : World) : Prop := Lib.TabIs Tryd.prog w "internal/strconv.uint64pow10" .u64 Lib.pow10Tab
theorem Tab.below {w w' : World} (h : Tab w) (hb : Below w.heap.size w w') : Tab w' := by
  unfold Tab Lib.TabIs World.var? at h ⊢
  cases hg : Tryd.prog.globalNamed "internal/strconv.uint64pow10" with
  | none => rw [hg] at h; cases h
  | some g =>
    rw [hg] at h
    simp only [Option.bind_some] at h ⊢
    have hlt : g < w.heap.size := by
      rcases Nat.lt_or_ge g w.heap.size with h1 | h1
      · exact h1
      · rw [Array.getElem?_eq_none h1] at h; cases h
    rw [hb.block g hlt]
    exact h

theorem itoa_any (x : Int) (w : World) (ht : Tab w) (h1 : -9223372036854775808 ≤ x) (h2 : x ≤ 9223372036854775807) : Calls Tryd.prog 26 #[.int .i64 x] w (Digits w x) :=
  (Tryd.strconv_Itoa x h1 h2 w ht).mono fun e w' ⟨he, k, os, hw⟩ => ⟨he, by rw [hw]; exact Lib.below_grow _ w (Nat.le_refl _) k os⟩

theorem text_any (A : Option Addr) (n c : Nat) (xs : List Int) (w : World) (hn : n ≤ 1000000) (hf : Fit xs) (hx : Rd w A n xs) (ht : Tab w) :
    Calls Tryd.prog 16 #[.slice A n c] w fun e w' => e = .returned (.string (strOf (textL xs))) ∧ Below w.heap.size w w' :=
  text_with A n c xs w hn hf hx fun x hx W hW => itoa_any x W (ht.below hW) (hf x hx).1 (hf x hx).2
end Go.Proofs.YtbjfflflegbfaaaDoor.txt
