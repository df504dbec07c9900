/- Words for laws: a world that comes after another one; new slices of integers. -/
import Derived.Test.YthgojbaindejjaaGreatDoorMem
namespace Go.Proofs.YthgojbaindejjaaGreatDoor.mem
open Go.ChangeShapes Go.WideShapes Go.ChangeAt Go.RowKit
set_option linter.unusedVariables false

/-- W comes after W0: what was there is as it was. -/
def Aft (W0 W : World) : Prop := Below W0.heap.size W0 W
theorem Aft.refl (W : World) : Aft W W := Below.refl _ _
theorem Aft.alloc {W0 W : World} (h : Aft W0 W) (o : Obj) : Aft W0 (W.alloc o) := Below.alloc h h.size o
theorem Aft.call {W0 W W' : World} (h : Aft W0 W) (hb : Below W.heap.size W W') : Aft W0 W' := Below.trans h (hb.mono h.size)
theorem Aft.drew {W0 W : World} (h : Aft W0 W) (q : Nat) : Aft W0 (W.drewN q) := ⟨h.os, h.tape, h.output, h.size, h.block⟩
theorem Aft.rd {W0 W : World} {A : Option Addr} {n : Nat} {xs : List Int} (h : Aft W0 W) (hr : Rd W0 A n xs) : Rd W A n xs := hr.below h
theorem rd_new_at {W : World} {t : TypeId} {b : Nat} (xs : List Int) (hb : b = W.heap.size) : Rd (W.alloc (.cells (xs.map (Value.int .i64)).toArray t)) (some ⟨b, 0, none⟩) xs.length xs := by subst hb; exact rd_new W t xs
/-- What a law answers. -/
def Holds (w : World) (e : Ending) (w' : World) : Prop := e = .returned (.bool true) ∧ Below w.heap.size w w'
end Go.Proofs.YthgojbaindejjaaGreatDoor.mem
