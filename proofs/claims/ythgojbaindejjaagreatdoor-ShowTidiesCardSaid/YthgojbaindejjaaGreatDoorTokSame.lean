/- The laws' tokens as tokens of the reference (back), and the reference's comparison of lists that are the same. -/
import Derived.Test.YthgojbaindejjaaGreatDoorTokRow
import Derived.Deep.QuietTactic
import Derived.BigQuiet
namespace Go.Proofs.YthgojbaindejjaaGreatDoor.lx
open Go.ChangeShapes Go.WideShapes Go.ChangeAt Go.RowKit Go.Proofs.YthgojbaindejjaaGreatDoor.mem Go.Proofs.YthgojbaindejjaaGreatDoor.txt
set_option linter.unusedVariables false

/-- The second and the third cell of a struct, as the walk spells their addresses. -/
theorem cell_snd {w : World} {a : Addr} {k : Nat} {x : Value} (h : w.cell? (a.add (k + 1)) = some x) : w.cell? ⟨(a.add k).block, (a.add k).off + 1, none⟩ = some x := by
  have e : ∀ b : Addr, (⟨b.block, b.off + 1, none⟩ : Addr) = b.add 1 := fun b => by unfold Addr.add; simp
  rw [e, adr_add]; exact h
theorem cell_trd {w : World} {a : Addr} {k : Nat} {x : Value} (h : w.cell? (a.add (k + 2)) = some x) : w.cell? ⟨(a.add k).block, (a.add k).off + 2, none⟩ = some x := by
  have e : ∀ b : Addr, (⟨b.block, b.off + 2, none⟩ : Addr) = b.add 2 := fun b => by unfold Addr.add; simp
  rw [e, adr_add]; exact h
theorem refToken_info : (Tryz.prog.info? 80).map (fun i => (i.zero, i.size, i.bytes)) = some (some (.agg #[.int .i64 0, .string ⟨#[]⟩, .int .i64 0]), 3, 32) := by kernel_rfl
/-- A row of tokens of the reference is made. -/
def MakesK (w : World) (L : List Tk) (e : Ending) (w' : World) : Prop := ∃ P c, e = .returned (.slice P L.length c) ∧ OwnK 80 w' w.heap.size (.slice P L.length c) L ∧ Below w.heap.size w w'
theorem str_self (a : ByteArray) : (a.toList != a.toList) = false := by simp
end Go.Proofs.YthgojbaindejjaaGreatDoor.lx
