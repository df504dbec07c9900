/- Words for memory, continued: make([]int, n), and stores into a row of the call's own. -/
import Derived.Test.YtaegkiangjnmdaaMem
namespace Go.Proofs.Ytaegkiangjnmdaa.mem
open Go.ChangeShapes Go.WideShapes Go.ChangeAt Go.RowKit
set_option linter.unusedVariables false

/-- make([]int, n): n zeros. -/
theorem wpList_zeros {w : World} {ops : Array Oper} {rest : List Oper} {o : Oper} {a : Act} {Q : Exit → Act → World → Prop} (hgd : o.guard = none) (l c : Operand) (ho : o.op = Op.makeSlice 22 l c)
    (n : Nat) (hl : a.eval l = .int .i64 (n : Int)) (hc : a.eval c = .int .i64 (n : Int)) (h40 : n ≤ 1099511627776)
    (h : ∀ w', Own w' w.heap.size (.slice (some ⟨w.heap.size, 0, none⟩) n n) (List.replicate n 0) → Below w.heap.size w w' → wpList Try.prog ops Q rest (a.put o.dst (.slice (some ⟨w.heap.size, 0, none⟩) n n)) w') : wpList Try.prog ops Q (o :: rest) a w := by
  obtain ⟨i0, hi0, hz0, hz1, hz2⟩ := info_parts int_info
  refine wpList_make_full w hgd l c 22 ho w.heap.size 3 i0 _ 1 Try.underlying22 hi0 hz0 hz1 .i64 .i64 n n n hl hc rfl rfl (by rw [hz2]; omega) (by unfold maxLen; omega) (Nat.le_refl _) fun w' h1 h2 => h w' ?_ ((Below.refl _ _).grown h2 (Nat.le_refl _) (fun k hk => by cases hk))
  unfold Own
  rw [List.length_replicate, List.map_replicate, ← toList_madeCells_one]
  have e : Value.cells (.int .i64 0) = #[.int .i64 0] := rfl
  rw [e] at h1
  simpa using h1
theorem Own.cellAt {w : World} {B g n c j : Nat} {y : Int} {xs : List Int} (h : Own w B (.slice (some ⟨g, 0, none⟩) n c) xs) (hy : xs[j]? = some y) : w.cell? ⟨g, j, none⟩ = some (.int .i64 y) := by
  have := h.rd.cell_ hy
  rwa [add_at] at this
theorem Own.frozenAt {w : World} {B g n c : Nat} {xs : List Int} (h : Own w B (.slice (some ⟨g, 0, none⟩) n c) xs) (j : Nat) : w.frozen? ⟨g, j, none⟩ = false := by
  obtain ⟨A, c', e, _⟩ := h.form
  injection e with e1 e2 e3
  subst e2
  exact World.ownsRow.frozenAt h j
theorem Own.set_ {w : World} {B g n c : Nat} {xs : List Int} (h : Own w B (.slice (some ⟨g, 0, none⟩) n c) xs) (j : Nat) (y : Int) : Own (w.setCell ⟨g, j, none⟩ (.int .i64 y)) B (.slice (some ⟨g, 0, none⟩) n c) (xs.set j y) := by
  obtain ⟨A, c', e, _⟩ := h.form
  injection e with e1 e2 e3
  subst e2
  have := (World.ownsRow.stored h j (.int .i64 y)).1
  unfold Own
  rw [List.length_set, List.map_set]
  exact this

end Go.Proofs.Ytaegkiangjnmdaa.mem
