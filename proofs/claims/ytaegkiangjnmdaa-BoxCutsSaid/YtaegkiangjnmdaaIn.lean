/- What a law is told of a slice of integers that came in. -/
import Derived.Test.YtaegkiangjnmdaaMem
namespace Go.Proofs.Ytaegkiangjnmdaa.mem
open Go.ChangeShapes Go.WideShapes Go.ChangeAt Go.RowKit
set_option linter.unusedVariables false

/-- All numbers of the list fit int. -/
def Fit (xs : List Int) : Prop := ∀ x ∈ xs, -9223372036854775808 ≤ x ∧ x ≤ 9223372036854775807
/-- The slice value reads as the list, and is one that Go can hold. -/
structure In (w : World) (A : Option Addr) (n c : Nat) (xs : List Int) : Prop where
  rd : Rd w A n xs
  le : n ≤ c
  max : c ≤ maxLen
  none_ : A = none → c = 0
  fit : Fit xs
theorem In.len {w : World} {A : Option Addr} {n c : Nat} {xs : List Int} (h : In w A n c xs) : n ≤ maxLen := Nat.le_trans h.le h.max
theorem in_of_row {w : World} {a : Option Addr} {len cap : Nat} {zs : List Int}
    (h : (a = none ∧ len = 0 ∧ cap = 0 ∧ zs = []) ∨
      ∃ x, a = some x ∧ len ≤ cap ∧ cap ≤ maxLen ∧ zs.length = cap ∧ (∀ i, i < zs.length → w.cell? (x.add i) = some (.int .i64 (zs.getD i 0))) ∧ ∀ n ∈ zs, (Lit.int .i64 n).wf = true) :
    In w a len cap (zs.take len) := by
  rcases h with ⟨rfl, rfl, rfl, rfl⟩ | ⟨x, rfl, h1, h2, h3, h4, h5⟩
  · exact ⟨⟨rfl, fun k hk => absurd hk (by omega)⟩, Nat.zero_le _, Nat.zero_le _, fun _ => rfl, fun x hx => by simp at hx⟩
  · refine ⟨⟨by rw [List.length_take]; omega, fun k hk => ⟨x, rfl, ?_, ?_⟩⟩, h1, h2, (fun h => by cases h), fun y hy => Go.bounds_i64 (h5 y (List.mem_of_mem_take hy))⟩
    · have := World.block_lt_of_cell? _ _ (h4 k (by omega))
      have e : (x.add k).block = x.block := by unfold Addr.add; split <;> rfl
      rwa [e] at this
    · rw [h4 k (by omega)]
      simp [hk]
end Go.Proofs.Ytaegkiangjnmdaa.mem
