/- From what the row hands to the walk to the words of these texts. -/
import Derived.Test.YtledmpldchpidaaLaws
namespace Go.Proofs.Ytledmpldchpidaa.fold
open Go.ChangeShapes Go.WideShapes Go.ChangeAt Go.RowKit

theorem rd_of_row {w : World} {a : Option Addr} {len cap : Nat} {zs : List Int}
    (h : (a = none ∧ len = 0 ∧ cap = 0 ∧ zs = []) ∨
      ∃ x, a = some x ∧ len ≤ cap ∧ cap ≤ maxLen ∧ zs.length = cap ∧ (∀ i, i < zs.length → w.cell? (x.add i) = some (.int .i64 (zs.getD i 0))) ∧ ∀ n ∈ zs, (Lit.int .i64 n).wf = true) :
    Rd w a len (zs.take len) ∧ len ≤ maxLen ∧ ∀ x ∈ zs.take len, x ≤ 9223372036854775807 := by
  rcases h with ⟨rfl, rfl, rfl, rfl⟩ | ⟨x, rfl, h1, h2, h3, h4, h5⟩
  · exact ⟨⟨rfl, fun k hk => absurd hk (by omega)⟩, Nat.zero_le _, by simp⟩
  · refine ⟨⟨by rw [List.length_take]; omega, fun k hk => ⟨x, rfl, ?_, ?_⟩⟩, by omega, fun y hy => (Go.bounds_i64 (h5 y (List.mem_of_mem_take hy))).2⟩
    · have := World.block_lt_of_cell? _ _ (h4 k (by omega))
      have e : (x.add k).block = x.block := by unfold Addr.add; split <;> rfl
      rwa [e] at this
    · rw [h4 k (by omega)]
      simp [hk]
end Go.Proofs.Ytledmpldchpidaa.fold
