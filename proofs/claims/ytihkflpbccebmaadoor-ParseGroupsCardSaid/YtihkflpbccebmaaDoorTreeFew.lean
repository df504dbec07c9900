/- The reference of package tree: left, Few. -/
import Derived.Test.YtihkflpbccebmaaDoorTreeRef
namespace Go.Proofs.YtihkflpbccebmaaDoor.tr
open Go.ChangeShapes Go.WideShapes Go.ChangeAt Go.RowKit Go.Proofs.YtihkflpbccebmaaDoor.mem
set_option linter.unusedVariables false

theorem leftL_step {l : List Tr} {k : Nat} {T : Tr} (h : l[k]? = some T) {q : Int} (hq : 0 ≤ q) : leftL (l.drop k) q = leftL (l.drop (k + 1)) (leftT T q) := by
  have := sizeL_step h
  unfold leftL leftT
  split <;> split <;> split <;> omega
theorem leftL_neg {l : List Tr} : leftL l (-1) = -1 := by unfold leftL; rw [if_neg (by omega)]
theorem leftL_end {l : List Tr} {k : Nat} (h : l.length ≤ k) {q : Int} (hq : -1 ≤ q) : leftL (l.drop k) q = q := by
  unfold leftL; rw [sizeL_end h]; split <;> omega
theorem left_node (k f a s ns ks) {m : Int} (hm : 0 ≤ m) : leftT (.node k f a s ns ks) m = leftL ks (m - 1) := by
  unfold leftT leftL; rw [size_node]; split <;> split <;> omega
theorem left_low {T : Tr} {q : Int} (hq : 0 ≤ q) : -1 ≤ leftT T q ∧ leftT T q ≤ q := by unfold leftT; split <;> omega


theorem nums_most {w : World} : ∀ {T : Tr} {v : Value}, RdT w T v → numsT T ≤ sizeT T * 17592186044416 := by
  intro T
  induction T using Tr.ind with
  | h k f a s ns ks ih =>
    intro v h
    obtain ⟨A, n, c, B, m, d, h0, h1, h2, h3, h4, h5, h6, h7, h8, h9, h10, h11, h12, h13, h14⟩ := rdT_node.1 h
    have hn : ns.length ≤ 17592186044416 := by rw [h5.1]; omega
    have hk : numsL ks ≤ sizeL ks * 17592186044416 := by
      clear h0 h1 h2 h3 h4 h5 h6 h7 h8 h9 h10 h11 h12 h13 hn h
      generalize 0 = i at h14
      induction ks generalizing i with
      | nil => simp only [numsL]; omega
      | cons T r ihr =>
        obtain ⟨⟨ad, c0, c1, c2, c3, c4, c5, e, hl, q0, q1, q2, q3, q4, q5, hT⟩, hr⟩ := rdL_cons.1 h14
        rw [numsL_cons, sizeL_cons, Nat.add_mul]
        have a1 := ih T (by simp) hT
        have a2 := ihr (fun U hU => ih U (by simp [hU])) _ hr
        omega
    rw [nums_node, size_node, Nat.add_mul]
    omega

/-- Few nodes and numbers, and not deep. -/
def fewT (T : Tr) (most : Int) : Bool := decide (sizeT T ≤ most.toNat) && (decide (deepT T ≤ 150) && decide (numsT T ≤ 10 * most.toNat))
theorem few_in {T : Tr} {most : Int} (h : fewT T most = true) : sizeT T ≤ most.toNat ∧ deepT T ≤ 150 ∧ numsT T ≤ 10 * most.toNat := by
  unfold fewT at h; simpa using h

end Go.Proofs.YtihkflpbccebmaaDoor.tr
