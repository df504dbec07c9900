/- shape.Strides and the reference's: the products of the dimensions behind each axis, or zeros. -/
import Derived.Test.YtcdjmcjoknibkaaShape
import Derived.Test.YtcdjmcjoknibkaaMake
namespace Go.Proofs.Ytcdjmcjoknibkaa.strd
open Go.ChangeShapes Go.WideShapes Go.ChangeAt Go.RowKit Go.Proofs.Ytcdjmcjoknibkaa.mem Go.Proofs.Ytcdjmcjoknibkaa.mul Go.Proofs.Ytcdjmcjoknibkaa.prod Go.Proofs.Ytcdjmcjoknibkaa.shp
set_option linter.unusedVariables false

def prodL (xs : List Int) : Int := xs.foldr (fun x s => s * x) 1
def strF (xs : List Int) : List Int := (List.range xs.length).map fun k => prodL (xs.drop (k + 1))
/-- What Strides answers. -/
def strL (xs : List Int) : List Int := if chkE xs = 0 then (if celN xs = 0 then List.replicate xs.length 0 else strF xs) else []

theorem prodL_pos : ∀ {xs : List Int}, (∀ x ∈ xs, 1 ≤ x) → 1 ≤ prodL xs
  | [], _ => by simp [prodL]
  | x :: xs, h => by
    have h1 := prodL_pos (xs := xs) fun y hy => h y (by simp [hy])
    have h2 := h x (by simp)
    show 1 ≤ prodL xs * x
    have := Int.mul_le_mul h1 h2 (by omega) (by omega)
    omega
theorem prodL_drop_le : ∀ {xs : List Int} (k : Nat), (∀ x ∈ xs, 1 ≤ x) → prodL (xs.drop k) ≤ prodL xs
  | [], k, _ => by simp
  | x :: xs, 0, _ => by simp
  | x :: xs, k + 1, h => by
    have h1 := prodL_drop_le (xs := xs) k fun y hy => h y (by simp [hy])
    have h2 := prodL_pos (xs := xs) fun y hy => h y (by simp [hy])
    have h3 := h x (by simp)
    show prodL (xs.drop k) ≤ prodL xs * x
    have := Int.mul_le_mul_of_nonneg_left h3 (by omega : 0 ≤ prodL xs)
    omega
theorem prodL_step {xs : List Int} {k : Nat} {x : Int} (h : xs[k]? = some x) : prodL (xs.drop k) = prodL (xs.drop (k + 1)) * x := by
  obtain ⟨hk, rfl⟩ := List.getElem?_eq_some_iff.1 h
  rw [List.drop_eq_getElem_cons hk]; rfl

theorem prod_fold : ∀ (xs : List Int) (s : Int), 1 ≤ s → s ≤ 65536 → (∀ x ∈ xs, 1 ≤ x ∧ x ≤ 65536) → xs.foldl prodStep s ≤ 65536 → xs.foldl prodStep s = s * prodL xs
  | [], s, _, _, _, _ => by simp [prodL]
  | x :: xs, s, h1, h2, h, hle => by
    have hx := h x (by simp)
    rw [List.foldl_cons] at hle ⊢
    by_cases hm : s * x ≤ 65536
    · have hb := mul_bound h1 hx.1 h2 hx.2
      rw [prod_next h1 hx.1 h2 hx.2 hm] at hle ⊢
      rw [prod_fold xs (s * x) hb.1 hm (fun y hy => h y (by simp [hy])) hle]
      show s * x * prodL xs = s * (prodL xs * x)
      rw [Int.mul_assoc, Int.mul_comm x]
    · have e : prodStep s x = 65537 := by
        unfold prodStep mulB
        rw [if_neg (by omega), if_neg]
        simp; omega
      rw [e, prod_stays xs fun y hy => h y (by simp [hy])] at hle
      omega
/-- A right shape with cells: its dimensions are at least 1, and their product is the number of its cells. -/
theorem right_some {xs : List Int} (h0 : chkE xs = 0) (hc : ¬ celN xs = 0) : (∀ x ∈ xs, 1 ≤ x ∧ x ≤ 65536) ∧ prodL xs = celN xs ∧ celN xs ≤ 65536 := by
  have ha := chk_all h0
  have hl := chk_len h0
  have hr := cel_range xs
  have e : celN xs = totN prodStep 1 xs := by unfold celN; rw [if_pos h0]
  have hp : ∀ x ∈ xs, 1 ≤ x ∧ x ≤ 65536 := by
    intro x hx
    have := ha x hx
    refine ⟨?_, this.2⟩
    rcases Int.lt_or_le 0 x with h | h
    · omega
    · have hx0 : x = 0 := by omega
      subst hx0
      exfalso
      apply hc
      rw [e]
      unfold totN
      rw [prod_zero xs 1 hx ha (by omega)]
      simp
  have hfe : xs.foldl prodStep 1 = totN prodStep 1 xs ∧ xs.foldl prodStep 1 ≤ 65536 := by
    have h2 := hl.2
    unfold totE at h2
    unfold totN
    rw [neg_not fun x hx => (ha x hx).1, big_not fun x hx => (ha x hx).2] at h2 ⊢
    by_cases hb : 65536 < xs.foldl prodStep 1
    · simp [hb] at h2
    · simp [hb]; omega
  refine ⟨hp, ?_, hr.2⟩
  rw [e, ← hfe.1, prod_fold xs 1 (by omega) (by omega) hp hfe.2]
  omega

theorem strF_len (xs : List Int) : (strF xs).length = xs.length := by simp [strF]
theorem strF_at {xs : List Int} {k : Nat} (h : k < xs.length) : (strF xs)[k]? = some (prodL (xs.drop (k + 1))) := by simp [strF, h]
theorem strF_drop {xs : List Int} {k : Nat} (h : k < xs.length) : (strF xs).drop k = prodL (xs.drop (k + 1)) :: (strF xs).drop (k + 1) := by
  rw [List.drop_eq_getElem_cons (by rw [strF_len]; exact h)]
  simp [strF]
theorem set_zero (k : Nat) (y : Int) (t : List Int) : (List.replicate (k + 1) 0 ++ t).set k y = List.replicate k 0 ++ (y :: t) := by
  rw [List.replicate_succ', List.append_assoc, List.set_append_right _ _ (by simp)]
  simp

end Go.Proofs.Ytcdjmcjoknibkaa.strd
