/- The reference's Small: whether a shape is right, with few axes and cells. -/
import Derived.Test.YtaegkiangjnmdaaGammaMath
namespace Go.Proofs.Ytaegkiangjnmdaa.sml
open Go.ChangeShapes Go.WideShapes Go.ChangeAt Go.RowKit Go.Proofs.Ytaegkiangjnmdaa.mem Go.Proofs.Ytaegkiangjnmdaa.mul Go.Proofs.Ytaegkiangjnmdaa.prod Go.Proofs.Ytaegkiangjnmdaa.shp Go.Proofs.Ytaegkiangjnmdaa.strd Go.Proofs.Ytaegkiangjnmdaa.gam
set_option linter.unusedVariables false

/-- The dimensions, none of them below 1. -/
def maxL (xs : List Int) : List Int := xs.map fun x => if x < 1 then 1 else x
def smlB (xs : List Int) (most : Int) : Bool := decide (xs.length ≤ 6 ∧ chkE xs = 0 ∧ celN xs ≤ most ∧ prodL (maxL xs) ≤ 100 * most)

theorem maxL_pos {xs : List Int} : ∀ y ∈ maxL xs, 1 ≤ y := by
  intro y hy
  unfold maxL at hy
  obtain ⟨x, _, rfl⟩ := List.mem_map.1 hy
  split <;> omega
theorem maxL_at {xs : List Int} {k : Nat} {x : Int} (h : xs[k]? = some x) : (maxL xs)[k]? = some (if x < 1 then 1 else x) := by
  unfold maxL; rw [List.getElem?_map, h]; rfl
theorem maxL_len (xs : List Int) : (maxL xs).length = xs.length := by simp [maxL]
theorem prodL_append : ∀ (xs ys : List Int), prodL (xs ++ ys) = prodL xs * prodL ys
  | [], ys => by show prodL ys = 1 * prodL ys; omega
  | x :: xs, ys => by
    show prodL (xs ++ ys) * x = prodL xs * x * prodL ys
    rw [prodL_append xs ys, Int.mul_assoc, Int.mul_comm (prodL ys), ← Int.mul_assoc]
theorem prodL_max : ∀ {xs : List Int}, (∀ x ∈ xs, 0 ≤ x) → 0 ≤ prodL xs ∧ prodL xs ≤ prodL (maxL xs)
  | [], _ => by simp [prodL, maxL]
  | x :: xs, h => by
    have ih := prodL_max (xs := xs) fun z hz => h z (by simp [hz])
    have hx := h x (by simp)
    have hp := prodL_pos (maxL_pos (xs := xs))
    show 0 ≤ prodL xs * x ∧ prodL xs * x ≤ prodL (maxL xs) * (if x < 1 then 1 else x)
    refine ⟨Int.mul_nonneg ih.1 hx, ?_⟩
    split
    · have : x = 0 := by omega
      subst this
      omega
    · exact Int.mul_le_mul_of_nonneg_right ih.2 hx
theorem prodL_take_le {xs : List Int} (h : ∀ x ∈ xs, 0 ≤ x) (k : Nat) : 0 ≤ prodL (xs.take k) ∧ prodL (xs.take k) ≤ prodL (maxL xs) := by
  have h1 := prodL_max (xs := xs.take k) fun z hz => h z (List.mem_of_mem_take hz)
  have h2 : prodL (maxL xs) = prodL (maxL (xs.take k)) * prodL (maxL (xs.drop k)) := by
    rw [← prodL_append]
    congr 1
    unfold maxL
    rw [← List.map_append, List.take_append_drop]
  have h3 := prodL_pos (maxL_pos (xs := xs.take k))
  have h4 := prodL_pos (maxL_pos (xs := xs.drop k))
  have h5 := Int.mul_le_mul_of_nonneg_left h4 (by omega : 0 ≤ prodL (maxL (xs.take k)))
  omega
theorem sml_step {xs : List Int} {k : Nat} {x t : Int} (hx : xs[k]? = some x) (h : t * prodL ((maxL xs).drop k) = prodL (maxL xs)) :
    t * (if x < 1 then 1 else x) * prodL ((maxL xs).drop (k + 1)) = prodL (maxL xs) := by
  rw [← h, prodL_step (maxL_at hx), Int.mul_assoc, Int.mul_comm (if x < 1 then 1 else x)]
theorem sml_le {xs : List Int} {k : Nat} {t : Int} (ht : 0 ≤ t) (h : t * prodL ((maxL xs).drop k) = prodL (maxL xs)) : t ≤ prodL (maxL xs) := by
  have h1 := prodL_pos (xs := (maxL xs).drop k) fun z hz => maxL_pos z (List.mem_of_mem_drop hz)
  have h2 := Int.mul_le_mul_of_nonneg_left h1 ht
  omega

end Go.Proofs.Ytaegkiangjnmdaa.sml
