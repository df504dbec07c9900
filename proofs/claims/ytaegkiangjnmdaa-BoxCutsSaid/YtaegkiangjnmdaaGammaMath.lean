/- Row-major order: indices of a shape, their offsets, and back (plain mathematics). -/
import Derived.Test.YtaegkiangjnmdaaStrides
namespace Go.Proofs.Ytaegkiangjnmdaa.gam
open Go.Proofs.Ytaegkiangjnmdaa.mem Go.Proofs.Ytaegkiangjnmdaa.prod Go.Proofs.Ytaegkiangjnmdaa.shp Go.Proofs.Ytaegkiangjnmdaa.strd
set_option linter.unusedVariables false

/-- Whether a list is an index of a shape. -/
def vldB : List Int → List Int → Bool
  | [], [] => true
  | x :: xs, y :: ys => decide (0 ≤ y ∧ y < x) && vldB xs ys
  | _, _ => false
/-- The offset of an index. -/
def offL : List Int → List Int → Int
  | _ :: xs, y :: ys => y * prodL xs + offL xs ys
  | _, _ => 0
/-- The index with an offset. -/
def idxL : List Int → Int → List Int
  | [], _ => []
  | _ :: xs, o => o / prodL xs :: idxL xs (o % prodL xs)
/-- The sum of the products. -/
def dotL : List Int → List Int → Int
  | a :: us, b :: vs => a * b + dotL us vs
  | _, _ => 0
def offN (xs ys : List Int) : Int := if vldB xs ys = true then offL xs ys else 0
def inB (xs : List Int) (o : Int) : Bool := decide (0 ≤ o ∧ o < celN xs)
def idxN (xs : List Int) (o : Int) : List Int := if inB xs o = true then idxL xs o else []

theorem drop_at {α : Type} {l : List α} {k : Nat} {x : α} (h : l[k]? = some x) : l.drop k = x :: l.drop (k + 1) := by
  obtain ⟨hk, rfl⟩ := List.getElem?_eq_some_iff.1 h
  exact List.drop_eq_getElem_cons hk
theorem prodL_cons (x : Int) (xs : List Int) : prodL (x :: xs) = prodL xs * x := rfl
theorem strF_cons (x : Int) (xs : List Int) : strF (x :: xs) = prodL xs :: strF xs := by
  unfold strF
  rw [List.length_cons, List.range_succ_eq_map, List.map_cons, List.map_map]
  rfl

theorem vld_len : ∀ {xs ys : List Int}, vldB xs ys = true → xs.length = ys.length
  | [], [], _ => rfl
  | x :: xs, y :: ys, h => by
    simp only [vldB, Bool.and_eq_true] at h
    simp [vld_len h.2]
  | [], _ :: _, h => by simp [vldB] at h
  | _ :: _, [], h => by simp [vldB] at h
theorem vld_ne {xs ys : List Int} (h : xs.length ≠ ys.length) : vldB xs ys = false := by
  cases hv : vldB xs ys
  · rfl
  · exact absurd (vld_len hv) h
theorem vld_step {xs ys : List Int} {k : Nat} {x y : Int} (hx : xs[k]? = some x) (hy : ys[k]? = some y) :
    vldB (xs.drop k) (ys.drop k) = (decide (0 ≤ y ∧ y < x) && vldB (xs.drop (k + 1)) (ys.drop (k + 1))) := by
  rw [drop_at hx, drop_at hy]; rfl
theorem vld_end {xs ys : List Int} {k n : Nat} (hx : xs.length = n) (hy : ys.length = n) (hk : ¬ k < n) : vldB (xs.drop k) (ys.drop k) = true := by
  rw [List.drop_of_length_le (by omega), List.drop_of_length_le (by omega)]; rfl
theorem vld_ones : ∀ {xs ys : List Int}, vldB xs ys = true → ∀ x ∈ xs, 1 ≤ x
  | [], [], _, x, hx => by simp at hx
  | x :: xs, y :: ys, h, z, hz => by
    simp only [vldB, Bool.and_eq_true, decide_eq_true_eq] at h
    rcases List.mem_cons.1 hz with rfl | hz
    · omega
    · exact vld_ones h.2 z hz
  | [], _ :: _, h, _, _ => by simp [vldB] at h
  | _ :: _, [], h, _, _ => by simp [vldB] at h
theorem vld_le : ∀ {xs ys : List Int}, vldB xs ys = true → (∀ x ∈ xs, x ≤ 65536) → ∀ y ∈ ys, 0 ≤ y ∧ y < 65536
  | [], [], _, _, x, hx => by simp at hx
  | x :: xs, y :: ys, h, hle, z, hz => by
    simp only [vldB, Bool.and_eq_true, decide_eq_true_eq] at h
    rcases List.mem_cons.1 hz with rfl | hz
    · have := hle x (by simp)
      omega
    · exact vld_le h.2 (fun u hu => hle u (by simp [hu])) z hz
  | [], _ :: _, h, _, _, _ => by simp [vldB] at h
  | _ :: _, [], h, _, _, _ => by simp [vldB] at h

/-- A right shape whose dimensions are all at least 1: their product is the number of its cells. -/
theorem right_ones {xs : List Int} (h0 : chkE xs = 0) (hp : ∀ x ∈ xs, 1 ≤ x) : celN xs = prodL xs ∧ prodL xs ≤ 65536 ∧ 1 ≤ prodL xs := by
  have ha := chk_all h0
  have hl := chk_len h0
  have e : celN xs = totN prodStep 1 xs := by unfold celN; rw [if_pos h0]
  have hfe : xs.foldl prodStep 1 = totN prodStep 1 xs ∧ xs.foldl prodStep 1 ≤ 65536 := by
    have h2 := hl.2
    unfold totE at h2
    unfold totN
    rw [neg_not fun x hx => (ha x hx).1, big_not fun x hx => (ha x hx).2] at h2 ⊢
    by_cases hb : 65536 < xs.foldl prodStep 1
    · simp [hb] at h2
    · simp [hb]; omega
  have hf := prod_fold xs 1 (by omega) (by omega) (fun x hx => ⟨hp x hx, (ha x hx).2⟩) hfe.2
  have h1 := prodL_pos hp
  rw [e]
  refine ⟨by rw [← hfe.1, hf]; omega, by rw [hf] at hfe; omega, h1⟩
theorem str_some {xs : List Int} (h0 : chkE xs = 0) (hp : ∀ x ∈ xs, 1 ≤ x) : strL xs = strF xs := by
  have := right_ones h0 hp
  unfold strL; rw [if_pos h0, if_neg (by omega)]
theorem str_len {xs : List Int} (h0 : chkE xs = 0) : (strL xs).length = xs.length := by
  unfold strL; rw [if_pos h0]
  split
  · simp
  · exact strF_len xs
theorem str_range {xs : List Int} (h0 : chkE xs = 0) : ∀ s ∈ strL xs, -65536 ≤ s ∧ s ≤ 65536 := by
  intro s hs
  unfold strL at hs; rw [if_pos h0] at hs
  split at hs
  · have := List.eq_of_mem_replicate hs; omega
  · rename_i hc
    obtain ⟨hp, hpl, hle⟩ := right_some h0 hc
    unfold strF at hs
    obtain ⟨k, _, rfl⟩ := List.mem_map.1 hs
    have h1 := prodL_pos (xs := xs.drop (k + 1)) fun x hx => (hp x (List.mem_of_mem_drop hx)).1
    have h2 := prodL_drop_le (xs := xs) (k + 1) fun x hx => (hp x hx).1
    omega
/-- A right shape with cells has dimensions of at least 1. -/
theorem in_ones {xs : List Int} {o : Int} (h0 : chkE xs = 0) (h : inB xs o = true) : (∀ x ∈ xs, 1 ≤ x) ∧ 0 ≤ o ∧ o < prodL xs ∧ prodL xs ≤ 65536 := by
  have h1 := of_decide_eq_true h
  obtain ⟨hp, hpl, hle⟩ := right_some h0 (by omega)
  exact ⟨fun x hx => (hp x hx).1, by omega, by omega, by omega⟩

theorem dot_str : ∀ (xs ys : List Int), dotL (strF xs) ys = offL xs ys
  | [], ys => by simp [strF, prodL, dotL, offL]
  | x :: xs, [] => by rw [strF_cons]; simp [dotL, offL]
  | x :: xs, y :: ys => by
    rw [strF_cons]
    simp only [dotL, offL]
    rw [dot_str xs ys, Int.mul_comm]
theorem dot_step {us vs : List Int} {k : Nat} {a b : Int} (ha : us[k]? = some a) (hb : vs[k]? = some b) : dotL (us.drop k) (vs.drop k) = a * b + dotL (us.drop (k + 1)) (vs.drop (k + 1)) := by
  rw [drop_at ha, drop_at hb]; rfl
theorem dot_end {us vs : List Int} {k : Nat} (h : us.length ≤ k ∨ vs.length ≤ k) : dotL (us.drop k) (vs.drop k) = 0 := by
  rcases h with h | h
  · rw [List.drop_of_length_le h]; simp [dotL]
  · rw [List.drop_of_length_le h]; cases us.drop k <;> simp [dotL]
theorem dot_comm : ∀ (us vs : List Int), dotL us vs = dotL vs us
  | [], vs => by cases vs <;> simp [dotL]
  | a :: us, [] => by simp [dotL]
  | a :: us, b :: vs => by simp only [dotL]; rw [dot_comm us vs, Int.mul_comm]
theorem mul_range {a b : Int} (ha : -65536 ≤ a ∧ a ≤ 65536) (hb : -65536 ≤ b ∧ b ≤ 65536) : -4294967296 ≤ a * b ∧ a * b ≤ 4294967296 := by
  have h : (a * b).natAbs ≤ 65536 * 65536 := by
    rw [Int.natAbs_mul]
    exact Nat.mul_le_mul (by omega) (by omega)
  omega

theorem off_range : ∀ {xs ys : List Int}, vldB xs ys = true → 0 ≤ offL xs ys ∧ offL xs ys < prodL xs
  | [], [], _ => by simp [offL, prodL]
  | x :: xs, y :: ys, h => by
    have ho := vld_ones h
    simp only [vldB, Bool.and_eq_true, decide_eq_true_eq] at h
    have ih := off_range h.2
    have hp := prodL_pos (xs := xs) fun z hz => ho z (by simp [hz])
    simp only [offL, prodL_cons]
    have h1 : 0 ≤ y * prodL xs := Int.mul_nonneg h.1.1 (by omega)
    have h2 : (y + 1) * prodL xs ≤ x * prodL xs := Int.mul_le_mul_of_nonneg_right (by omega) (by omega)
    rw [Int.add_mul, Int.one_mul] at h2
    rw [Int.mul_comm (prodL xs) x]
    omega
  | [], _ :: _, h => by simp [vldB] at h
  | _ :: _, [], h => by simp [vldB] at h
theorem off_n {xs ys : List Int} (h0 : chkE xs = 0) (h : vldB xs ys = true) : offN xs ys = offL xs ys ∧ 0 ≤ offL xs ys ∧ offL xs ys < celN xs := by
  have h1 := off_range h
  have h2 := right_ones h0 (vld_ones h)
  exact ⟨by unfold offN; rw [if_pos h], by omega, by omega⟩

theorem idx_len : ∀ (xs : List Int) (o : Int), (idxL xs o).length = xs.length
  | [], _ => rfl
  | x :: xs, o => by simp [idxL, idx_len xs]
theorem idx_right : ∀ {xs : List Int} {o : Int}, (∀ x ∈ xs, 1 ≤ x) → 0 ≤ o → o < prodL xs → vldB xs (idxL xs o) = true ∧ offL xs (idxL xs o) = o
  | [], o, _, h0, h1 => by
    have h1 : o < 1 := h1
    exact ⟨rfl, by show (0 : Int) = o; omega⟩
  | x :: xs, o, hp, h0, h1 => by
    have hpp := prodL_pos (xs := xs) fun z hz => hp z (by simp [hz])
    rw [prodL_cons] at h1
    have ih := idx_right (xs := xs) (o := o % prodL xs) (fun z hz => hp z (by simp [hz])) (Int.emod_nonneg _ (by omega)) (Int.emod_lt_of_pos _ (by omega))
    have hq : o / prodL xs < x := Int.ediv_lt_of_lt_mul (by omega) (by rw [Int.mul_comm]; exact h1)
    have hq0 : 0 ≤ o / prodL xs := Int.ediv_nonneg h0 (by omega)
    simp only [idxL, vldB, offL]
    refine ⟨by rw [ih.1]; simp; omega, ?_⟩
    rw [ih.2, Int.mul_comm]
    exact Int.mul_ediv_add_emod o (prodL xs)
theorem off_right : ∀ {xs ys : List Int}, vldB xs ys = true → idxL xs (offL xs ys) = ys
  | [], [], _ => rfl
  | x :: xs, y :: ys, h => by
    have ho := vld_ones h
    simp only [vldB, Bool.and_eq_true, decide_eq_true_eq] at h
    have hr := off_range h.2
    have ih := off_right h.2
    have hp := prodL_pos (xs := xs) fun z hz => ho z (by simp [hz])
    simp only [offL, idxL]
    have e1 : (y * prodL xs + offL xs ys) / prodL xs = y := by
      rw [Int.add_comm, Int.add_mul_ediv_right _ _ (by omega), Int.ediv_eq_zero_of_lt hr.1 hr.2]; omega
    have e2 : (y * prodL xs + offL xs ys) % prodL xs = offL xs ys := by
      rw [Int.add_comm, Int.add_mul_emod_self_right, Int.emod_eq_of_lt hr.1 hr.2]
    rw [e1, e2, ih]
  | [], _ :: _, h => by simp [vldB] at h
  | _ :: _, [], h => by simp [vldB] at h

theorem idx_step {xs : List Int} {L : List Int} {k : Nat} {o : Int} (hk : k < xs.length) (h : L.drop k = idxL (xs.drop k) o) :
    L[k]? = some (o / prodL (xs.drop (k + 1))) ∧ L.drop (k + 1) = idxL (xs.drop (k + 1)) (o % prodL (xs.drop (k + 1))) := by
  rw [drop_at (List.getElem?_eq_getElem hk)] at h
  simp only [idxL] at h
  have h1 : L[k]? = (L.drop k)[0]? := by rw [List.getElem?_drop]; rfl
  have h2 : L.drop (k + 1) = (L.drop k).drop 1 := by rw [List.drop_drop, Nat.add_comm]
  rw [h] at h1 h2
  exact ⟨h1, h2⟩
theorem set_next {L : List Int} {k n : Nat} {y : Int} (hk : k < n) (h : L[k]? = some y) (hl : L.length = n) :
    (L.take k ++ List.replicate (n - k) 0).set k y = L.take (k + 1) ++ List.replicate (n - (k + 1)) 0 := by
  rw [List.set_append_right _ _ (by rw [List.length_take]; omega), List.length_take, show n - k = (n - (k + 1)) + 1 by omega, List.replicate_succ]
  rw [show k - min k L.length = 0 by omega, List.set_cons_zero, take_snoc h, List.append_assoc]
  rfl

/-! ### From the last axis on -/
theorem mod_div (o p x : Int) (hp : 0 < p) (hx : 0 < x) : o % (p * x) / p = o / p % x ∧ o % (p * x) % p = o % p := by
  have h2 : o % (p * x) % p = o % p := Int.emod_emod_of_dvd o (Int.dvd_mul_right p x)
  refine ⟨?_, h2⟩
  have e1 := Int.mul_ediv_add_emod o (p * x)
  have e2 : o / p = o / (p * x) * x + o % (p * x) / p := by
    conv => lhs; rw [← e1]
    rw [Int.mul_assoc, Int.add_comm, Int.add_mul_ediv_left _ _ (by omega), Int.add_comm, Int.mul_comm x]
  have h3 : 0 ≤ o % (p * x) / p := Int.ediv_nonneg (Int.emod_nonneg _ (by have := Int.mul_pos hp hx; omega)) (by omega)
  have h4 : o % (p * x) / p < x := Int.ediv_lt_of_lt_mul hp (by rw [Int.mul_comm x]; exact Int.emod_lt_of_pos _ (Int.mul_pos hp hx))
  rw [e2, Int.add_comm, Int.add_mul_emod_self_right, Int.emod_eq_of_lt h3 h4]
theorem last_step {xs : List Int} {k : Nat} {x o : Int} (hx : xs[k]? = some x) (hp : ∀ x ∈ xs, 1 ≤ x) :
    idxL (xs.drop k) (o % prodL (xs.drop k)) = o / prodL (xs.drop (k + 1)) % x :: idxL (xs.drop (k + 1)) (o % prodL (xs.drop (k + 1))) ∧ o / prodL (xs.drop k) = o / prodL (xs.drop (k + 1)) / x := by
  have h1 := prodL_pos (xs := xs.drop (k + 1)) fun z hz => hp z (List.mem_of_mem_drop hz)
  have h2 := hp x (mem_at hx)
  have h3 := mod_div o (prodL (xs.drop (k + 1))) x (by omega) (by omega)
  have h4 := prodL_step hx
  constructor
  · conv => lhs; arg 1; rw [drop_at hx]
    simp only [idxL]
    rw [h4, h3.1, h3.2]
  · rw [h4, Int.ediv_ediv_of_nonneg (by omega)]

/-! ### Horner's scheme -/
def hornL : Int → List Int → List Int → Int
  | acc, x :: xs, y :: ys => hornL (acc * x + y) xs ys
  | acc, _, _ => acc
theorem horn_off : ∀ (xs ys : List Int) (acc : Int), xs.length = ys.length → hornL acc xs ys = acc * prodL xs + offL xs ys
  | [], [], acc, _ => by simp [hornL, offL, prodL]
  | x :: xs, y :: ys, acc, h => by
    simp only [hornL, offL, prodL_cons]
    rw [horn_off xs ys _ (by simpa using h), Int.add_mul, Int.mul_assoc, Int.mul_comm x]
    omega
  | [], _ :: _, _, h => by simp at h
  | _ :: _, [], _, h => by simp at h
theorem horn_step {xs ys : List Int} {k : Nat} {x y acc : Int} (hx : xs[k]? = some x) (hy : ys[k]? = some y) : hornL acc (xs.drop k) (ys.drop k) = hornL (acc * x + y) (xs.drop (k + 1)) (ys.drop (k + 1)) := by
  rw [drop_at hx, drop_at hy]; rfl
theorem horn_end {xs ys : List Int} {k : Nat} {acc : Int} (h : xs.length ≤ k) : hornL acc (xs.drop k) (ys.drop k) = acc := by
  rw [List.drop_of_length_le h]; cases ys.drop k <;> rfl
end Go.Proofs.Ytaegkiangjnmdaa.gam
