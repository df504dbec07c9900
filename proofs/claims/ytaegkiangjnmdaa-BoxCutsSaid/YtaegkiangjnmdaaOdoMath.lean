/- Ranges of indices in lexicographic order: which list is inside, the next index, all indices (plain mathematics). -/
import Derived.Test.YtaegkiangjnmdaaRefAll
namespace Go.Proofs.Ytaegkiangjnmdaa.odo
open Go.Proofs.Ytaegkiangjnmdaa.mem Go.Proofs.Ytaegkiangjnmdaa.prod Go.Proofs.Ytaegkiangjnmdaa.shp Go.Proofs.Ytaegkiangjnmdaa.strd Go.Proofs.Ytaegkiangjnmdaa.gam Go.Proofs.Ytaegkiangjnmdaa.sml Go.Proofs.Ytaegkiangjnmdaa.all
set_option linter.unusedVariables false

/-- Whether a list is an index of the range. -/
def insB : List Int → List Int → List Int → Bool
  | [], [], [] => true
  | a :: la, b :: lb, x :: xs => decide (a ≤ x ∧ x < b) && insB la lb xs
  | _, _, _ => false
/-- The index behind an index, and whether there is one; else the first index. -/
def advL : List Int → List Int → List Int → List Int × Bool
  | a :: la, b :: lb, x :: xs => if (advL la lb xs).2 = true then (x :: (advL la lb xs).1, true) else if x + 1 < b then ((x + 1) :: (advL la lb xs).1, true) else (a :: (advL la lb xs).1, false)
  | _, _, _ => ([], false)
/-- All indices of the range, in lexicographic order. -/
def rngs : List Int → List Int → List (List Int)
  | a :: la, b :: lb => (List.range (b - a).toNat).flatMap fun k : Nat => (rngs la lb).map fun t => (a + (k : Int)) :: t
  | _, _ => [[]]
def dimsL (lo hi : List Int) : List Int := List.zipWith (fun a b => max (b - a) 0) lo hi
def addL (lo ps : List Int) : List Int := List.zipWith (fun p a => p + a) ps lo

theorem ins_step {lo hi xs : List Int} {k : Nat} {a b x : Int} (ha : lo[k]? = some a) (hb : hi[k]? = some b) (hx : xs[k]? = some x) :
    insB (lo.drop k) (hi.drop k) (xs.drop k) = (decide (a ≤ x ∧ x < b) && insB (lo.drop (k + 1)) (hi.drop (k + 1)) (xs.drop (k + 1))) := by
  rw [drop_at ha, drop_at hb, drop_at hx]; rfl
theorem ins_end {lo hi xs : List Int} {k n : Nat} (ha : lo.length = n) (hb : hi.length = n) (hx : xs.length = n) (hk : ¬ k < n) : insB (lo.drop k) (hi.drop k) (xs.drop k) = true := by
  rw [List.drop_of_length_le (by omega), List.drop_of_length_le (by omega), List.drop_of_length_le (by omega)]; rfl
theorem ins_len : ∀ {lo hi xs : List Int}, insB lo hi xs = true → lo.length = hi.length ∧ xs.length = lo.length
  | [], [], [], _ => ⟨rfl, rfl⟩
  | a :: la, b :: lb, x :: xs, h => by
    simp only [insB, Bool.and_eq_true] at h
    have := ins_len h.2
    simp; omega
  | [], [], _ :: _, h => by simp [insB] at h
  | [], _ :: _, _, h => by simp [insB] at h
  | _ :: _, [], _, h => by simp [insB] at h
  | _ :: _, _ :: _, [], h => by simp [insB] at h
theorem ins_ne {lo hi xs : List Int} (h : lo.length ≠ hi.length ∨ xs.length ≠ lo.length) : insB lo hi xs = false := by
  cases hv : insB lo hi xs
  · rfl
  · have := ins_len hv; omega

theorem adv_len : ∀ {lo hi xs : List Int}, lo.length = xs.length → hi.length = xs.length → (advL lo hi xs).1.length = xs.length
  | [], [], [], _, _ => rfl
  | a :: la, b :: lb, x :: xs, h1, h2 => by
    have := adv_len (lo := la) (hi := lb) (xs := xs) (by simpa using h1) (by simpa using h2)
    simp only [advL]
    split
    · simp [this]
    · split <;> simp [this]
  | [], _, _ :: _, h1, _ => by simp at h1
  | _ :: _, _, [], h1, _ => by simp at h1
  | [], _ :: _, [], _, h2 => by simp at h2
  | _ :: _, [], _ :: _, _, h2 => by simp at h2
theorem adv_up : ∀ (j : Nat) {lo hi xs : List Int}, lo.length = xs.length → hi.length = xs.length → (advL (lo.drop j) (hi.drop j) (xs.drop j)).2 = true →
    advL lo hi xs = (xs.take j ++ (advL (lo.drop j) (hi.drop j) (xs.drop j)).1, true)
  | 0, lo, hi, xs, _, _, h => by
    simp only [List.drop_zero] at h ⊢
    simp only [List.take_zero, List.nil_append, ← h]
  | j + 1, [], [], [], _, _, h => by simp [advL] at h
  | j + 1, a :: la, b :: lb, x :: xs, h1, h2, h => by
    simp only [List.drop_succ_cons] at h ⊢
    have ih := adv_up j (lo := la) (hi := lb) (xs := xs) (by simpa using h1) (by simpa using h2) h
    simp only [advL]
    rw [ih]
    simp
  | _ + 1, [], _, _ :: _, h1, _, _ => by simp at h1
  | _ + 1, _ :: _, _, [], h1, _, _ => by simp at h1
  | _ + 1, [], _ :: _, [], _, h2, _ => by simp at h2
  | _ + 1, _ :: _, [], _ :: _, _, h2, _ => by simp at h2
/-- A step to the left: no axis from d + 1 on has a next number, and the one at d has one. -/
theorem adv_hit {lo hi xs : List Int} {d : Nat} {a b x : Int} {t : List Int} (ha : lo[d]? = some a) (hb : hi[d]? = some b) (hx : xs[d]? = some x) (h1 : lo.length = xs.length) (h2 : hi.length = xs.length)
    (h : advL (lo.drop (d + 1)) (hi.drop (d + 1)) (xs.drop (d + 1)) = (t, false)) (hlt : x + 1 < b) : advL lo hi xs = (xs.take d ++ ((x + 1) :: t), true) := by
  have e : advL (lo.drop d) (hi.drop d) (xs.drop d) = ((x + 1) :: t, true) := by
    rw [drop_at ha, drop_at hb, drop_at hx]
    simp only [advL, h]
    simp [hlt]
  rw [adv_up d h1 h2 (by rw [e]), e]
theorem adv_miss {lo hi xs : List Int} {d : Nat} {a b x : Int} {t : List Int} (ha : lo[d]? = some a) (hb : hi[d]? = some b) (hx : xs[d]? = some x)
    (h : advL (lo.drop (d + 1)) (hi.drop (d + 1)) (xs.drop (d + 1)) = (t, false)) (hlt : ¬ x + 1 < b) : advL (lo.drop d) (hi.drop d) (xs.drop d) = (a :: t, false) := by
  rw [drop_at ha, drop_at hb, drop_at hx]
  simp only [advL, h]
  simp [hlt]

/-- All indices by their places. -/
theorem list_range (L : List (List Int)) : L = (List.range L.length).map fun j => L.getD j [] := by
  apply List.ext_getElem
  · simp
  · intro i h1 h2
    simp [List.getD, List.getElem?_eq_getElem h1]
theorem rng_places (a b : Int) (la lb : List Int) (h : rngs la lb ≠ []) :
    rngs (a :: la) (b :: lb) = (List.range ((b - a).toNat * (rngs la lb).length)).map fun t : Nat => (a + ((t / (rngs la lb).length : Nat) : Int)) :: (rngs la lb).getD (t % (rngs la lb).length) [] := by
  have hm : 0 < (rngs la lb).length := List.length_pos_iff.2 h
  have := range_flat (rngs la lb).length hm (fun k j => (a + ((k : Nat) : Int)) :: (rngs la lb).getD j []) (b - a).toNat
  rw [← this]
  show (List.range (b - a).toNat).flatMap (fun k : Nat => (rngs la lb).map fun t => (a + (k : Int)) :: t) = _
  congr 1
  funext k
  conv => lhs; rw [list_range (rngs la lb), List.map_map]
  rfl
theorem rng_none (a b : Int) (la lb : List Int) (h : rngs la lb = []) : rngs (a :: la) (b :: lb) = [] := by
  show (List.range (b - a).toNat).flatMap (fun k : Nat => (rngs la lb).map fun t => (a + (k : Int)) :: t) = _
  rw [h]; simp
theorem getD_some {L : List (List Int)} {j : Nat} (h : j < L.length) : L[j]? = some (L.getD j []) := by
  simp [List.getD, List.getElem?_eq_getElem h]
/-- The range has an index just where lo is one, and lo is the first. -/
theorem rng_first : ∀ {lo hi : List Int}, lo.length = hi.length → (insB lo hi lo = true → (rngs lo hi)[0]? = some lo) ∧ (insB lo hi lo = false → rngs lo hi = [])
  | [], [], _ => ⟨fun _ => rfl, fun h => by simp [insB] at h⟩
  | a :: la, b :: lb, hl => by
    have ih := rng_first (lo := la) (hi := lb) (by simpa using hl)
    refine ⟨fun h => ?_, fun h => ?_⟩
    · simp only [insB, Bool.and_eq_true, decide_eq_true_eq] at h
      have i0 := ih.1 h.2
      have hne : rngs la lb ≠ [] := fun e => by rw [e] at i0; simp at i0
      have hm : 0 < (rngs la lb).length := List.length_pos_iff.2 hne
      have hp : 0 < (b - a).toNat * (rngs la lb).length := Nat.mul_pos (by omega) hm
      rw [rng_places a b la lb hne]
      simp only [List.getElem?_map, List.getElem?_range hp]
      simp [List.getD, i0]
    · by_cases hb : insB la lb la = true
      · simp only [insB, hb, Bool.and_true, decide_eq_false_iff_not] at h
        have e : (b - a).toNat = 0 := by omega
        show (List.range (b - a).toNat).flatMap _ = _
        rw [e]; rfl
      · exact rng_none a b la lb (ih.2 (by simpa using hb))
/-- Each index is followed by the next one. -/
theorem rng_next : ∀ {lo hi : List Int}, lo.length = hi.length → ∀ (k : Nat) (x : List Int), (rngs lo hi)[k]? = some x →
    (∀ y, (rngs lo hi)[k + 1]? = some y → advL lo hi x = (y, true)) ∧ ((rngs lo hi)[k + 1]? = none → advL lo hi x = (lo, false)) ∧ insB lo hi x = true
  | [], [], _, k, x, h => by
    rcases k with _ | k
    · simp [rngs] at h
      subst h
      exact ⟨fun y hy => by simp [rngs] at hy, fun _ => rfl, rfl⟩
    · simp [rngs] at h
  | a :: la, b :: lb, hl, k, x, h => by
    have hl' : la.length = lb.length := by simpa using hl
    by_cases hne : rngs la lb = []
    · rw [rng_none a b la lb hne] at h; simp at h
    · have hm : 0 < (rngs la lb).length := List.length_pos_iff.2 hne
      have hfirst : (rngs la lb)[0]? = some la := by
        cases hi : insB la lb la
        · exact absurd ((rng_first hl').2 hi) hne
        · exact (rng_first hl').1 hi
      rw [rng_places a b la lb hne] at h ⊢
      generalize hM : (rngs la lb).length = m at *
      have hk : k < (b - a).toNat * m := by
        rcases Nat.lt_or_ge k ((b - a).toNat * m) with h1 | h1
        · exact h1
        · rw [List.getElem?_eq_none (by simpa using h1)] at h; cases h
      simp only [List.getElem?_map, List.getElem?_range hk, Option.map_some, Option.some.injEq] at h
      subst h
      have hj : k % m < m := Nat.mod_lt _ hm
      have hq : k / m < (b - a).toNat := (Nat.div_lt_iff_lt_mul hm).2 hk
      have hx := getD_some (L := rngs la lb) (j := k % m) (by omega)
      obtain ⟨n1, n2, n3⟩ := rng_next hl' (k % m) _ hx
      generalize hX : (rngs la lb).getD (k % m) [] = X at *
      have hins : insB (a :: la) (b :: lb) ((a + ((k / m : Nat) : Int)) :: X) = true := by
        simp only [insB, n3, Bool.and_true, decide_eq_true_eq]
        generalize k / m = q at hq ⊢
        omega
      have hdm := Nat.div_add_mod k m
      by_cases hs : k % m + 1 < m
      · have e1 : (k + 1) / m = k / m := by
          rw [show k + 1 = k % m + 1 + m * (k / m) by omega, Nat.add_mul_div_left _ _ hm, Nat.div_eq_of_lt hs]; omega
        have e2 : (k + 1) % m = k % m + 1 := by
          rw [show k + 1 = k % m + 1 + m * (k / m) by omega, Nat.add_mul_mod_self_left, Nat.mod_eq_of_lt hs]
        have hk1 : k + 1 < (b - a).toNat * m := by
          have : m * (k / m) + m ≤ (b - a).toNat * m := by
            rw [← Nat.mul_succ, Nat.mul_comm]; exact Nat.mul_le_mul_right _ hq
          omega
        have hy := getD_some (L := rngs la lb) (j := k % m + 1) (by omega)
        have hv := n1 _ hy
        refine ⟨fun y h => ?_, fun h => ?_, hins⟩
        · simp only [List.getElem?_map, List.getElem?_range hk1, Option.map_some, Option.some.injEq] at h
          rw [← h, e1, e2]
          simp only [advL, hv, if_true]
        · simp [hk1] at h
      · have hs1 : k % m + 1 = m := by omega
        have hv := n2 (by rw [hs1]; exact List.getElem?_eq_none (by omega))
        have e1 : (k + 1) / m = k / m + 1 := by
          rw [show k + 1 = m * (k / m + 1) by rw [Nat.mul_succ]; omega, Nat.mul_div_cancel_left _ hm]
        have e2 : (k + 1) % m = 0 := by
          rw [show k + 1 = m * (k / m + 1) by rw [Nat.mul_succ]; omega, Nat.mul_mod_right]
        refine ⟨fun y h => ?_, fun h => ?_, hins⟩
        · have hk1 : k + 1 < (b - a).toNat * m := by
            rcases Nat.lt_or_ge (k + 1) ((b - a).toNat * m) with h1 | h1
            · exact h1
            · rw [List.getElem?_eq_none (by simpa using h1)] at h; cases h
          have hq1 : k / m + 1 < (b - a).toNat := by rw [← e1]; exact (Nat.div_lt_iff_lt_mul hm).2 hk1
          simp only [List.getElem?_map, List.getElem?_range hk1, Option.map_some, Option.some.injEq] at h
          rw [← h, e1, e2]
          have hf : (rngs la lb).getD 0 [] = la := by simp [List.getD, hfirst]
          rw [hf]
          have hlt : a + ((k / m : Nat) : Int) + 1 < b := by generalize k / m = q at hq1 ⊢; omega
          have hc : (((k / m + 1 : Nat) : Int)) = ((k / m : Nat) : Int) + 1 := by omega
          simp only [advL, hv, hlt, hc]
          simp [Int.add_assoc]
        · have hk1 : (b - a).toNat * m ≤ k + 1 := by
            rcases Nat.lt_or_ge (k + 1) ((b - a).toNat * m) with h1 | h1
            · simp [h1] at h
            · exact h1
          have hq1 : ¬ k / m + 1 < (b - a).toNat := by
            rw [← e1]
            intro h2
            have := (Nat.div_lt_iff_lt_mul hm).1 h2
            omega
          have hlt : ¬ a + ((k / m : Nat) : Int) + 1 < b := by generalize k / m = q at hq1 ⊢; omega
          simp only [advL, hv, hlt]
          simp

theorem dims_cons (a b : Int) (la lb : List Int) : dimsL (a :: la) (b :: lb) = max (b - a) 0 :: dimsL la lb := rfl
theorem dims_len {lo hi : List Int} (h : lo.length = hi.length) : (dimsL lo hi).length = lo.length := by simp [dimsL, h]
theorem dims_nonneg : ∀ {lo hi : List Int}, ∀ x ∈ dimsL lo hi, 0 ≤ x
  | [], _, x, hx => by simp [dimsL] at hx
  | _ :: _, [], x, hx => by simp [dimsL] at hx
  | a :: la, b :: lb, x, hx => by
    rw [dims_cons] at hx
    rcases List.mem_cons.1 hx with rfl | hx
    · omega
    · exact dims_nonneg x hx
/-- They are the indices of the shape of differences, moved by lo. -/
theorem rng_idxs : ∀ {lo hi : List Int}, lo.length = hi.length → rngs lo hi = (idxs (dimsL lo hi)).map (addL lo)
  | [], [], _ => by simp [rngs, dimsL, idxs, prodL, idxL, addL]
  | a :: la, b :: lb, hl => by
    have ih := rng_idxs (lo := la) (hi := lb) (by simpa using hl)
    rw [dims_cons]
    generalize hD : dimsL la lb = ds at *
    have hp0 : 0 ≤ prodL ds := (prodL_max fun x hx => by rw [← hD] at hx; exact dims_nonneg x hx).1
    have hmax : (max (b - a) 0).toNat = (b - a).toNat := by omega
    show (List.range (b - a).toNat).flatMap (fun k : Nat => (rngs la lb).map fun t => (a + (k : Int)) :: t) = _
    rw [ih]
    unfold idxs
    rw [prodL_cons, Int.mul_comm, toNat_mul' (by omega) hp0, hmax]
    rcases Nat.eq_zero_or_pos (prodL ds).toNat with h0 | h0
    · simp [h0]
    · have := range_flat (prodL ds).toNat h0 (fun k j => (a + ((k : Nat) : Int)) :: addL la (idxL ds ((j : Nat) : Int))) (b - a).toNat
      simp only [List.map_map] at this ⊢
      refine Eq.trans (Eq.trans ?_ this) ?_
      · rfl
      · apply List.map_congr_left
        intro t ht
        have hpp : (((prodL ds).toNat : Nat) : Int) = prodL ds := by omega
        show _ = addL (a :: la) (idxL (max (b - a) 0 :: ds) (t : Int))
        show _ = ((t : Int) / prodL ds + a) :: addL la (idxL ds ((t : Int) % prodL ds))
        rw [← hpp]
        simp [Int.add_comm]
theorem rng_len {lo hi : List Int} (h : lo.length = hi.length) : (rngs lo hi).length = (prodL (dimsL lo hi)).toNat := by
  rw [rng_idxs h, List.length_map, idxs_len]
theorem rng_at {lo hi : List Int} (h : lo.length = hi.length) {k : Nat} (hk : k < (rngs lo hi).length) : (rngs lo hi)[k]? = some (addL lo (idxL (dimsL lo hi) (k : Int))) := by
  have hk2 := hk
  rw [rng_len h] at hk2
  rw [rng_idxs h, List.getElem?_map, idxs_at hk2]; rfl
theorem rng_each {lo hi : List Int} (h : lo.length = hi.length) {k : Nat} {x : List Int} (hx : (rngs lo hi)[k]? = some x) : x.length = lo.length := by
  have := ins_len (rng_next h k x hx).2.2
  omega
theorem dims_pos : ∀ {lo hi : List Int}, insB lo hi lo = true → ∀ x ∈ dimsL lo hi, 1 ≤ x
  | [], [], _, x, hx => by simp [dimsL] at hx
  | a :: la, b :: lb, h, x, hx => by
    simp only [insB, Bool.and_eq_true, decide_eq_true_eq] at h
    rw [dims_cons] at hx
    rcases List.mem_cons.1 hx with rfl | hx
    · omega
    · exact dims_pos h.2 x hx
  | [], _ :: _, h, _, _ => by simp [insB] at h
  | _ :: _, [], h, _, _ => by simp [insB] at h
theorem dims_zero {lo hi : List Int} (hl : lo.length = hi.length) (h : insB lo hi lo = false) : prodL (dimsL lo hi) = 0 := by
  have h1 := (rng_first hl).2 h
  have h2 := rng_len hl
  rw [h1] at h2
  have h3 := (prodL_max (xs := dimsL lo hi) dims_nonneg).1
  have h4 : ([] : List (List Int)).length = 0 := rfl
  omega
theorem dims_at {lo hi : List Int} {k : Nat} {a b : Int} (ha : lo[k]? = some a) (hb : hi[k]? = some b) : (dimsL lo hi)[k]? = some (max (b - a) 0) := by
  unfold dimsL
  rw [List.getElem?_zipWith, ha, hb]

end Go.Proofs.Ytaegkiangjnmdaa.odo
