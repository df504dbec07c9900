/- shape.Strides and the reference's: the products of the dimensions behind each axis, or zeros. -/
import Derived.Test.YtaegkiangjnmdaaShape
import Derived.Test.YtaegkiangjnmdaaMake
namespace Go.Proofs.Ytaegkiangjnmdaa.strd
open Go.ChangeShapes Go.WideShapes Go.ChangeAt Go.RowKit Go.Proofs.Ytaegkiangjnmdaa.mem Go.Proofs.Ytaegkiangjnmdaa.mul Go.Proofs.Ytaegkiangjnmdaa.prod Go.Proofs.Ytaegkiangjnmdaa.shp
set_option linter.unusedVariables false

def prodL (xs : List Int) : Int := xs.foldr (fun x s => s * x) 1
def strF (xs : List Int) : List Int := (List.range xs.length).map fun k => prodL (xs.drop (k + 1))
/-- What Strides answers. -/
def strL (xs : List Int) : List Int := if chkE xs = 0 then (if celN xs = 0 then List.replicate xs.length 0 else strF xs) else []

theorem prodL_pos : ∀ {xs : List Int}, (∀ x ∈ xs, 1 ≤ x) → 1 ≤ prodL xs
  | [], _ => by simp [prodL]
  | x :: xs, h => by
    have h1 := prodL_pos (xs := xs) fun y hy => h y (by simp [hy])
    have h2 := h x (by simp)
    show 1 ≤ prodL xs * x
    have := Int.mul_le_mul h1 h2 (by omega) (by omega)
    omega
theorem prodL_drop_le : ∀ {xs : List Int} (k : Nat), (∀ x ∈ xs, 1 ≤ x) → prodL (xs.drop k) ≤ prodL xs
  | [], k, _ => by simp
  | x :: xs, 0, _ => by simp
  | x :: xs, k + 1, h => by
    have h1 := prodL_drop_le (xs := xs) k fun y hy => h y (by simp [hy])
    have h2 := prodL_pos (xs := xs) fun y hy => h y (by simp [hy])
    have h3 := h x (by simp)
    show prodL (xs.drop k) ≤ prodL xs * x
    have := Int.mul_le_mul_of_nonneg_left h3 (by omega : 0 ≤ prodL xs)
    omega
theorem prodL_step {xs : List Int} {k : Nat} {x : Int} (h : xs[k]? = some x) : prodL (xs.drop k) = prodL (xs.drop (k + 1)) * x := by
  obtain ⟨hk, rfl⟩ := List.getElem?_eq_some_iff.1 h
  rw [List.drop_eq_getElem_cons hk]; rfl

theorem prod_fold : ∀ (xs : List Int) (s : Int), 1 ≤ s → s ≤ 65536 → (∀ x ∈ xs, 1 ≤ x ∧ x ≤ 65536) → xs.foldl prodStep s ≤ 65536 → xs.foldl prodStep s = s * prodL xs
  | [], s, _, _, _, _ => by simp [prodL]
  | x :: xs, s, h1, h2, h, hle => by
    have hx := h x (by simp)
    rw [List.foldl_cons] at hle ⊢
    by_cases hm : s * x ≤ 65536
    · have hb := mul_bound h1 hx.1 h2 hx.2
      rw [prod_next h1 hx.1 h2 hx.2 hm] at hle ⊢
      rw [prod_fold xs (s * x) hb.1 hm (fun y hy => h y (by simp [hy])) hle]
      show s * x * prodL xs = s * (prodL xs * x)
      rw [Int.mul_assoc, Int.mul_comm x]
    · have e : prodStep s x = 65537 := by
        unfold prodStep mulB
        rw [if_neg (by omega), if_neg]
        simp; omega
      rw [e, prod_stays xs fun y hy => h y (by simp [hy])] at hle
      omega
/-- A right shape with cells: its dimensions are at least 1, and their product is the number of its cells. -/
theorem right_some {xs : List Int} (h0 : chkE xs = 0) (hc : ¬ celN xs = 0) : (∀ x ∈ xs, 1 ≤ x ∧ x ≤ 65536) ∧ prodL xs = celN xs ∧ celN xs ≤ 65536 := by
  have ha := chk_all h0
  have hl := chk_len h0
  have hr := cel_range xs
  have e : celN xs = totN prodStep 1 xs := by unfold celN; rw [if_pos h0]
  have hp : ∀ x ∈ xs, 1 ≤ x ∧ x ≤ 65536 := by
    intro x hx
    have := ha x hx
    refine ⟨?_, this.2⟩
    rcases Int.lt_or_le 0 x with h | h
    · omega
    · have hx0 : x = 0 := by omega
      subst hx0
      exfalso
      apply hc
      rw [e]
      unfold totN
      rw [prod_zero xs 1 hx ha (by omega)]
      simp
  have hfe : xs.foldl prodStep 1 = totN prodStep 1 xs ∧ xs.foldl prodStep 1 ≤ 65536 := by
    have h2 := hl.2
    unfold totE at h2
    unfold totN
    rw [neg_not fun x hx => (ha x hx).1, big_not fun x hx => (ha x hx).2] at h2 ⊢
    by_cases hb : 65536 < xs.foldl prodStep 1
    · simp [hb] at h2
    · simp [hb]; omega
  refine ⟨hp, ?_, hr.2⟩
  rw [e, ← hfe.1, prod_fold xs 1 (by omega) (by omega) hp hfe.2]
  omega

theorem strF_len (xs : List Int) : (strF xs).length = xs.length := by simp [strF]
theorem strF_at {xs : List Int} {k : Nat} (h : k < xs.length) : (strF xs)[k]? = some (prodL (xs.drop (k + 1))) := by simp [strF, h]
theorem strF_drop {xs : List Int} {k : Nat} (h : k < xs.length) : (strF xs).drop k = prodL (xs.drop (k + 1)) :: (strF xs).drop (k + 1) := by
  rw [List.drop_eq_getElem_cons (by rw [strF_len]; exact h)]
  simp [strF]
theorem set_zero (k : Nat) (y : Int) (t : List Int) : (List.replicate (k + 1) 0 ++ t).set k y = List.replicate k 0 ++ (y :: t) := by
  rw [List.replicate_succ', List.append_assoc, List.set_append_right _ _ (by simp)]
  simp

set_option maxHeartbeats 1000000 in
theorem strides_any (A : Option Addr) (n c : Nat) (xs : List Int) (w : World) (hn : n ≤ maxLen) (hx : Rd w A n xs) :
    Calls Try.prog 39 #[.slice A n c] w (Makes w (strL xs)) := by
  have P1 := count_any A n c xs w hn hx
  have HX := Lib.hid hx; clear hx
  unfold maxLen at hn
  obtain ⟨L, hL⟩ : ∃ L, L = strL xs := ⟨_, rfl⟩
  rw [← hL]
  by_cases h0 : chkE xs = 0
  · have hl16 : n ≤ 16 := by have := (chk_len h0).1; rw [HX.out.1] at this; exact this
    by_cases hc : celN xs = 0
    · have e : L = List.replicate n 0 := by rw [hL]; unfold strL; rw [if_pos h0, if_pos hc, HX.out.1]
      have HE := Lib.hid e; clear e hL
      rw [h0, hc] at P1
      have P1 := Lib.hid P1
      rename_i P0; clear P0 h0 hc
      go_enter Try.func39, Try.ntmps39
      go_wp2_with fail
      refine P1.out.mono ?_
      rintro e w' ⟨rfl, rfl⟩
      go_wp2_with (at_make; refine wpList_zeros rfl _ _ rfl n rfl rfl (by omega) ?_; intro w1 ho hb)
      go_ret
      exact ⟨_, rfl, by rw [HE.out]; exact ho, hb⟩
    · have e : L = strF xs := by rw [hL]; unfold strL; rw [if_pos h0, if_neg hc]
      have HE := Lib.hid e; clear e hL
      obtain ⟨hp, hpl, hle⟩ := right_some h0 hc
      have hc1 : (celN xs == 0) = false := beq_eq_false_iff_ne.2 hc
      rw [h0] at P1
      have HP := Lib.hid hp
      have HPL := Lib.hid hpl
      have HLE := Lib.hid hle
      clear hp hpl hle h0 hc
      generalize celN xs = N at *
      have P1 := Lib.hid P1
      rename_i P0; clear P0
      go_enter Try.func39, Try.ntmps39
      go_wp2_with fail
      refine P1.out.mono ?_
      rintro e w' ⟨rfl, rfl⟩
      go_wp2_with (at_make; refine wpList_zeros rfl _ _ rfl n rfl rfl (by omega) ?_; intro w1 ho hb)
      go_loopw [6, 24] (fun s i wr => ∃ d j : Nat, Hid (d + j = n) ∧ j ≤ n ∧ i = .int .i64 j ∧ ∃ p : Int, s = .int .i64 p ∧ Hid (p = prodL (xs.drop d)) ∧ Own wr w.heap.size (.slice (some ⟨w.heap.size, 0, none⟩) n n) (List.replicate d 0 ++ (strF xs).drop d) ∧ Below w.heap.size w wr) (fun _ i _ => n - (intOf i).toNat)
      case atStart => exact ⟨n, 0, Lib.hid (by omega), Nat.zero_le _, rfl, 1, rfl, Lib.hid (by rw [List.drop_of_length_le (by rw [HX.out.1]; omega)]; rfl), by rw [List.drop_of_length_le (by rw [strF_len, HX.out.1]; omega), List.append_nil]; exact ho, hb⟩
      case round =>
        obtain ⟨d, j, Hd, hj, rfl, p, rfl, Hp, hown, hbel⟩ := hrel
        by_cases hlt : j < n
        · obtain ⟨k, rfl⟩ : ∃ k, d = k + 1 := ⟨d - 1, by have := Hd.out; omega⟩
          have hkn : k < n := by have := Hd.out; omega
          have hax : (n : Int) - 1 - (j : Int) = (k : Int) := by have := Hd.out; omega
          obtain ⟨ad, x, rfl, hx, _⟩ := (HX.out.below hbel).at_ hkn
          have hst := prodL_step hx
          have hx1 := (HP.out x (mem_at hx)).1
          have hp0 : 1 ≤ p := by rw [Hp.out]; exact prodL_pos fun y hy => (HP.out y (List.mem_of_mem_drop hy)).1
          have hpx : p * x ≤ 65536 := by
            have := prodL_drop_le (xs := xs) k fun y hy => (HP.out y hy).1
            rw [hst, ← Hp.out, HPL.out] at this
            have := HLE.out
            omega
          have hpx0 : 0 ≤ p * x := Int.mul_nonneg (by omega) (by omega)
          have hp6 : p ≤ 65536 := by
            have := prodL_drop_le (xs := xs) (k + 1) fun y hy => (HP.out y hy).1
            rw [← Hp.out, HPL.out] at this
            have := HLE.out
            omega
          have hcell : wr.cell? ⟨w.heap.size, k, none⟩ = some (.int .i64 0) := hown.cellAt (by rw [List.getElem?_append_left (by simp)]; simp)
          have hfz := hown.frozenAt k
          have hset := hown.set_ k p
          have hbel2 : Below w.heap.size w (wr.setCell ⟨w.heap.size, k, none⟩ (.int .i64 p)) := hbel.setCell (Nat.le_refl _) _
          have hcx := (HX.out.below hbel2).cell_ hx
          have HST := Lib.hid hst
          have hlist : (List.replicate (k + 1) 0 ++ (strF xs).drop (k + 1)).set k p = List.replicate k 0 ++ (strF xs).drop k := by
            rw [set_zero, strF_drop (xs := xs) (k := k) (by rw [HX.out.1]; exact hkn), Hp.out]
          rw [hlist] at hset
          clear hlist hst hx
          have hj1 : (1 : Int) ≤ (n : Int) := by omega
          go_wp2_with fail
          go_roundw
          case rel => exact ⟨k, j + 1, Lib.hid (by have := Hd.out; omega), by omega, by go_num, p * x, rfl, Lib.hid (by rw [HST.out, Hp.out]), hset, hbel2⟩
          case measure => first | (simp [intOf]; done) | (simp [intOf]; omega)
        · obtain rfl : d = 0 := by have := Hd.out; omega
          go_wp2_with fail
          go_ret
          exact ⟨_, rfl, by rw [HE.out]; simpa using hown, hbel⟩
  · have e : L = [] := by rw [hL]; unfold strL; rw [if_neg h0]
    subst e
    clear hL
    have h01 : (chkE xs == 0) = false := beq_eq_false_iff_ne.2 h0
    have h02 : (chkE xs != 0) = true := by simpa using h0
    clear h0
    generalize celN xs = N at *
    generalize chkE xs = E at *
    have P1 := Lib.hid P1
    rename_i P0; clear P0
    go_enter Try.func39, Try.ntmps39
    go_wp2_with fail
    refine P1.out.mono ?_
    rintro e w' ⟨rfl, rfl⟩
    go_wp2_with fail
    go_ret
    exact ⟨_, rfl, own_nil _ _, Below.refl _ _⟩
end Go.Proofs.Ytaegkiangjnmdaa.strd
