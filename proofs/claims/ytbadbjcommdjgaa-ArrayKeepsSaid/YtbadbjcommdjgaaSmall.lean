/- The reference's Small: whether a shape is right, with few axes and cells. -/
import Derived.Test.YtbadbjcommdjgaaGammaMath
namespace Go.Proofs.Ytbadbjcommdjgaa.sml
open Go.ChangeShapes Go.WideShapes Go.ChangeAt Go.RowKit Go.Proofs.Ytbadbjcommdjgaa.mem Go.Proofs.Ytbadbjcommdjgaa.mul Go.Proofs.Ytbadbjcommdjgaa.prod Go.Proofs.Ytbadbjcommdjgaa.shp Go.Proofs.Ytbadbjcommdjgaa.strd Go.Proofs.Ytbadbjcommdjgaa.gam
set_option linter.unusedVariables false

/-- The dimensions, none of them below 1. -/
def maxL (xs : List Int) : List Int := xs.map fun x => if x < 1 then 1 else x
def smlB (xs : List Int) (most : Int) : Bool := decide (xs.length ≤ 6 ∧ chkE xs = 0 ∧ celN xs ≤ most ∧ prodL (maxL xs) ≤ 100 * most)

theorem maxL_pos {xs : List Int} : ∀ y ∈ maxL xs, 1 ≤ y := by
  intro y hy
  unfold maxL at hy
  obtain ⟨x, _, rfl⟩ := List.mem_map.1 hy
  split <;> omega
theorem maxL_at {xs : List Int} {k : Nat} {x : Int} (h : xs[k]? = some x) : (maxL xs)[k]? = some (if x < 1 then 1 else x) := by
  unfold maxL; rw [List.getElem?_map, h]; rfl
theorem maxL_len (xs : List Int) : (maxL xs).length = xs.length := by simp [maxL]
theorem prodL_append : ∀ (xs ys : List Int), prodL (xs ++ ys) = prodL xs * prodL ys
  | [], ys => by show prodL ys = 1 * prodL ys; omega
  | x :: xs, ys => by
    show prodL (xs ++ ys) * x = prodL xs * x * prodL ys
    rw [prodL_append xs ys, Int.mul_assoc, Int.mul_comm (prodL ys), ← Int.mul_assoc]
theorem prodL_max : ∀ {xs : List Int}, (∀ x ∈ xs, 0 ≤ x) → 0 ≤ prodL xs ∧ prodL xs ≤ prodL (maxL xs)
  | [], _ => by simp [prodL, maxL]
  | x :: xs, h => by
    have ih := prodL_max (xs := xs) fun z hz => h z (by simp [hz])
    have hx := h x (by simp)
    have hp := prodL_pos (maxL_pos (xs := xs))
    show 0 ≤ prodL xs * x ∧ prodL xs * x ≤ prodL (maxL xs) * (if x < 1 then 1 else x)
    refine ⟨Int.mul_nonneg ih.1 hx, ?_⟩
    split
    · have : x = 0 := by omega
      subst this
      omega
    · exact Int.mul_le_mul_of_nonneg_right ih.2 hx
theorem prodL_take_le {xs : List Int} (h : ∀ x ∈ xs, 0 ≤ x) (k : Nat) : 0 ≤ prodL (xs.take k) ∧ prodL (xs.take k) ≤ prodL (maxL xs) := by
  have h1 := prodL_max (xs := xs.take k) fun z hz => h z (List.mem_of_mem_take hz)
  have h2 : prodL (maxL xs) = prodL (maxL (xs.take k)) * prodL (maxL (xs.drop k)) := by
    rw [← prodL_append]
    congr 1
    unfold maxL
    rw [← List.map_append, List.take_append_drop]
  have h3 := prodL_pos (maxL_pos (xs := xs.take k))
  have h4 := prodL_pos (maxL_pos (xs := xs.drop k))
  have h5 := Int.mul_le_mul_of_nonneg_left h4 (by omega : 0 ≤ prodL (maxL (xs.take k)))
  omega
theorem sml_step {xs : List Int} {k : Nat} {x t : Int} (hx : xs[k]? = some x) (h : t * prodL ((maxL xs).drop k) = prodL (maxL xs)) :
    t * (if x < 1 then 1 else x) * prodL ((maxL xs).drop (k + 1)) = prodL (maxL xs) := by
  rw [← h, prodL_step (maxL_at hx), Int.mul_assoc, Int.mul_comm (if x < 1 then 1 else x)]
theorem sml_le {xs : List Int} {k : Nat} {t : Int} (ht : 0 ≤ t) (h : t * prodL ((maxL xs).drop k) = prodL (maxL xs)) : t ≤ prodL (maxL xs) := by
  have h1 := prodL_pos (xs := (maxL xs).drop k) fun z hz => maxL_pos z (List.mem_of_mem_drop hz)
  have h2 := Int.mul_le_mul_of_nonneg_left h1 ht
  omega

set_option maxHeartbeats 1000000 in
theorem small_any (A : Option Addr) (n c : Nat) (xs : List Int) (most : Int) (w : World) (hn : n ≤ maxLen) (hx : Rd w A n xs) (hm1 : 1 ≤ most) (hm2 : most ≤ 65536) :
    Calls Try.prog 23 #[.slice A n c, .int .i64 most] w fun e w' => e = .returned (.bool (smlB xs most)) ∧ w = w' := by
  have PC := refCheck_any A n c xs w hn hx
  have PN := refCells_any A n c xs w hn hx
  have hcr := cel_range xs
  unfold maxLen at hn
  obtain ⟨r, hr⟩ : ∃ r, r = smlB xs most := ⟨_, rfl⟩
  rw [← hr]
  have HX := Lib.hid hx
  have HR := Lib.hid hr; clear hr hx
  by_cases h6 : 6 < n
  · have HE := Lib.hid (show r = false by rw [HR.out]; exact decide_eq_false (by rw [HX.out.1]; omega))
    clear PC PN
    go_enter Try.func23, Try.ntmps23
    go_wp2_with fail
    go_ret
    exact ⟨ret_bool HE.out.symm, rfl⟩
  · by_cases h0 : chkE xs = 0
    · have ha := chk_all h0
      have HA := Lib.hid ha; clear ha
      have H0 := Lib.hid h0
      rw [h0] at PC
      by_cases hN : most < celN xs
      · have HE := Lib.hid (show r = false by rw [HR.out]; exact decide_eq_false (by omega))
        generalize celN xs = N at *
        have PC := Lib.hid PC
        have PN := Lib.hid PN
        rename_i q1 q2; clear q1 q2 h0
        go_enter Try.func23, Try.ntmps23
        go_wp2_with fail
        refine PC.out.mono ?_
        rintro e w' ⟨rfl, rfl⟩
        go_wp2_with fail
        refine PN.out.mono ?_
        rintro e w' ⟨rfl, rfl⟩
        go_wp2_with fail
        go_ret
        exact ⟨ret_bool HE.out.symm, rfl⟩
      · have HRR := Lib.hid (show r = decide (prodL (maxL xs) ≤ 100 * most) by
          rw [HR.out]; unfold smlB; rw [decide_eq_decide]; rw [HX.out.1]
          exact ⟨fun h => h.2.2.2, fun h => ⟨by omega, H0.out, by omega, h⟩⟩)
        have hN2 : celN xs ≤ most := by omega
        clear hN
        generalize celN xs = N at *
        have PC := Lib.hid PC
        have PN := Lib.hid PN
        rename_i q1 q2; clear q1 q2 h0
        go_enter Try.func23, Try.ntmps23
        go_wp2_with fail
        refine PC.out.mono ?_
        rintro e w' ⟨rfl, rfl⟩
        go_wp2_with fail
        refine PN.out.mono ?_
        rintro e w' ⟨rfl, rfl⟩
        go_wp2_with fail
        go_loop [5, 6] (fun s i => ∃ k : Nat, k ≤ n ∧ i = .int .i64 k ∧ ∃ t : Int, s = .int .i64 t ∧ 1 ≤ t ∧ t ≤ 6553600 ∧ Hid (t ≤ 100 * most) ∧ Hid (t * prodL ((maxL xs).drop k) = prodL (maxL xs))) (fun _ i => n - (intOf i).toNat)
        case atStart => exact ⟨0, Nat.zero_le _, rfl, 1, rfl, by omega, by omega, Lib.hid (by omega), Lib.hid (by rw [List.drop_zero, Int.one_mul])⟩
        case round =>
          obtain ⟨k, hk, rfl, t, rfl, ht1, ht2, Ht, Hs⟩ := hrel
          by_cases hlt : k < n
          · obtain ⟨ad, x, rfl, hx, hcell⟩ := HX.out.at_ hlt
            have hxr := HA.out x (mem_at hx)
            have hx0 := hxr.1
            have hx2 := hxr.2
            have hst := sml_step hx Hs.out
            clear hx hxr
            by_cases hx1 : x < 1
            · rw [if_pos hx1, Int.mul_one] at hst
              have HST := Lib.hid hst
              obtain rfl : x = 0 := by omega
              have htm : ¬ 100 * most < t := by have := Ht.out; omega
              clear hst hx1
              go_wp2_with fail
              go_round
              case rel => exact ⟨k + 1, by omega, by go_num, t, rfl, ht1, ht2, Ht, HST⟩
              case measure => first | (simp [intOf]; done) | (simp [intOf]; omega)
            · rw [if_neg hx1] at hst
              have HST := Lib.hid hst
              have hp1 : 1 ≤ t * x := by
                have := Int.mul_le_mul ht1 (show (1 : Int) ≤ x by omega) (by omega) (by omega)
                omega
              have hp2 : t * x ≤ 6553600 * 65536 := Int.mul_le_mul ht2 hx2 hx0 (by omega)
              have hxx : ¬ x ≤ 1 ∨ x = 1 := by omega
              clear hst
              by_cases hgt : 100 * most < t * x
              · have HE := Lib.hid (show r = false by rw [HRR.out]; exact decide_eq_false (by have := sml_le (by omega) HST.out; omega))
                clear hxx
                go_wp2_with fail
                all_goals
                  go_ret
                  exact ⟨ret_bool HE.out.symm, rfl⟩
              · have HT2 := Lib.hid (show t * x ≤ 6553600 by omega)
                have HT3 := Lib.hid (show t * x ≤ 100 * most by omega)
                have HT1 := Lib.hid hp1
                clear hxx
                go_wp2_with fail
                all_goals
                  go_round
                  case rel => exact ⟨k + 1, by omega, by go_num, t * x, by first | rfl | (congr 1; omega), HT1.out, HT2.out, HT3, HST⟩
                  case measure => first | (simp [intOf]; done) | (simp [intOf]; omega)
          · have HE := Lib.hid (show r = true by
              rw [HRR.out]; refine decide_eq_true ?_
              rw [← Hs.out, List.drop_of_length_le (by rw [maxL_len, HX.out.1]; omega)]
              have := Ht.out
              show t * 1 ≤ _
              omega)
            go_wp2_with fail
            go_ret
            exact ⟨ret_bool HE.out.symm, rfl⟩
    · have HE := Lib.hid (show r = false by rw [HR.out]; exact decide_eq_false fun h => h0 h.2.1)
      have h01 : (chkE xs != 0) = true := by simpa using h0
      generalize chkE xs = E at *
      have PC := Lib.hid PC
      rename_i q1; clear q1 PN h0
      go_enter Try.func23, Try.ntmps23
      go_wp2_with fail
      refine PC.out.mono ?_
      rintro e w' ⟨rfl, rfl⟩
      go_wp2_with fail
      go_ret
      exact ⟨ret_bool HE.out.symm, rfl⟩
end Go.Proofs.Ytbadbjcommdjgaa.sml
