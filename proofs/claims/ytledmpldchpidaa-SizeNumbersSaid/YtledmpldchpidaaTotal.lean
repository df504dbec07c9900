/- Contracts of total, Product and Sum of package size, and of their references. -/
import Derived.Test.YtledmpldchpidaaFold
namespace Go.Proofs.Ytledmpldchpidaa.fold
open Go.ChangeShapes Go.WideShapes Go.ChangeAt Go.RowKit Go.Proofs.Ytledmpldchpidaa.nums
set_option linter.unusedVariables false

/-- What Product (f = prodStep, start 1) and Sum (f = sumStep, start 0) answer. -/
def totN (f : Int → Int → Int) (start : Int) (xs : List Int) : Int :=
  if xs.foldl anyNeg false || xs.foldl anyBig false then 0 else if 65536 < xs.foldl f start then 0 else xs.foldl f start
def totE (f : Int → Int → Int) (start : Int) (xs : List Int) : Int :=
  if xs.foldl anyNeg false then 6 else if xs.foldl anyBig false then 7 else if 65536 < xs.foldl f start then 7 else 0

theorem foldl_or (p : Int → Bool) (s : Bool) (xs : List Int) : xs.foldl (fun so n => so || p n) s = (s || xs.any p) := by
  induction xs generalizing s with
  | nil => simp
  | cons x xs ih => rw [List.foldl_cons, ih]; simp [Bool.or_assoc]
theorem neg_any (xs : List Int) : xs.foldl anyNeg false = xs.any (fun n => decide (n < 0)) := by
  show xs.foldl (fun so n => so || decide (n < 0)) false = _
  rw [foldl_or]; simp
theorem big_any (xs : List Int) : xs.foldl anyBig false = xs.any (fun n => decide (65536 < n)) := by
  show xs.foldl (fun so n => so || decide (65536 < n)) false = _
  rw [foldl_or]; simp
theorem in_range {xs : List Int} (h1 : xs.foldl anyNeg false = false) (h2 : xs.foldl anyBig false = false) : ∀ x ∈ xs, 0 ≤ x ∧ x ≤ 65536 := by
  rw [neg_any] at h1; rw [big_any] at h2
  intro x hx
  have a := List.any_eq_false.1 h1 x hx
  have b := List.any_eq_false.1 h2 x hx
  simp at a b
  omega

theorem prod_total (A : Option Addr) (n c : Nat) (xs : List Int) (w : World) (hn : n ≤ maxLen) (hc : Rd w A n xs) :
    Calls Try.prog 20 #[.slice A n c, .int .i64 1, .func (.func 21) #[] #[]] w fun e w' => e = .returned (.tuple #[.int .i64 (totN prodStep 1 xs), .int .i64 (totE prodStep 1 xs)]) ∧ w = w' := by
  have HC := Lib.hid hc; clear hc
  cases hN : xs.foldl anyNeg false
  · have c1 := fold_neg A n c xs false w hn HC.out
    rw [hN] at c1
    have C1 := Lib.hid c1; clear c1
    have c2 := fold_big A n c xs false w hn HC.out
    cases hB : xs.foldl anyBig false
    · rw [hB] at c2
      have C2 := Lib.hid c2; clear c2
      have hr := in_range hN hB
      have hs := step_range prodStep prod_range xs 1 (by omega) (by omega) hr
      have C3 := Lib.hid (fold_prod A n c xs 1 w hn HC.out (by omega) (by omega) hr)
      obtain ⟨r, hr⟩ : ∃ r, r = xs.foldl prodStep 1 := ⟨_, rfl⟩
      rw [← hr] at hs C3
      have HN := Lib.hid hN; have HB := Lib.hid hB; have HR := Lib.hid hr; clear hN hB hr
      by_cases hg : 65536 < r
      all_goals
        go_enter Try.func20, Try.ntmps20
        go_wp2_with fail
        refine C1.out.mono ?_
        rintro e w' ⟨rfl, rfl⟩
        go_wp2_with fail
        refine C2.out.mono ?_
        rintro e w' ⟨rfl, rfl⟩
        go_wp2_with fail
        refine C3.out.mono ?_
        rintro e w' ⟨rfl, rfl⟩
        go_wp2_with fail
        go_ret2
      · exact ⟨ret_two (by unfold totN; rw [HN.out, HB.out, ← HR.out]; simp [hg]) (by unfold totE; rw [HN.out, HB.out, ← HR.out]; simp [hg]), rfl⟩
      · exact ⟨ret_two (by unfold totN; rw [HN.out, HB.out, ← HR.out]; simp; omega) (by unfold totE; rw [HN.out, HB.out, ← HR.out]; simp; omega), rfl⟩
    · rw [hB] at c2
      have C2 := Lib.hid c2; clear c2
      have HN := Lib.hid hN; have HB := Lib.hid hB; clear hN hB
      go_enter Try.func20, Try.ntmps20
      go_wp2_with fail
      refine C1.out.mono ?_
      rintro e w' ⟨rfl, rfl⟩
      go_wp2_with fail
      refine C2.out.mono ?_
      rintro e w' ⟨rfl, rfl⟩
      go_wp2_with fail
      go_ret2
      exact ⟨ret_two (by unfold totN; rw [HN.out, HB.out]; simp) (by unfold totE; rw [HN.out, HB.out]; simp), rfl⟩
  · have c1 := fold_neg A n c xs false w hn HC.out
    rw [hN] at c1
    have C1 := Lib.hid c1; clear c1
    have HN := Lib.hid hN; clear hN
    go_enter Try.func20, Try.ntmps20
    go_wp2_with fail
    refine C1.out.mono ?_
    rintro e w' ⟨rfl, rfl⟩
    go_wp2_with fail
    go_ret2
    exact ⟨ret_two (by unfold totN; rw [HN.out]; simp) (by unfold totE; rw [HN.out]; simp), rfl⟩

theorem prod_any (A : Option Addr) (n c : Nat) (xs : List Int) (w : World) (hn : n ≤ maxLen) (hc : Rd w A n xs) :
    Calls Try.prog 9 #[.slice A n c] w fun e w' => e = .returned (.tuple #[.int .i64 (totN prodStep 1 xs), .int .i64 (totE prodStep 1 xs)]) ∧ w = w' := by
  have C1 := Lib.hid (prod_total A n c xs w hn hc)
  clear hc
  obtain ⟨a, ha⟩ : ∃ a, a = totN prodStep 1 xs := ⟨_, rfl⟩
  obtain ⟨b, hb⟩ : ∃ b, b = totE prodStep 1 xs := ⟨_, rfl⟩
  rw [← ha, ← hb] at C1 ⊢
  clear ha hb
  go_enter Try.func9, Try.ntmps9
  go_wp2_with fail
  refine C1.out.mono ?_
  rintro e w' ⟨rfl, rfl⟩
  go_wp2_with fail
  go_ret2
  exact ⟨rfl, rfl⟩

theorem sum_total (A : Option Addr) (n c : Nat) (xs : List Int) (w : World) (hn : n ≤ maxLen) (hc : Rd w A n xs) :
    Calls Try.prog 20 #[.slice A n c, .int .i64 0, .func (.func 22) #[] #[]] w fun e w' => e = .returned (.tuple #[.int .i64 (totN sumStep 0 xs), .int .i64 (totE sumStep 0 xs)]) ∧ w = w' := by
  have HC := Lib.hid hc; clear hc
  cases hN : xs.foldl anyNeg false
  · have c1 := fold_neg A n c xs false w hn HC.out
    rw [hN] at c1
    have C1 := Lib.hid c1; clear c1
    have c2 := fold_big A n c xs false w hn HC.out
    cases hB : xs.foldl anyBig false
    · rw [hB] at c2
      have C2 := Lib.hid c2; clear c2
      have hr := in_range hN hB
      have hs := step_range sumStep sum_range xs 0 (by omega) (by omega) hr
      have C3 := Lib.hid (fold_sum A n c xs 0 w hn HC.out (by omega) (by omega) hr)
      obtain ⟨r, hr⟩ : ∃ r, r = xs.foldl sumStep 0 := ⟨_, rfl⟩
      rw [← hr] at hs C3
      have HN := Lib.hid hN; have HB := Lib.hid hB; have HR := Lib.hid hr; clear hN hB hr
      by_cases hg : 65536 < r
      all_goals
        go_enter Try.func20, Try.ntmps20
        go_wp2_with fail
        refine C1.out.mono ?_
        rintro e w' ⟨rfl, rfl⟩
        go_wp2_with fail
        refine C2.out.mono ?_
        rintro e w' ⟨rfl, rfl⟩
        go_wp2_with fail
        refine C3.out.mono ?_
        rintro e w' ⟨rfl, rfl⟩
        go_wp2_with fail
        go_ret2
      · exact ⟨ret_two (by unfold totN; rw [HN.out, HB.out, ← HR.out]; simp [hg]) (by unfold totE; rw [HN.out, HB.out, ← HR.out]; simp [hg]), rfl⟩
      · exact ⟨ret_two (by unfold totN; rw [HN.out, HB.out, ← HR.out]; simp; omega) (by unfold totE; rw [HN.out, HB.out, ← HR.out]; simp; omega), rfl⟩
    · rw [hB] at c2
      have C2 := Lib.hid c2; clear c2
      have HN := Lib.hid hN; have HB := Lib.hid hB; clear hN hB
      go_enter Try.func20, Try.ntmps20
      go_wp2_with fail
      refine C1.out.mono ?_
      rintro e w' ⟨rfl, rfl⟩
      go_wp2_with fail
      refine C2.out.mono ?_
      rintro e w' ⟨rfl, rfl⟩
      go_wp2_with fail
      go_ret2
      exact ⟨ret_two (by unfold totN; rw [HN.out, HB.out]; simp) (by unfold totE; rw [HN.out, HB.out]; simp), rfl⟩
  · have c1 := fold_neg A n c xs false w hn HC.out
    rw [hN] at c1
    have C1 := Lib.hid c1; clear c1
    have HN := Lib.hid hN; clear hN
    go_enter Try.func20, Try.ntmps20
    go_wp2_with fail
    refine C1.out.mono ?_
    rintro e w' ⟨rfl, rfl⟩
    go_wp2_with fail
    go_ret2
    exact ⟨ret_two (by unfold totN; rw [HN.out]; simp) (by unfold totE; rw [HN.out]; simp), rfl⟩

theorem sum_any (A : Option Addr) (n c : Nat) (xs : List Int) (w : World) (hn : n ≤ maxLen) (hc : Rd w A n xs) :
    Calls Try.prog 11 #[.slice A n c] w fun e w' => e = .returned (.tuple #[.int .i64 (totN sumStep 0 xs), .int .i64 (totE sumStep 0 xs)]) ∧ w = w' := by
  have C1 := Lib.hid (sum_total A n c xs w hn hc)
  clear hc
  obtain ⟨a, ha⟩ : ∃ a, a = totN sumStep 0 xs := ⟨_, rfl⟩
  obtain ⟨b, hb⟩ : ∃ b, b = totE sumStep 0 xs := ⟨_, rfl⟩
  rw [← ha, ← hb] at C1 ⊢
  clear ha hb
  go_enter Try.func11, Try.ntmps11
  go_wp2_with fail
  refine C1.out.mono ?_
  rintro e w' ⟨rfl, rfl⟩
  go_wp2_with fail
  go_ret2
  exact ⟨rfl, rfl⟩

end Go.Proofs.Ytledmpldchpidaa.fold
