/- Contracts of shape.count, Check, Cells and of their references: one answer for both. -/
import Derived.Test.YtaegkiangjnmdaaProd
namespace Go.Proofs.Ytaegkiangjnmdaa.shp
open Go.ChangeShapes Go.WideShapes Go.ChangeAt Go.RowKit Go.Proofs.Ytaegkiangjnmdaa.mem Go.Proofs.Ytaegkiangjnmdaa.mul Go.Proofs.Ytaegkiangjnmdaa.prod
set_option linter.unusedVariables false

def chkE (xs : List Int) : Int := if totE prodStep 1 xs = 0 then (if 16 < xs.length then 7 else 0) else totE prodStep 1 xs
def celN (xs : List Int) : Int := if chkE xs = 0 then totN prodStep 1 xs else 0

theorem tot_err {f : Int → Int → Int} {s : Int} {xs : List Int} (h : ¬ totE f s xs = 0) : totN f s xs = 0 := by
  unfold totE at h; unfold totN
  cases h1 : xs.foldl anyNeg false <;> cases h2 : xs.foldl anyBig false <;> simp [h1, h2] at h ⊢
  omega
theorem tot_e (f : Int → Int → Int) (s : Int) (xs : List Int) : totE f s xs = 0 ∨ totE f s xs = 6 ∨ totE f s xs = 7 := by
  unfold totE
  split
  · exact .inr (.inl rfl)
  · split
    · exact .inr (.inr rfl)
    · split
      · exact .inr (.inr rfl)
      · exact .inl rfl
theorem tot_pos {f : Int → Int → Int} {s : Int} {xs : List Int} (hp : ∀ x ∈ xs, 0 ≤ x) : totE f s xs = 0 ∨ totE f s xs = 7 := by
  unfold totE; rw [neg_not hp]
  simp only [Bool.false_eq_true, if_false]
  split
  · exact .inr rfl
  · split
    · exact .inr rfl
    · exact .inl rfl
theorem chk_e (xs : List Int) : chkE xs = 0 ∨ chkE xs = 6 ∨ chkE xs = 7 := by
  have := tot_e prodStep 1 xs
  unfold chkE
  split
  · split <;> omega
  · omega
theorem chk_neg {xs : List Int} {x : Int} (hx : x ∈ xs) (h : x < 0) : chkE xs = 6 := by
  unfold chkE; rw [(neg_answers (f := prodStep) (s := 1) hx h).2]; rfl
theorem chk_len {xs : List Int} (h : chkE xs = 0) : xs.length ≤ 16 ∧ totE prodStep 1 xs = 0 := by
  unfold chkE at h
  split at h
  · rename_i h1
    split at h
    · omega
    · exact ⟨by omega, h1⟩
  · omega
theorem chk_all {xs : List Int} (h : chkE xs = 0) : ∀ x ∈ xs, 0 ≤ x ∧ x ≤ 65536 := by
  have h2 := (chk_len h).2
  unfold totE at h2
  cases h3 : xs.foldl anyNeg false
  · cases h4 : xs.foldl anyBig false
    · exact in_range h3 h4
    · simp [h3, h4] at h2
  · simp [h3] at h2
theorem cel_range (xs : List Int) : 0 ≤ celN xs ∧ celN xs ≤ 65536 := by
  by_cases h : chkE xs = 0
  · have hr := chk_all h
    have hs := step_range prodStep prod_range xs 1 (by omega) (by omega) hr
    unfold celN totN
    rw [if_pos h]
    split
    · omega
    · split <;> omega
  · unfold celN; rw [if_neg h]; omega

theorem count_any (A : Option Addr) (n c : Nat) (xs : List Int) (w : World) (hn : n ≤ maxLen) (hc : Rd w A n xs) :
    Calls Try.prog 47 #[.slice A n c] w fun e w' => e = .returned (.tuple #[.int .i64 (celN xs), .int .i64 (chkE xs)]) ∧ w = w' := by
  have hl := hc.1
  have P1 := prod_any A n c xs w hn hc
  clear hc
  unfold maxLen at hn
  by_cases hE : totE prodStep 1 xs = 0
  · rw [hE] at P1
    have P1 := Lib.hid P1
    rename_i P0; clear P0
    by_cases h16 : 16 < n
    · have a1 : chkE xs = 7 := by unfold chkE; rw [if_pos hE, if_pos (by omega)]
      have a2 : celN xs = 0 := by unfold celN; rw [if_neg (by omega)]
      rw [a1, a2]
      clear a1 a2 hE hl
      generalize totN prodStep 1 xs = N at *
      go_enter Try.func47, Try.ntmps47
      go_wp2_with fail
      refine P1.out.mono ?_
      rintro e w' ⟨rfl, rfl⟩
      go_wp2_with fail
      go_ret2
      exact ⟨rfl, rfl⟩
    · have a1 : chkE xs = 0 := by unfold chkE; rw [if_pos hE, if_neg (by omega)]
      have a2 : celN xs = totN prodStep 1 xs := by unfold celN; rw [if_pos (by omega)]
      rw [a1, a2]
      clear a1 a2 hE hl
      generalize totN prodStep 1 xs = N at *
      go_enter Try.func47, Try.ntmps47
      go_wp2_with fail
      refine P1.out.mono ?_
      rintro e w' ⟨rfl, rfl⟩
      go_wp2_with fail
      go_ret2
      exact ⟨rfl, rfl⟩
  · have a1 : chkE xs = totE prodStep 1 xs := by unfold chkE; rw [if_neg hE]
    have a2 : celN xs = totN prodStep 1 xs := by unfold celN; rw [if_neg (by omega), tot_err hE]
    rw [a1, a2]
    clear a1 a2 hl
    have hE : (totE prodStep 1 xs == 0) = false := beq_eq_false_iff_ne.2 hE
    rename_i hE'; clear hE'
    generalize totN prodStep 1 xs = N at *
    generalize totE prodStep 1 xs = E at *
    have P1 := Lib.hid P1
    rename_i P0; clear P0
    go_enter Try.func47, Try.ntmps47
    go_wp2_with fail
    refine P1.out.mono ?_
    rintro e w' ⟨rfl, rfl⟩
    go_wp2_with fail
    go_ret2
    exact ⟨rfl, rfl⟩

theorem check_any (A : Option Addr) (n c : Nat) (xs : List Int) (w : World) (hn : n ≤ maxLen) (hc : Rd w A n xs) :
    Calls Try.prog 37 #[.slice A n c] w fun e w' => e = .returned (.int .i64 (chkE xs)) ∧ w = w' := by
  have P1 := Lib.hid (count_any A n c xs w hn hc)
  clear hc
  generalize celN xs = N at *
  generalize chkE xs = E at *
  go_enter Try.func37, Try.ntmps37
  go_wp2_with fail
  refine P1.out.mono ?_
  rintro e w' ⟨rfl, rfl⟩
  go_wp2_with fail
  go_ret
  exact ⟨rfl, rfl⟩
theorem cells_any (A : Option Addr) (n c : Nat) (xs : List Int) (w : World) (hn : n ≤ maxLen) (hc : Rd w A n xs) :
    Calls Try.prog 38 #[.slice A n c] w fun e w' => e = .returned (.int .i64 (celN xs)) ∧ w = w' := by
  have P1 := Lib.hid (count_any A n c xs w hn hc)
  clear hc
  generalize celN xs = N at *
  generalize chkE xs = E at *
  go_enter Try.func38, Try.ntmps38
  go_wp2_with fail
  refine P1.out.mono ?_
  rintro e w' ⟨rfl, rfl⟩
  go_wp2_with fail
  go_ret
  exact ⟨rfl, rfl⟩

end Go.Proofs.Ytaegkiangjnmdaa.shp
