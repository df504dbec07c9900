/- Contracts of shape.count, Check, Cells and of their references: one answer for both. -/
import Derived.Test.YtbadbjcommdjgaaProd
namespace Go.Proofs.Ytbadbjcommdjgaa.shp
open Go.ChangeShapes Go.WideShapes Go.ChangeAt Go.RowKit Go.Proofs.Ytbadbjcommdjgaa.mem Go.Proofs.Ytbadbjcommdjgaa.mul Go.Proofs.Ytbadbjcommdjgaa.prod
set_option linter.unusedVariables false

def chkE (xs : List Int) : Int := if totE prodStep 1 xs = 0 then (if 16 < xs.length then 7 else 0) else totE prodStep 1 xs
def celN (xs : List Int) : Int := if chkE xs = 0 then totN prodStep 1 xs else 0

theorem tot_err {f : Int → Int → Int} {s : Int} {xs : List Int} (h : ¬ totE f s xs = 0) : totN f s xs = 0 := by
  unfold totE at h; unfold totN
  cases h1 : xs.foldl anyNeg false <;> cases h2 : xs.foldl anyBig false <;> simp [h1, h2] at h ⊢
  omega
theorem tot_e (f : Int → Int → Int) (s : Int) (xs : List Int) : totE f s xs = 0 ∨ totE f s xs = 6 ∨ totE f s xs = 7 := by
  unfold totE
  split
  · exact .inr (.inl rfl)
  · split
    · exact .inr (.inr rfl)
    · split
      · exact .inr (.inr rfl)
      · exact .inl rfl
theorem tot_pos {f : Int → Int → Int} {s : Int} {xs : List Int} (hp : ∀ x ∈ xs, 0 ≤ x) : totE f s xs = 0 ∨ totE f s xs = 7 := by
  unfold totE; rw [neg_not hp]
  simp only [Bool.false_eq_true, if_false]
  split
  · exact .inr rfl
  · split
    · exact .inr rfl
    · exact .inl rfl
theorem chk_e (xs : List Int) : chkE xs = 0 ∨ chkE xs = 6 ∨ chkE xs = 7 := by
  have := tot_e prodStep 1 xs
  unfold chkE
  split
  · split <;> omega
  · omega
theorem chk_neg {xs : List Int} {x : Int} (hx : x ∈ xs) (h : x < 0) : chkE xs = 6 := by
  unfold chkE; rw [(neg_answers (f := prodStep) (s := 1) hx h).2]; rfl
theorem chk_len {xs : List Int} (h : chkE xs = 0) : xs.length ≤ 16 ∧ totE prodStep 1 xs = 0 := by
  unfold chkE at h
  split at h
  · rename_i h1
    split at h
    · omega
    · exact ⟨by omega, h1⟩
  · omega
theorem chk_all {xs : List Int} (h : chkE xs = 0) : ∀ x ∈ xs, 0 ≤ x ∧ x ≤ 65536 := by
  have h2 := (chk_len h).2
  unfold totE at h2
  cases h3 : xs.foldl anyNeg false
  · cases h4 : xs.foldl anyBig false
    · exact in_range h3 h4
    · simp [h3, h4] at h2
  · simp [h3] at h2
theorem cel_range (xs : List Int) : 0 ≤ celN xs ∧ celN xs ≤ 65536 := by
  by_cases h : chkE xs = 0
  · have hr := chk_all h
    have hs := step_range prodStep prod_range xs 1 (by omega) (by omega) hr
    unfold celN totN
    rw [if_pos h]
    split
    · omega
    · split <;> omega
  · unfold celN; rw [if_neg h]; omega

theorem count_any (A : Option Addr) (n c : Nat) (xs : List Int) (w : World) (hn : n ≤ maxLen) (hc : Rd w A n xs) :
    Calls Try.prog 39 #[.slice A n c] w fun e w' => e = .returned (.tuple #[.int .i64 (celN xs), .int .i64 (chkE xs)]) ∧ w = w' := by
  have hl := hc.1
  have P1 := prod_any A n c xs w hn hc
  clear hc
  unfold maxLen at hn
  by_cases hE : totE prodStep 1 xs = 0
  · rw [hE] at P1
    have P1 := Lib.hid P1
    rename_i P0; clear P0
    by_cases h16 : 16 < n
    · have a1 : chkE xs = 7 := by unfold chkE; rw [if_pos hE, if_pos (by omega)]
      have a2 : celN xs = 0 := by unfold celN; rw [if_neg (by omega)]
      rw [a1, a2]
      clear a1 a2 hE hl
      generalize totN prodStep 1 xs = N at *
      go_enter Try.func39, Try.ntmps39
      go_wp2_with fail
      refine P1.out.mono ?_
      rintro e w' ⟨rfl, rfl⟩
      go_wp2_with fail
      go_ret2
      exact ⟨rfl, rfl⟩
    · have a1 : chkE xs = 0 := by unfold chkE; rw [if_pos hE, if_neg (by omega)]
      have a2 : celN xs = totN prodStep 1 xs := by unfold celN; rw [if_pos (by omega)]
      rw [a1, a2]
      clear a1 a2 hE hl
      generalize totN prodStep 1 xs = N at *
      go_enter Try.func39, Try.ntmps39
      go_wp2_with fail
      refine P1.out.mono ?_
      rintro e w' ⟨rfl, rfl⟩
      go_wp2_with fail
      go_ret2
      exact ⟨rfl, rfl⟩
  · have a1 : chkE xs = totE prodStep 1 xs := by unfold chkE; rw [if_neg hE]
    have a2 : celN xs = totN prodStep 1 xs := by unfold celN; rw [if_neg (by omega), tot_err hE]
    rw [a1, a2]
    clear a1 a2 hl
    have hE : (totE prodStep 1 xs == 0) = false := beq_eq_false_iff_ne.2 hE
    rename_i hE'; clear hE'
    generalize totN prodStep 1 xs = N at *
    generalize totE prodStep 1 xs = E at *
    have P1 := Lib.hid P1
    rename_i P0; clear P0
    go_enter Try.func39, Try.ntmps39
    go_wp2_with fail
    refine P1.out.mono ?_
    rintro e w' ⟨rfl, rfl⟩
    go_wp2_with fail
    go_ret2
    exact ⟨rfl, rfl⟩

theorem check_any (A : Option Addr) (n c : Nat) (xs : List Int) (w : World) (hn : n ≤ maxLen) (hc : Rd w A n xs) :
    Calls Try.prog 28 #[.slice A n c] w fun e w' => e = .returned (.int .i64 (chkE xs)) ∧ w = w' := by
  have P1 := Lib.hid (count_any A n c xs w hn hc)
  clear hc
  generalize celN xs = N at *
  generalize chkE xs = E at *
  go_enter Try.func28, Try.ntmps28
  go_wp2_with fail
  refine P1.out.mono ?_
  rintro e w' ⟨rfl, rfl⟩
  go_wp2_with fail
  go_ret
  exact ⟨rfl, rfl⟩
theorem cells_any (A : Option Addr) (n c : Nat) (xs : List Int) (w : World) (hn : n ≤ maxLen) (hc : Rd w A n xs) :
    Calls Try.prog 29 #[.slice A n c] w fun e w' => e = .returned (.int .i64 (celN xs)) ∧ w = w' := by
  have P1 := Lib.hid (count_any A n c xs w hn hc)
  clear hc
  generalize celN xs = N at *
  generalize chkE xs = E at *
  go_enter Try.func29, Try.ntmps29
  go_wp2_with fail
  refine P1.out.mono ?_
  rintro e w' ⟨rfl, rfl⟩
  go_wp2_with fail
  go_ret
  exact ⟨rfl, rfl⟩

theorem refCheck_any (A : Option Addr) (n c : Nat) (xs : List Int) (w : World) (hn : n ≤ maxLen) (hc : Rd w A n xs) :
    Calls Try.prog 22 #[.slice A n c] w fun e w' => e = .returned (.int .i64 (chkE xs)) ∧ w = w' := by
  have HL := Lib.hid hc.1
  have P1 := Lib.hid (refProduct_any A n c xs w hn hc)
  have HC := Lib.hid hc; clear hc
  unfold maxLen at hn
  obtain ⟨E, hE⟩ : ∃ E, E = chkE xs := ⟨_, rfl⟩
  rw [← hE]
  have HE := Lib.hid hE; clear hE
  go_enter Try.func22, Try.ntmps22
  go_wp2_with fail
  go_loop [3] (fun i => ∃ k : Nat, k ≤ n ∧ i = .int .i64 k ∧ Hid (∀ y ∈ xs.take k, 0 ≤ y)) (fun i => n - (intOf i).toNat)
  case atStart => exact ⟨0, Nat.zero_le _, rfl, Lib.hid (by simp)⟩
  case round =>
    obtain ⟨k, hk, rfl, Hs⟩ := hrel
    by_cases hlt : k < n
    · obtain ⟨ad, x, rfl, hx, hcell⟩ := HC.out.at_ hlt
      by_cases hneg : x < 0
      · have HE2 := Lib.hid (HE.out.trans (chk_neg (mem_at hx) hneg))
        have Hx := Lib.hid hx; clear hx
        go_wp2_with fail
        go_ret
        exact ⟨ret_int HE2.out.symm, rfl⟩
      · have Hx := Lib.hid hx; clear hx
        go_wp2_with fail
        go_round
        case rel => exact ⟨k + 1, by omega, by go_num, Lib.hid (all_snoc Hx.out Hs.out (by omega))⟩
        case measure => simp [intOf]; omega
    · have ha := all_take HL.out hlt Hs.out
      have h07 := tot_pos (f := prodStep) (s := 1) ha
      have HA := Lib.hid ha; clear ha
      have HT : Hid (∃ T, T = totE prodStep 1 xs) := Lib.hid ⟨_, rfl⟩
      obtain ⟨T, hT⟩ := HT.out
      rw [← hT] at P1 h07
      have HT := Lib.hid hT; clear hT
      generalize totN prodStep 1 xs = N at *
      by_cases h16 : 16 < n
      · have HE2 : Hid (E = 7) := Lib.hid (by
          rw [HE.out]; unfold chkE; rw [← HT.out]
          split
          · rw [if_pos (by rw [HL.out]; omega)]
          · omega)
        clear h07
        go_wp2_with fail
        refine P1.out.mono ?_
        rintro e w' ⟨rfl, rfl⟩
        go_wp2_with fail
        go_ret
        exact ⟨ret_int HE2.out.symm, rfl⟩
      · rcases h07 with h0 | h7
        · have HE2 : Hid (E = 0) := Lib.hid (by
            rw [HE.out]; unfold chkE; rw [← HT.out, if_pos h0, if_neg (by rw [HL.out]; omega)])
          subst h0
          go_wp2_with fail
          refine P1.out.mono ?_
          rintro e w' ⟨rfl, rfl⟩
          go_wp2_with fail
          go_ret
          exact ⟨ret_int HE2.out.symm, rfl⟩
        · have HE2 : Hid (E = 7) := Lib.hid (by
            rw [HE.out]; unfold chkE; rw [← HT.out, if_neg (by omega)]; exact h7)
          subst h7
          go_wp2_with fail
          refine P1.out.mono ?_
          rintro e w' ⟨rfl, rfl⟩
          go_wp2_with fail
          go_ret
          exact ⟨ret_int HE2.out.symm, rfl⟩
theorem refCells_any (A : Option Addr) (n c : Nat) (xs : List Int) (w : World) (hn : n ≤ maxLen) (hc : Rd w A n xs) :
    Calls Try.prog 27 #[.slice A n c] w fun e w' => e = .returned (.int .i64 (celN xs)) ∧ w = w' := by
  have P1 := Lib.hid (refProduct_any A n c xs w hn hc)
  have P2 := refCheck_any A n c xs w hn hc
  clear hc
  by_cases h0 : chkE xs = 0
  · have e : celN xs = totN prodStep 1 xs := by unfold celN; rw [if_pos h0]
    rw [e]; clear e
    rw [h0] at P2
    have P2 := Lib.hid P2
    rename_i P2'; clear P2' h0
    generalize totN prodStep 1 xs = N at *
    generalize totE prodStep 1 xs = E at *
    go_enter Try.func27, Try.ntmps27
    go_wp2_with fail
    refine P2.out.mono ?_
    rintro e w' ⟨rfl, rfl⟩
    go_wp2_with fail
    refine P1.out.mono ?_
    rintro e w' ⟨rfl, rfl⟩
    go_wp2_with fail
    go_ret
    exact ⟨rfl, rfl⟩
  · have e : celN xs = 0 := by unfold celN; rw [if_neg h0]
    rw [e]; clear e
    have hE : (chkE xs != 0) = true := by simpa using h0
    have hE2 : (chkE xs == 0) = false := by simpa using h0
    clear h0
    generalize chkE xs = E at *
    have P2 := Lib.hid P2
    rename_i P2'; clear P2'
    go_enter Try.func27, Try.ntmps27
    go_wp2_with fail
    refine P2.out.mono ?_
    rintro e w' ⟨rfl, rfl⟩
    go_wp2_with fail
    go_ret
    exact ⟨rfl, rfl⟩
end Go.Proofs.Ytbadbjcommdjgaa.shp
