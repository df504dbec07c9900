/- Contracts of the functions of package size that take integers only, continued: Dimension, Magnitude, Mod, and their references. -/
import Derived.Test.YtledmpldchpidaaNums
import Derived.Lib.Hide
namespace Go.Proofs.Ytledmpldchpidaa.nums
open Go.ChangeShapes Go.WideShapes Go.ChangeAt Go.RowKit
set_option linter.unusedVariables false

def dimN (v : Int) : Int := if v < 0 ∨ 65536 < v then 0 else v
def dimE (v : Int) : Int := if v < 0 then 6 else if 65536 < v then 7 else 0
def magN (v : Int) : Int := if v < -65536 ∨ 65536 < v then 0 else if v < 0 then -v else v
def magE (v : Int) : Int := if v < -65536 ∨ 65536 < v then 7 else 0

theorem ret_int {k : IntKind} {a b : Int} (h : a = b) : Ending.returned (.int k a) = .returned (.int k b) := by rw [h]
theorem ret_two {k k' : IntKind} {a b c d : Int} (h : a = b) (g : c = d) : Ending.returned (.tuple #[.int k a, .int k' c]) = .returned (.tuple #[.int k b, .int k' d]) := by rw [h, g]

theorem dimension_any {v : Int} (w : World) (h1 : -9223372036854775808 ≤ v) (h2 : v ≤ 9223372036854775807) :
    Calls Try.prog 14 #[.int .i64 v] w fun e w' => e = .returned (.tuple #[.int .i64 (dimN v), .int .i64 (dimE v)]) ∧ w = w' := by
  by_cases a : v < 0
  · go_enter Try.func14, Try.ntmps14
    go_wp2
    go_ret2
    exact ⟨ret_two (by unfold dimN; rw [if_pos (by omega)]) (by unfold dimE; rw [if_pos (by omega)]), rfl⟩
  by_cases b : 65536 < v
  · go_enter Try.func14, Try.ntmps14
    go_wp2
    go_ret2
    exact ⟨ret_two (by unfold dimN; rw [if_pos (by omega)]) (by unfold dimE; rw [if_neg (by omega), if_pos (by omega)]), rfl⟩
  go_enter Try.func14, Try.ntmps14
  go_wp2
  go_ret2
  exact ⟨ret_two (by unfold dimN; rw [if_neg (by omega)]) (by unfold dimE; rw [if_neg (by omega), if_neg (by omega)]), rfl⟩

theorem refDimension_any {v : Int} (w : World) (h1 : -9223372036854775808 ≤ v) (h2 : v ≤ 9223372036854775807) :
    Calls Try.prog 15 #[.int .i64 v] w fun e w' => e = .returned (.tuple #[.int .i64 (dimN v), .int .i64 (dimE v)]) ∧ w = w' := by
  by_cases a : v < 0
  · go_enter Try.func15, Try.ntmps15
    go_wp2
    go_ret2
    exact ⟨ret_two (by unfold dimN; rw [if_pos (by omega)]) (by unfold dimE; rw [if_pos (by omega)]), rfl⟩
  by_cases b : 65536 < v
  · go_enter Try.func15, Try.ntmps15
    go_wp2
    go_ret2
    exact ⟨ret_two (by unfold dimN; rw [if_pos (by omega)]) (by unfold dimE; rw [if_neg (by omega), if_pos (by omega)]), rfl⟩
  go_enter Try.func15, Try.ntmps15
  go_wp2
  go_ret2
  exact ⟨ret_two (by unfold dimN; rw [if_neg (by omega)]) (by unfold dimE; rw [if_neg (by omega), if_neg (by omega)]), rfl⟩

theorem magnitude_any {v : Int} (w : World) (h1 : -9223372036854775808 ≤ v) (h2 : v ≤ 9223372036854775807) :
    Calls Try.prog 16 #[.int .i64 v] w fun e w' => e = .returned (.tuple #[.int .i64 (magN v), .int .i64 (magE v)]) ∧ w = w' := by
  by_cases a : v < -65536
  · go_enter Try.func16, Try.ntmps16
    go_wp2
    go_ret2
    exact ⟨ret_two (by unfold magN; rw [if_pos (by omega)]) (by unfold magE; rw [if_pos (by omega)]), rfl⟩
  by_cases b : 65536 < v
  · go_enter Try.func16, Try.ntmps16
    go_wp2
    go_ret2
    exact ⟨ret_two (by unfold magN; rw [if_pos (by omega)]) (by unfold magE; rw [if_pos (by omega)]), rfl⟩
  go_enter Try.func16, Try.ntmps16
  go_wp2
  all_goals
    go_ret2
    exact ⟨ret_two (by unfold magN; rw [if_neg (by omega)]; split <;> omega) (by unfold magE; rw [if_neg (by omega)]), rfl⟩

theorem refMagnitude_any {v : Int} (w : World) (h1 : -9223372036854775808 ≤ v) (h2 : v ≤ 9223372036854775807) :
    Calls Try.prog 17 #[.int .i64 v] w fun e w' => e = .returned (.tuple #[.int .i64 (magN v), .int .i64 (magE v)]) ∧ w = w' := by
  by_cases a : v < -65536 ∨ 65536 < v
  · have c : 65536 < v ∨ ¬ 65536 < v := by omega
    rcases c with c | c
    all_goals
      go_enter Try.func17, Try.ntmps17
      go_wp2
      go_ret2
      exact ⟨ret_two (by unfold magN; rw [if_pos (by omega)]) (by unfold magE; rw [if_pos (by omega)]), rfl⟩
  by_cases b : v < 0
  · go_enter Try.func17, Try.ntmps17
    go_wp2
    go_ret2
    exact ⟨ret_two (by unfold magN; rw [if_neg (by omega), if_pos (by omega)]) (by unfold magE; rw [if_neg (by omega)]), rfl⟩
  go_enter Try.func17, Try.ntmps17
  go_wp2
  go_ret2
  exact ⟨ret_two (by unfold magN; rw [if_neg (by omega), if_neg (by omega)]) (by unfold magE; rw [if_neg (by omega)]), rfl⟩

theorem mod_none {k n : Int} (w : World) (hn : n ≤ 0) :
    Calls Try.prog 18 #[.int .i64 k, .int .i64 n] w fun e w' => e = .returned (.int .i64 0) ∧ w = w' := by
  go_enter Try.func18, Try.ntmps18
  go_wp2
  go_ret
  exact ⟨rfl, rfl⟩

theorem mod_some {k n : Int} (w : World) (hn : 0 < n) (hN : n ≤ 9223372036854775807) (h1 : -9223372036854775808 ≤ k) (h2 : k ≤ 9223372036854775807) :
    Calls Try.prog 18 #[.int .i64 k, .int .i64 n] w fun e w' => e = .returned (.int .i64 (k % n)) ∧ w = w' := by
  by_cases a : 0 ≤ k
  · have b1 : 0 ≤ k % n := Int.emod_nonneg _ (by omega)
    have b2 : k % n < n := Int.emod_lt_of_pos _ hn
    go_enter Try.func18, Try.ntmps18
    go_wp2
    go_ret
    exact ⟨rfl, rfl⟩
  · have b2 : k.tmod n ≤ 0 := by
      have h := Int.tmod_nonneg (a := -k) n (by omega)
      rw [Int.neg_tmod] at h; omega
    have b1 : -n < k.tmod n := by
      have h := Int.tmod_lt_of_pos (-k) hn
      rw [Int.neg_tmod] at h; omega
    have b3 := Int.tmod_eq_emod (a := k) (b := n)
    by_cases c : k.tmod n < 0
    · have b4 : k.tmod n + n = k % n := by
        rw [Int.tmod_eq_emod] at c ⊢
        split at c
        · have := Int.emod_nonneg k (b := n) (by omega); omega
        · rename_i hx
          have : (n.natAbs : Int) = n := by omega
          rw [if_neg hx]; omega
      have H := Lib.hid b4; clear b4 b3
      go_enter Try.func18, Try.ntmps18
      go_wp2
      go_ret
      exact ⟨ret_int H.out, rfl⟩
    · have b4 : k.tmod n = k % n := by
        have z : k.tmod n = 0 := by omega
        have d : n ∣ k := Int.dvd_of_tmod_eq_zero z
        rw [z, Int.emod_eq_zero_of_dvd d]
      have H := Lib.hid b4; clear b4 b3
      go_enter Try.func18, Try.ntmps18
      go_wp2
      go_ret
      exact ⟨ret_int H.out, rfl⟩

/-- The reference's two loops. -/
theorem refMod_some {k n : Int} (w : World) (hn : 0 < n) (hN : n ≤ 1048576) (h1 : -100000 ≤ k) (h2 : k ≤ 100000) :
    Calls Try.prog 19 #[.int .i64 k, .int .i64 n] w fun e w' => e = .returned (.int .i64 (k % n)) ∧ w = w' := by
  obtain ⟨m, hm⟩ : ∃ m, m = k % n := ⟨_, rfl⟩
  rw [← hm]
  have Hm := Lib.hid hm; clear hm
  go_enter Try.func19, Try.ntmps19
  go_wp2
  go_loop [0] (fun x => ∃ j : Int, x = .int .i64 j ∧ -100000 ≤ j ∧ j ≤ 1048576 ∧ Hid (j % n = m)) (fun x => (- intOf x).toNat)
  case atStart => exact ⟨k, rfl, by omega, by omega, Lib.hid Hm.out.symm⟩
  case round =>
    obtain ⟨j, rfl, j1, j2, Hj⟩ := hrel
    by_cases hlt : j < 0
    · go_wp2
      go_round
      case rel => exact ⟨j + n, rfl, by omega, by omega, Lib.hid (by rw [Int.add_emod_right]; exact Hj.out)⟩
      case measure => simp [intOf]; omega
    · go_wp2
      go_loop [0] (fun x => ∃ j : Int, x = .int .i64 j ∧ 0 ≤ j ∧ j ≤ 1048576 ∧ Hid (j % n = m)) (fun x => (intOf x).toNat)
      case atStart => exact ⟨j, rfl, by omega, by omega, Hj⟩
      case round =>
        obtain ⟨i, rfl, i1, i2, Hi⟩ := hrel
        by_cases hge : n ≤ i
        · go_wp2
          go_round
          case rel => exact ⟨i - n, rfl, by omega, by omega, Lib.hid (by rw [Int.sub_emod_right]; exact Hi.out)⟩
          case measure => simp [intOf]; omega
        · go_wp2
          go_ret
          exact ⟨ret_int (by rw [← Hi.out]; exact (Int.emod_eq_of_lt (by omega) (by omega)).symm), rfl⟩
end Go.Proofs.Ytledmpldchpidaa.nums
