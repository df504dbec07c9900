/- size.Mul: its contract. -/
import Derived.Test.YtaegkiangjnmdaaMem
namespace Go.Proofs.Ytaegkiangjnmdaa.mul
open Go.ChangeShapes Go.WideShapes Go.ChangeAt Go.RowKit
set_option linter.unusedVariables false

def mulN (a b l : Int) : Int := if a < 0 ∨ b < 0 ∨ l < a ∨ l < b ∨ l < a * b then 0 else a * b
def mulB (a b l : Int) : Bool := decide (0 ≤ a ∧ 0 ≤ b ∧ a ≤ l ∧ b ≤ l ∧ a * b ≤ l)

theorem mul_wrong {a b l : Int} (w : World) (h : a < 0 ∨ b < 0 ∨ l < a ∨ l < b) :
    Calls Try.prog 55 #[.int .i64 a, .int .i64 b, .int .i64 l] w fun e w' => e = .returned (.tuple #[.int .i64 0, .bool false]) ∧ w = w' := by
  by_cases h1 : a < 0
  · go_enter Try.func55, Try.ntmps55
    go_wp2
    go_ret2
    exact ⟨rfl, rfl⟩
  by_cases h2 : b < 0
  · go_enter Try.func55, Try.ntmps55
    go_wp2
    go_ret2
    exact ⟨rfl, rfl⟩
  by_cases h3 : l < a
  · go_enter Try.func55, Try.ntmps55
    go_wp2
    go_ret2
    exact ⟨rfl, rfl⟩
  have h4 : l < b := by omega
  go_enter Try.func55, Try.ntmps55
  go_wp2
  go_ret2
  exact ⟨rfl, rfl⟩

theorem mul_zero {b l : Int} (w : World) (h : 0 ≤ b) (hl : b ≤ l) :
    Calls Try.prog 55 #[.int .i64 0, .int .i64 b, .int .i64 l] w fun e w' => e = .returned (.tuple #[.int .i64 0, .bool true]) ∧ w = w' := by
  have h0 : 0 ≤ l := by omega
  go_enter Try.func55, Try.ntmps55
  go_wp2
  go_ret2
  exact ⟨rfl, rfl⟩

theorem mul_great {a b l : Int} (w : World) (h : 0 < a) (hb : 0 ≤ b) (ha : a ≤ l) (hbl : b ≤ l) (hm : l < 9223372036854775808) (hg : l / a < b) :
    Calls Try.prog 55 #[.int .i64 a, .int .i64 b, .int .i64 l] w fun e w' => e = .returned (.tuple #[.int .i64 0, .bool false]) ∧ w = w' := by
  go_enter Try.func55, Try.ntmps55
  go_wp2
  go_ret2
  exact ⟨rfl, rfl⟩

theorem mul_right {a b l : Int} (w : World) (h : 0 < a) (hb : 0 ≤ b) (ha : a ≤ l) (hbl : b ≤ l) (hm : l < 9223372036854775808) (hg : ¬ l / a < b) (hp : a * b ≤ l) (hp0 : 0 ≤ a * b) :
    Calls Try.prog 55 #[.int .i64 a, .int .i64 b, .int .i64 l] w fun e w' => e = .returned (.tuple #[.int .i64 (a * b), .bool true]) ∧ w = w' := by
  go_enter Try.func55, Try.ntmps55
  go_wp2
  go_ret2
  exact ⟨rfl, rfl⟩

theorem mul_any {a b l : Int} (w : World) (hm : l < 9223372036854775808) :
    Calls Try.prog 55 #[.int .i64 a, .int .i64 b, .int .i64 l] w fun e w' => e = .returned (.tuple #[.int .i64 (mulN a b l), .bool (mulB a b l)]) ∧ w = w' := by
  by_cases h : a < 0 ∨ b < 0 ∨ l < a ∨ l < b
  · have h1 : mulN a b l = 0 := by unfold mulN; rw [if_pos (by omega)]
    have h2 : mulB a b l = false := by unfold mulB; exact decide_eq_false (by omega)
    rw [h1, h2]
    exact mul_wrong w h
  by_cases h0 : a = 0
  · subst h0
    have h1 : mulN 0 b l = 0 := by unfold mulN; split <;> omega
    have h2 : mulB 0 b l = true := by unfold mulB; exact decide_eq_true (by omega)
    rw [h1, h2]
    exact mul_zero w (by omega) (by omega)
  have hp0 : 0 ≤ a * b := Int.mul_nonneg (by omega) (by omega)
  by_cases hg : l / a < b
  · have hlt : l < a * b := by
      have := Int.lt_mul_of_ediv_lt (by omega : 0 < a) hg
      rwa [Int.mul_comm] at this
    have h1 : mulN a b l = 0 := by unfold mulN; rw [if_pos (by omega)]
    have h2 : mulB a b l = false := by unfold mulB; exact decide_eq_false (by omega)
    rw [h1, h2]
    exact mul_great w (by omega) (by omega) (by omega) (by omega) hm hg
  · have hle : a * b ≤ l := by
      have := Int.mul_le_of_le_ediv (by omega : 0 < a) (by omega : b ≤ l / a)
      rwa [Int.mul_comm] at this
    have h1 : mulN a b l = a * b := by unfold mulN; rw [if_neg (by omega)]
    have h2 : mulB a b l = true := by unfold mulB; exact decide_eq_true (by omega)
    rw [h1, h2]
    exact mul_right w (by omega) (by omega) (by omega) (by omega) hm hg hle hp0

end Go.Proofs.Ytaegkiangjnmdaa.mul
