/- The reference's Decimal: the decimal numeral. -/
import Derived.Test.YthgojbaindejjaaGreatDoorMem
import Derived.Lib.ItoaMem
import Derived.Lib.ItoaLen
import Derived.Laws.Concat
namespace Go.Proofs.YthgojbaindejjaaGreatDoor.txt
open Go.ChangeShapes Go.WideShapes Go.ChangeAt Go.RowKit Go.Proofs.YthgojbaindejjaaGreatDoor.mem
set_option linter.unusedVariables false

def strOf (l : List UInt8) : ByteArray := ⟨l.toArray⟩
theorem strOf_append (a b : List UInt8) : strOf a ++ strOf b = strOf (a ++ b) := by
  apply ByteArray.ext
  simp [strOf]
theorem digits_step {u : Nat} (h : 10 ≤ u) : Lib.decDigits u = Lib.decDigits (u / 10) ++ Lib.decDigits (u % 10) := by
  rw [Lib.decDigits, dif_neg (by omega), Lib.decDigits_one (by omega : u % 10 < 10)]

theorem strOf_size (a : List UInt8) : (strOf a).size = a.length := by simp [strOf, ByteArray.size]
theorem cat_run (a b : List UInt8) (h : a.length + b.length ≤ 9000000000000000000) (W : World) : (Op.stringOp .add (strOf a) (strOf b)).run Tryz.prog W = .ok (.string (strOf (a ++ b))) W := by
  rw [run_string_add_sum W _ _ (by rw [strOf_size, strOf_size]; omega), strOf_append]
theorem digits_len (u : Nat) (h : u < 18446744073709551616) : (Lib.decDigits u).length ≤ 20 := by rw [Lib.decDigits_length]; exact Lib.nDigits_le20 u h

set_option maxRecDepth 100000 in
theorem digit_run (d : Nat) (hd : d < 10) (W : World) :
    (Instr.slice 9 (Value.string ⟨#[48, 49, 50, 51, 52, 53, 54, 55, 56, 57]⟩) (some (.int .i64 (d : Int))) (some (.int .i64 ((d : Int) + 1))) none).run Tryz.prog W = .ok (.string (strOf (Lib.decDigits d))) W := by
  rw [Lib.decDigits_one hd]
  match d, hd with
  | 0, _ => rfl
  | 1, _ => rfl
  | 2, _ => rfl
  | 3, _ => rfl
  | 4, _ => rfl
  | 5, _ => rfl
  | 6, _ => rfl
  | 7, _ => rfl
  | 8, _ => rfl
  | 9, _ => rfl

theorem decimal_nat (u : Nat) : u ≤ 9223372036854775807 → ∀ w : World, Calls Tryz.prog 35 #[.int .i64 u] w fun e w' => e = .returned (.string (strOf (Lib.decDigits u))) ∧ w = w' := by
  induction u using Nat.strongRecOn with
  | _ u ih =>
    intro hu w
    by_cases hlt : u < 10
    · have h0 : (0 : Int) ≤ (u : Int) := by omega
      have h1 : (u : Int) < 10 := by omega
      have hm : (u : Int) % 10 = (u : Int) := by omega
      have hs := digit_run u hlt
      clear ih
      go_enter Tryz.func35, Tryz.ntmps35
      go_wp2_with fail
      go_ret
      exact ⟨rfl, rfl⟩
    · have h0 : (0 : Int) ≤ (u : Int) := by omega
      have h1 : ¬ (u : Int) < 10 := by omega
      have hst := digits_step (u := u) (by omega)
      obtain ⟨d, hd⟩ : ∃ d, d = u % 10 := ⟨_, rfl⟩
      obtain ⟨q, hq⟩ : ∃ q, q = u / 10 := ⟨_, rfl⟩
      have hm : (u : Int) % 10 = (d : Int) := by omega
      have hdv : (u : Int) / 10 = (q : Int) := by omega
      have hs := digit_run d (by omega)
      have IH := Lib.hid (ih q (by omega) (by omega) w)
      rw [← hd, ← hq] at hst
      have HST := Lib.hid hst
      have hd9 : (d : Int) + 1 ≤ 10 := by omega
      have hd0 : (0 : Int) ≤ (d : Int) := by omega
      have hcat := cat_run (Lib.decDigits q) (Lib.decDigits d) (by have := digits_len q (by omega); have := digits_len d (by omega); omega)
      clear ih hst hd hq
      go_enter Tryz.func35, Tryz.ntmps35
      go_wp2_with fail
      refine IH.out.mono ?_
      rintro e w' ⟨rfl, rfl⟩
      go_wp2_with fail
      go_ret
      exact ⟨ret_str (by rw [HST.out]), rfl⟩

theorem decimal_any (n : Int) (h1 : -9223372036854775808 ≤ n) (h2 : n ≤ 9223372036854775807) (w : World) :
    Calls Tryz.prog 35 #[.int .i64 n] w fun e w' => e = .returned (.string (strOf (Lib.itoa n))) ∧ w = w' := by
  by_cases h0 : 0 ≤ n
  · obtain ⟨u, rfl⟩ : ∃ u : Nat, n = u := ⟨n.toNat, by omega⟩
    rw [Lib.itoa_nonneg]
    exact decimal_nat u (by omega) w
  · by_cases hmin : n = -9223372036854775808
    · have he : strOf (Lib.itoa n) = ⟨#[45, 57, 50, 50, 51, 51, 55, 50, 48, 51, 54, 56, 53, 52, 55, 55, 53, 56, 48, 56]⟩ := by
        subst hmin
        have : (-9223372036854775808 : Int) = -((9223372036854775808 : Nat) : Int) := rfl
        rw [this, Lib.itoa_neg _ (by omega)]
        repeat (first | rw [digits_step (by omega)] | rw [Lib.decDigits_one (by omega)])
        simp [strOf]
      rw [he]
      have hn : (n == -9223372036854775808) = true := by simpa using hmin
      have hneg : n < 0 := by omega
      clear hmin he h0 h1 h2
      go_enter Tryz.func35, Tryz.ntmps35
      go_wp2_with fail
      go_ret
      exact ⟨rfl, rfl⟩
    · obtain ⟨u, hu⟩ : ∃ u : Nat, -n = u := ⟨(-n).toNat, by omega⟩
      have he : strOf (Lib.itoa n) = strOf [45] ++ strOf (Lib.decDigits u) := by
        rw [show n = -(u : Int) from by omega, Lib.itoa_neg _ (by omega), strOf_append]; rfl
      have HE := Lib.hid he
      have IH := Lib.hid (decimal_nat u (by omega) w)
      have hn : (n == -9223372036854775808) = false := beq_eq_false_iff_ne.2 hmin
      have hneg : n < 0 := by omega
      have hb : -9223372036854775807 ≤ n := by omega
      have hcat : ∀ W, (Op.stringOp .add ⟨#[45]⟩ (strOf (Lib.decDigits u))).run Tryz.prog W = .ok (.string (strOf ([45] ++ Lib.decDigits u))) W := cat_run [45] (Lib.decDigits u) (by have := digits_len u (by omega); simp; omega)
      clear hmin he h0
      go_enter Tryz.func35, Tryz.ntmps35
      go_wp2_with fail
      refine IH.out.mono ?_
      rintro e w' ⟨rfl, rfl⟩
      go_wp2_with fail
      go_ret
      exact ⟨ret_str (by rw [HE.out, strOf_append]; rfl), rfl⟩
end Go.Proofs.YthgojbaindejjaaGreatDoor.txt
