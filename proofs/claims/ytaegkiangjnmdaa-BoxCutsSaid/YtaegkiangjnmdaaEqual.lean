/- slices.Equal and shape.Equal at integers, and the reference's Equal: whether two lists are the same. -/
import Derived.Test.YtaegkiangjnmdaaMem
import Derived.Deep.QuietTactic
import Derived.BigQuiet
import Derived.RegionTactic
namespace Go.Proofs.Ytaegkiangjnmdaa.eql
open Go.ChangeShapes Go.WideShapes Go.ChangeAt Go.RowKit Go.Proofs.Ytaegkiangjnmdaa.mem
set_option linter.unusedVariables false

/-- Whether two lists are the same. -/
def eqB (xs ys : List Int) : Bool := decide (xs = ys)
theorem eq_of {xs ys : List Int} (h : xs = ys) : eqB xs ys = true := decide_eq_true h
theorem ne_of {xs ys : List Int} (h : xs ≠ ys) : eqB xs ys = false := decide_eq_false h
theorem eq_len {xs ys : List Int} {n m : Nat} (h : n ≠ m) (hx : xs.length = n) (hy : ys.length = m) : eqB xs ys = false := ne_of fun e => h (by rw [← hx, ← hy, e])
theorem eq_elem {xs ys : List Int} {k : Nat} {x y : Int} (hx : xs[k]? = some x) (hy : ys[k]? = some y) (h : x ≠ y) : eqB xs ys = false := ne_of fun e => h (by subst e; rw [hx] at hy; exact Option.some.inj hy)
theorem eq_all {xs ys : List Int} {n k : Nat} (hx : xs.length = n) (hy : ys.length = n) (hk : ¬ k < n) (h : xs.take k = ys.take k) : eqB xs ys = true := eq_of (by rwa [List.take_of_length_le (by omega), List.take_of_length_le (by omega)] at h)
theorem eq_step {xs ys : List Int} {k : Nat} {x : Int} (hx : xs[k]? = some x) (hy : ys[k]? = some x) (h : xs.take k = ys.take k) : xs.take (k + 1) = ys.take (k + 1) := by rw [take_snoc hx, take_snoc hy, h]

/-- What a comparison answers. -/
def Says (w : World) (b : Bool) (e : Ending) (w' : World) : Prop := e = .returned (.bool b) ∧ Below w.heap.size w w'

theorem refEqual_num (A B : Option Addr) (n c m d : Nat) (xs ys : List Int) (w : World) (hn : n ≤ maxLen) (hm : m ≤ maxLen) (hx : Rd w A n xs) (hy : Rd w B m ys) :
    Calls Try.prog 22 #[.slice A n c, .slice B m d] w fun e w' => e = .returned (.bool (eqB xs ys)) ∧ ∃ q, w' = w.drewN q := by
  unfold maxLen at hn hm
  have HX := Lib.hid hx; have HY := Lib.hid hy; clear hx hy
  by_cases hnm : n = m
  · subst hnm
    obtain ⟨r, hr⟩ : ∃ r, r = eqB xs ys := ⟨_, rfl⟩
    rw [← hr]
    have HR := Lib.hid hr; clear hr
    go_enter Try.func22, Try.ntmps22
    go_wp2_with fail
    go_loopw [5] (fun i wr => ∃ k q : Nat, k ≤ n ∧ i = .int .i64 k ∧ wr = w.drewN q ∧ Hid (xs.take k = ys.take k)) (fun i _ => n - (intOf i).toNat)
    case atStart => exact ⟨0, 0, Nat.zero_le _, rfl, rfl, Lib.hid rfl⟩
    case round =>
      obtain ⟨k, q, hk, rfl, rfl, Hs⟩ := hrel
      by_cases hlt : k < n
      · obtain ⟨ad1, x, rfl, hx, hc1⟩ := HX.out.at_ hlt
        obtain ⟨ad2, y, rfl, hy, hc2⟩ := HY.out.at_ hlt
        by_cases hxy : x = y
        · subst hxy
          have Hx := Lib.hid hx; have Hy := Lib.hid hy; clear hx hy
          go_wp2_with fail
          go_quiet (fail)
          go_wp2_with fail
          go_roundw
          case rel => exact ⟨k + 1, _, by omega, by go_num, rfl, Lib.hid (eq_step Hx.out Hy.out Hs.out)⟩
          case measure => simp [intOf]; omega
        · have HE := Lib.hid (HR.out.trans (eq_elem hx hy hxy))
          have Hx := Lib.hid hx; have Hy := Lib.hid hy; clear hx hy
          go_wp2_with fail
          go_quiet (fail)
          go_wp2_with fail
          go_ret
          exact ⟨ret_bool HE.out.symm, by first | exact ⟨_, rfl⟩ | exact ⟨_, by rw [World.drewN_drewN]⟩⟩
      · have HE := Lib.hid (HR.out.trans (eq_all HX.out.1 HY.out.1 hlt Hs.out))
        go_wp2_with fail
        go_ret
        exact ⟨ret_bool HE.out.symm, by first | exact ⟨_, rfl⟩ | exact ⟨_, by rw [World.drewN_drewN]⟩⟩
  · have hr := eq_len hnm HX.out.1 HY.out.1
    rw [hr]
    clear hr
    have hnm' : ¬ (n : Int) = (m : Int) := by omega
    go_enter Try.func22, Try.ntmps22
    go_wp2_with fail
    go_ret
    exact ⟨rfl, 0, rfl⟩
theorem refEqual_any (A B : Option Addr) (n c m d : Nat) (xs ys : List Int) (w : World) (hn : n ≤ maxLen) (hm : m ≤ maxLen) (hx : Rd w A n xs) (hy : Rd w B m ys) :
    Calls Try.prog 22 #[.slice A n c, .slice B m d] w (Says w (eqB xs ys)) := by
  refine (refEqual_num A B n c m d xs ys w hn hm hx hy).mono ?_
  rintro e w' ⟨rfl, q, rfl⟩
  exact ⟨rfl, below_drewN (Below.refl _ _) q⟩
end Go.Proofs.Ytaegkiangjnmdaa.eql
