/- The fixed examples of the chapter hold: awake answers true. -/
import Derived.Test.YtledmpldchpidaaRefs
namespace Go.Proofs.Ytledmpldchpidaa.fold
open Go.ChangeShapes Go.WideShapes Go.ChangeAt Go.RowKit Go.Proofs.Ytledmpldchpidaa.nums
set_option linter.unusedVariables false

theorem rd_new (W : World) (t : TypeId) (xs : List Int) : Rd (W.alloc (.cells (xs.map (Value.int .i64)).toArray t)) (some ⟨W.heap.size, 0, none⟩) xs.length xs := by
  refine ⟨rfl, fun k hk => ⟨_, rfl, by simp, ?_⟩⟩
  rw [show (⟨W.heap.size, 0, none⟩ : Addr).add k = ⟨W.heap.size, k, none⟩ from by unfold Addr.add; split <;> simp_all]
  rw [cell_of_row _ _ _ _ t (0, 0) (heap_alloc_new W _)]
  simp [List.getElem?_eq_getElem hk]

theorem prod_at (W : World) (b n : Nat) (cs : Array Value) (t : TypeId) (xs : List Int) (hb : b = W.heap.size) (hcs : cs = (xs.map (Value.int .i64)).toArray) (hn : n = xs.length) (hm : n ≤ maxLen) (N E : Int)
    (hN : totN prodStep 1 xs = N) (hE : totE prodStep 1 xs = E) :
    Calls Try.prog 9 #[.slice (some ⟨b, 0, none⟩) n n] (W.alloc (.cells cs t)) fun e w' => e = .returned (.tuple #[.int .i64 N, .int .i64 E]) ∧ W.alloc (.cells cs t) = w' := by
  subst hb hcs hn hN hE
  exact prod_any _ _ _ xs _ hm (rd_new W t xs)
theorem sum_at (W : World) (b n : Nat) (cs : Array Value) (t : TypeId) (xs : List Int) (hb : b = W.heap.size) (hcs : cs = (xs.map (Value.int .i64)).toArray) (hn : n = xs.length) (hm : n ≤ maxLen) (N E : Int)
    (hN : totN sumStep 0 xs = N) (hE : totE sumStep 0 xs = E) :
    Calls Try.prog 11 #[.slice (some ⟨b, 0, none⟩) n n] (W.alloc (.cells cs t)) fun e w' => e = .returned (.tuple #[.int .i64 N, .int .i64 E]) ∧ W.alloc (.cells cs t) = w' := by
  subst hb hcs hn hN hE
  exact sum_any _ _ _ xs _ hm (rd_new W t xs)
theorem mul_at (a b l N : Int) (B : Bool) (w : World) (hm : l < 9223372036854775808) (hN : mulN a b l = N) (hB : mulB a b l = B) :
    Calls Try.prog 13 #[.int .i64 a, .int .i64 b, .int .i64 l] w fun e w' => e = .returned (.tuple #[.int .i64 N, .bool B]) ∧ w = w' := by
  subst hN hB; exact mul_any w hm

theorem awake_true (w : World) :
    Calls Try.prog 8 #[] w fun e w' => e = .returned (.bool true) ∧ Grown w w' ∧ Below w.heap.size w w' := by
  go_enter Try.func8, Try.ntmps8
  go_wp2_with fail
  refine (prod_at _ _ _ _ _ [256, 256] rfl rfl rfl (by decide) 65536 0 (by decide) (by decide)).mono ?_
  rintro e w' ⟨rfl, rfl⟩
  go_wp2_with fail
  refine (prod_at _ _ _ _ _ [256, 256, 2] (by simp) rfl rfl (by decide) 0 7 (by decide) (by decide)).mono ?_
  rintro e w' ⟨rfl, rfl⟩
  go_wp2_with fail
  refine (prod_at _ _ _ _ _ [0, 65537] (by simp) rfl rfl (by decide) 0 7 (by decide) (by decide)).mono ?_
  rintro e w' ⟨rfl, rfl⟩
  go_wp2_with fail
  refine (sum_at _ _ _ _ _ [3, 4] (by simp) rfl rfl (by decide) 7 0 (by decide) (by decide)).mono ?_
  rintro e w' ⟨rfl, rfl⟩
  go_wp2_with fail
  refine (mul_at 6 7 42 42 true _ (by decide) (by decide) (by decide)).mono ?_
  rintro e w' ⟨rfl, rfl⟩
  go_wp2_with fail
  refine (mul_at 6 7 41 0 false _ (by decide) (by decide) (by decide)).mono ?_
  rintro e w' ⟨rfl, rfl⟩
  go_wp2_with fail
  refine (dimension_any (v := 9) _ (by decide) (by decide)).mono ?_
  rintro e w' ⟨rfl, rfl⟩
  go_wp2_with fail
  refine (magnitude_any (v := -9) _ (by decide) (by decide)).mono ?_
  rintro e w' ⟨rfl, rfl⟩
  go_wp2_with fail
  refine (mod_some (k := -1) (n := 5) _ (by decide) (by decide) (by decide) (by decide)).mono ?_
  rintro e w' ⟨rfl, rfl⟩
  go_wp2_with fail
  go_ret
  exact ⟨rfl, by repeat (first | exact Grown.refl _ | apply Grown.drew | apply Grown.alloc), by repeat (first | exact Below.refl _ _ | (refine Below.alloc ?_ (by simp; omega) _) | (refine Below.alloc ?_ (Nat.le_refl _) _) | (refine Below.alloc ?_ (by simp) _))⟩
end Go.Proofs.Ytledmpldchpidaa.fold
