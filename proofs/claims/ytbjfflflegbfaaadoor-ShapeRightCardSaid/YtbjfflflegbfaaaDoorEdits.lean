/- shape.Replace, Insert and Remove: what they make; and the reference's Insert and Remove. -/
import Derived.Test.YtbjfflflegbfaaaDoorEdit
namespace Go.Proofs.YtbjfflflegbfaaaDoor.edit
open Go.ChangeShapes Go.WideShapes Go.ChangeAt Go.RowKit Go.Proofs.YtbjfflflegbfaaaDoor.mem Go.Proofs.YtbjfflflegbfaaaDoor.cat
set_option linter.unusedVariables false

theorem Rd.alloc {w : World} {A : Option Addr} {n : Nat} {xs : List Int} (h : Rd w A n xs) (o : Obj) : Rd (w.alloc o) A n xs := Rd.below h ((Below.refl _ _).alloc (Nat.le_refl _) _)
theorem box_cell (w : World) (x : Int) (t : TypeId) : (w.alloc (.cells #[.int .i64 x] t)).cell? ⟨w.heap.size, 0, none⟩ = some (.int .i64 x) := by
  rw [cell_of_row _ _ _ _ t (0, 0) (heap_alloc_new w _)]; rfl
theorem below_of_alloc {w w1 : World} (o : Obj) (h : Below (w.alloc o).heap.size (w.alloc o) w1) : Below w.heap.size w w1 :=
  ((Below.refl _ _).alloc (Nat.le_refl _) o).trans (h.mono (by simp))
theorem MakesE.alloc {w : World} (o : Obj) {xs : List Int} {err : Int} {e : Ending} {w' : World} (h : MakesE (w.alloc o) xs err e w') : MakesE w xs err e w' := by
  obtain ⟨v, rfl, h1, h2⟩ := h
  exact ⟨v, rfl, h1.le (by simp), below_of_alloc o h2⟩

/-- What an edit without such an axis leaves: nothing old has turned. -/
def NoAxisB (w : World) (e : Ending) (w' : World) : Prop := e = .returned (.tuple #[.slice none 0 0, .int .i64 4]) ∧ Below w.heap.size w w'

theorem insert_none (A : Option Addr) (n c : Nat) (k x : Int) (w : World) (hn : n ≤ maxLen) (h : k < 0 ∨ (n : Int) < k) :
    Calls Tryd.prog 19 #[.slice A n c, .int .i64 k, .int .i64 x] w (NoAxisB w) := by
  have P1 := fun F W => Lib.hid (edit_none A n c 0 k F W hn (by omega) (by omega))
  go_enter Tryd.func19, Tryd.ntmps19
  go_wp2_with fail
  refine (P1 _ _).out.mono ?_
  rintro e w' ⟨rfl, rfl⟩
  go_wp2_with fail
  go_ret2
  exact ⟨rfl, (Below.refl _ _).alloc (Nat.le_refl _) _⟩
theorem insert_some (A : Option Addr) (n c : Nat) (xs : List Int) (k : Nat) (x : Int) (w : World) (hnc : n ≤ c) (hcm : c ≤ maxLen) (hA : A = none → c = 0) (h30 : n ≤ 1073741824) (hx : Rd w A n xs) (hk : k ≤ n) :
    Calls Tryd.prog 19 #[.slice A n c, .int .i64 k, .int .i64 x] w (MakesE w (xs.take k ++ [x] ++ xs.drop k) 0) := by
  have P1 := Lib.hid (edit_insert A n c xs k ⟨w.heap.size, 0, none⟩ x (w.alloc (.cells #[.int .i64 x] 3)) hnc hcm hA h30 (Rd.alloc hx _) hk (box_cell _ _ _))
  clear hx hA
  go_enter Tryd.func19, Tryd.ntmps19
  go_wp2_with fail
  refine P1.out.mono ?_
  intro e w1 hm
  obtain ⟨v, rfl, ho, hb⟩ := MakesE.alloc _ hm
  clear hm
  go_wp2_with fail
  go_ret2
  exact ⟨v, rfl, ho, hb⟩
theorem replace_none (A : Option Addr) (n c : Nat) (k x : Int) (w : World) (hn : n ≤ maxLen) (h : k < 0 ∨ (n : Int) ≤ k) :
    Calls Tryd.prog 18 #[.slice A n c, .int .i64 k, .int .i64 x] w (NoAxisB w) := by
  have P1 := fun F W => Lib.hid (edit_none A n c 1 k F W hn (by omega) (by omega))
  go_enter Tryd.func18, Tryd.ntmps18
  go_wp2_with fail
  refine (P1 _ _).out.mono ?_
  rintro e w' ⟨rfl, rfl⟩
  go_wp2_with fail
  go_ret2
  exact ⟨rfl, (Below.refl _ _).alloc (Nat.le_refl _) _⟩
theorem replace_some (A : Option Addr) (n c : Nat) (xs : List Int) (k : Nat) (x : Int) (w : World) (hnc : n ≤ c) (hcm : c ≤ maxLen) (hA : A = none → c = 0) (h30 : n ≤ 1073741824) (hx : Rd w A n xs) (hk : k + 1 ≤ n) :
    Calls Tryd.prog 18 #[.slice A n c, .int .i64 k, .int .i64 x] w (MakesE w (xs.take k ++ [x] ++ xs.drop (k + 1)) 0) := by
  have P1 := Lib.hid (edit_replace A n c xs k ⟨w.heap.size, 0, none⟩ x (w.alloc (.cells #[.int .i64 x] 3)) hnc hcm hA h30 (Rd.alloc hx _) hk (box_cell _ _ _))
  clear hx hA
  go_enter Tryd.func18, Tryd.ntmps18
  go_wp2_with fail
  refine P1.out.mono ?_
  intro e w1 hm
  obtain ⟨v, rfl, ho, hb⟩ := MakesE.alloc _ hm
  clear hm
  go_wp2_with fail
  go_ret2
  exact ⟨v, rfl, ho, hb⟩
theorem remove_none (A : Option Addr) (n c : Nat) (k : Int) (w : World) (hn : n ≤ maxLen) (h : k < 0 ∨ (n : Int) ≤ k) :
    Calls Tryd.prog 20 #[.slice A n c, .int .i64 k] w (NoAxisB w) := by
  have P1 := fun F W => Lib.hid (edit_none A n c 1 k F W hn (by omega) (by omega))
  go_enter Tryd.func20, Tryd.ntmps20
  go_wp2_with fail
  refine (P1 _ _).out.mono ?_
  rintro e w' ⟨rfl, rfl⟩
  go_wp2_with fail
  go_ret2
  exact ⟨rfl, Below.refl _ _⟩
theorem remove_some (A : Option Addr) (n c : Nat) (xs : List Int) (k : Nat) (w : World) (hnc : n ≤ c) (hcm : c ≤ maxLen) (hA : A = none → c = 0) (h30 : n ≤ 1073741824) (hx : Rd w A n xs) (hk : k + 1 ≤ n) :
    Calls Tryd.prog 20 #[.slice A n c, .int .i64 k] w (MakesE w (xs.take k ++ [] ++ xs.drop (k + 1)) 0) := by
  have P1 := Lib.hid (edit_remove A n c xs k w hnc hcm hA h30 hx hk)
  clear hx hA
  go_enter Tryd.func20, Tryd.ntmps20
  go_wp2_with fail
  refine P1.out.mono ?_
  intro e w1 hm
  obtain ⟨v, rfl, ho, hb⟩ := hm
  go_wp2_with fail
  go_ret2
  exact ⟨v, rfl, ho, hb⟩

end Go.Proofs.YtbjfflflegbfaaaDoor.edit
