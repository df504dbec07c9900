/- Words for memory over slices of integers: a slice that reads as a list, a row of the call's own, append, make. -/
import Derived.Test.YthgojbaindejjaaGreatDoorRows
import Derived.WalkKit
import Derived.ProofKit
import Derived.OpenShut
import Derived.Lib.Hide
import Derived.Maps.AppendAt
import Derived.Deep.AppendLies
import Derived.Laws.AppendOwnNone
import Derived.Laws.OwnMore
import Derived.OwnWalk
import Derived.Lib.SmallJoins
namespace Go.Proofs.YthgojbaindejjaaGreatDoor.mem
open Go.ChangeShapes Go.WideShapes Go.ChangeAt Go.RowKit
set_option linter.unusedVariables false

theorem ret_int {k : IntKind} {a b : Int} (h : a = b) : Ending.returned (.int k a) = .returned (.int k b) := by rw [h]
theorem ret_two {k k' : IntKind} {a b c d : Int} (h : a = b) (g : c = d) : Ending.returned (.tuple #[.int k a, .int k' c]) = .returned (.tuple #[.int k b, .int k' d]) := by rw [h, g]
theorem ret_bool {a b : Bool} (h : a = b) : Ending.returned (.bool a) = .returned (.bool b) := by rw [h]
theorem ret_str {a b : ByteArray} (h : a = b) : Ending.returned (.string a) = .returned (.string b) := by rw [h]

theorem int_info : (Tryz.prog.info? 3).map (fun i => (i.zero, i.size, i.bytes)) = some (some (.int .i64 0), 1, 8) := by kernel_rfl

theorem blk_add (a : Addr) (n : Nat) : (a.add n).block = a.block := by unfold Addr.add; split <;> rfl
theorem adr_add (a : Addr) (i j : Nat) : (a.add i).add j = a.add (i + j) := by
  unfold Addr.add
  by_cases hi : i = 0 <;> by_cases hj : j = 0 <;> simp [hi, hj, Nat.add_assoc]
theorem add_at (g j : Nat) : (⟨g, 0, none⟩ : Addr).add j = ⟨g, j, none⟩ := by unfold Addr.add; split <;> simp_all

/-- The slice value reads as the list of integers. -/
def Rd (w : World) (A : Option Addr) (n : Nat) (xs : List Int) : Prop :=
  xs.length = n ∧ ∀ k, k < n → ∃ ad, A = some ad ∧ ad.block < w.heap.size ∧ w.cell? (ad.add k) = some (.int .i64 (xs.getD k 0))

theorem Rd.below {w w' : World} {A : Option Addr} {n : Nat} {xs : List Int} (h : Rd w A n xs) (hb : Below w.heap.size w w') : Rd w' A n xs :=
  ⟨h.1, fun k hk => by
    obtain ⟨ad, ha, hlt, hc⟩ := h.2 k hk
    exact ⟨ad, ha, Nat.lt_of_lt_of_le hlt hb.size, (hb.cell (by unfold Addr.add; split <;> exact hlt)).trans hc⟩⟩
theorem Rd.at_ {w : World} {A : Option Addr} {n : Nat} {xs : List Int} (h : Rd w A n xs) {k : Nat} (hk : k < n) :
    ∃ ad x, A = some ad ∧ xs[k]? = some x ∧ w.cell? (ad.add k) = some (.int .i64 x) := by
  obtain ⟨ad, ha, _, hc⟩ := h.2 k hk
  have hl : k < xs.length := by rw [h.1]; exact hk
  refine ⟨ad, xs[k], ha, List.getElem?_eq_getElem hl, ?_⟩
  rw [hc, List.getD, List.getElem?_eq_getElem hl]; rfl
theorem Rd.nil_ {w : World} {A : Option Addr} : Rd w A 0 [] := ⟨rfl, fun k hk => absurd hk (by omega)⟩
theorem Rd.take {w : World} {A : Option Addr} {n : Nat} {xs : List Int} (h : Rd w A n xs) {k : Nat} (hk : k ≤ n) : Rd w A k (xs.take k) :=
  ⟨by rw [List.length_take, h.1]; omega, fun j hj => by
    obtain ⟨ad, ha, hlt, hc⟩ := h.2 j (by omega)
    refine ⟨ad, ha, hlt, hc.trans ?_⟩
    rw [List.getD, List.getD, List.getElem?_take, if_pos hj]⟩
theorem Rd.cut {w : World} {A : Option Addr} {n c : Nat} {xs : List Int} (h : Rd w A n xs) {k : Nat} (hk : k ≤ n) (hc : n ≤ c) :
    Rd w (if c = k then A else A.map (·.add k)) (n - k) (xs.drop k) :=
  ⟨by rw [List.length_drop, h.1], fun j hj => by
    obtain ⟨ad, rfl, hlt, hx⟩ := h.2 (k + j) (by omega)
    rw [if_neg (by omega)]
    refine ⟨ad.add k, rfl, by rw [blk_add]; exact hlt, ?_⟩
    rw [adr_add, hx, List.getD, List.getD, List.getElem?_drop]⟩
theorem rd_new (W : World) (t : TypeId) (xs : List Int) : Rd (W.alloc (.cells (xs.map (Value.int .i64)).toArray t)) (some ⟨W.heap.size, 0, none⟩) xs.length xs := by
  refine ⟨rfl, fun k hk => ⟨_, rfl, by simp, ?_⟩⟩
  rw [add_at, cell_of_row _ _ _ _ t (0, 0) (heap_alloc_new W _)]
  simp [List.getElem?_eq_getElem hk]

/-- The slice value is a row of the call's own (from block B on), which reads as the list. -/
def Own (w : World) (B : Nat) (v : Value) (xs : List Int) : Prop := w.ownsRow B 3 1 v xs.length (xs.map (Value.int .i64))

theorem own_nil (w : World) (B : Nat) : Own w B (.slice none 0 0) [] := World.ownsRow_nil w B _ 1
theorem Own.form {w : World} {B : Nat} {v : Value} {xs : List Int} (h : Own w B v xs) : ∃ A c, v = .slice A xs.length c ∧ xs.length ≤ c ∧ c ≤ maxLen ∧ (A = none → c = 0) := by
  rcases h.2 with ⟨rfl, h0⟩ | ⟨g, cap, cur, rfl, _, _, hc, hm, _⟩
  · exact ⟨none, 0, by rw [h0], by omega, by unfold maxLen; omega, fun _ => rfl⟩
  · exact ⟨_, _, rfl, hc, hm, fun h => by cases h⟩
theorem Own.rd {w : World} {B : Nat} {A : Option Addr} {n c : Nat} {xs : List Int} (h : Own w B (.slice A n c) xs) : Rd w A n xs := by
  have hn : n = xs.length := by
    obtain ⟨_, _, e, _⟩ := h.form
    injection e
  subst hn
  refine ⟨rfl, fun k hk => ?_⟩
  obtain ⟨g, cap, hv, _, hlt⟩ := World.ownsRow.form h (by omega)
  have hA : A = some ⟨g, 0, none⟩ := by injection hv
  subst hA
  exact ⟨_, rfl, hlt, h.cells (g := g) rfl k _ (by simp [List.getElem?_eq_getElem hk])⟩
theorem Own.below {w w' : World} {B : Nat} {v : Value} {xs : List Int} (h : Own w B v xs) (hb : Below w.heap.size w w') : Own w' B v xs :=
  World.ownsRow.kept (row := none) h ⟨hb.os, hb.tape, hb.output, hb.size, fun k hk _ => hb.block k hk⟩ (by cases hv : v.ownBlock <;> simp)
theorem Own.le {w : World} {B B' : Nat} {v : Value} {xs : List Int} (h : Own w B v xs) (hb : B' ≤ B) : Own w B' v xs := Go.Joins.ownsRow_le h hb

/-- One element in a block of its own, as append's compiler lays it. -/
theorem rd_one (W : World) (t : TypeId) (x : Int) : Rd (W.alloc (.cells #[.int .i64 x] t)) (some ⟨W.heap.size, 0, none⟩) 1 [x] := rd_new W t [x]

theorem Rd.cell_ {w : World} {ad : Addr} {n k : Nat} {xs : List Int} {y : Int} (h : Rd w (some ad) n xs) (hy : xs[k]? = some y) : w.cell? (ad.add k) = some (.int .i64 y) := by
  obtain ⟨hl, _⟩ := List.getElem?_eq_some_iff.1 hy
  obtain ⟨ad', x, e, hx, hc⟩ := h.at_ (k := k) (by rw [← h.1]; exact hl)
  injection e with e
  subst e
  rw [hc]
  rw [hx] at hy
  injection hy with hy
  rw [hy]
theorem Own.below_grown {B : Nat} {w wr w' : World} {v : Value} {xs : List Int} (hb : Below B w wr) (ho : Own wr B v xs) (hg : wr.grownBy w' v.ownBlock) (hB : B ≤ wr.heap.size) : Below B w w' :=
  hb.grown hg hB fun k hk => (World.ownsRow.lt ho k hk).1

/-- What a call answers that makes a slice: a row of its own; nothing old has turned. -/
def Makes (w : World) (xs : List Int) (e : Ending) (w' : World) : Prop := ∃ v, e = .returned v ∧ Own w' w.heap.size v xs ∧ Below w.heap.size w w'
def MakesE (w : World) (xs : List Int) (err : Int) (e : Ending) (w' : World) : Prop := ∃ v, e = .returned (.tuple #[v, .int .i64 err]) ∧ Own w' w.heap.size v xs ∧ Below w.heap.size w w'
theorem Makes.out {w : World} {xs : List Int} {e : Ending} {w' : World} (h : Makes w xs e w') : ∃ A c, e = .returned (.slice A xs.length c) ∧ Own w' w.heap.size (.slice A xs.length c) xs ∧ Below w.heap.size w w' ∧ xs.length ≤ c ∧ c ≤ maxLen ∧ (A = none → c = 0) := by
  obtain ⟨v, rfl, h1, h2⟩ := h
  obtain ⟨A, c, rfl, h3, h4, h5⟩ := h1.form
  exact ⟨A, c, rfl, h1, h2, h3, h4, h5⟩
theorem MakesE.out {w : World} {xs : List Int} {err : Int} {e : Ending} {w' : World} (h : MakesE w xs err e w') : ∃ A c, e = .returned (.tuple #[.slice A xs.length c, .int .i64 err]) ∧ Own w' w.heap.size (.slice A xs.length c) xs ∧ Below w.heap.size w w' ∧ xs.length ≤ c ∧ c ≤ maxLen ∧ (A = none → c = 0) := by
  obtain ⟨v, rfl, h1, h2⟩ := h
  obtain ⟨A, c, rfl, h3, h4, h5⟩ := h1.form
  exact ⟨A, c, rfl, h1, h2, h3, h4, h5⟩

theorem below_drewN {B : Nat} {a w : World} (h : Below B a w) (n : Nat) : Below B a (w.drewN n) := ⟨h.os, h.tape, h.output, h.size, h.block⟩

theorem take_snoc {α : Type} {xs : List α} {k : Nat} {x : α} (h : xs[k]? = some x) : xs.take (k + 1) = xs.take k ++ [x] := by
  obtain ⟨hk, rfl⟩ := List.getElem?_eq_some_iff.1 h
  exact List.take_succ_eq_append_getElem hk
theorem mem_at {α : Type} {xs : List α} {k : Nat} {x : α} (h : xs[k]? = some x) : x ∈ xs := List.mem_of_getElem? h
theorem all_snoc {α : Type} {p : α → Prop} {xs : List α} {k : Nat} {x : α} (h : xs[k]? = some x) (ha : ∀ y ∈ xs.take k, p y) (hx : p x) : ∀ y ∈ xs.take (k + 1), p y := by
  rw [take_snoc h]; intro y hy
  rcases List.mem_append.1 hy with h1 | h1
  · exact ha y h1
  · rw [List.mem_singleton.1 h1]; exact hx
theorem all_take {α : Type} {p : α → Prop} {xs : List α} {k n : Nat} (hl : xs.length = n) (hk : ¬ k < n) (ha : ∀ y ∈ xs.take k, p y) : ∀ y ∈ xs, p y := by
  rwa [List.take_of_length_le (by omega)] at ha
end Go.Proofs.YthgojbaindejjaaGreatDoor.mem
