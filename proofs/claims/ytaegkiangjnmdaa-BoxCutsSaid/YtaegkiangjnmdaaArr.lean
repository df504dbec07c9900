/- Words for arrays: rows of int64 of the call's own; duplicate; what a call answers that makes an array. -/
import Derived.Test.YtaegkiangjnmdaaMake
import Derived.Test.YtaegkiangjnmdaaIn
import Derived.Test.YtaegkiangjnmdaaAft
import Derived.Laws.CopyOwn
namespace Go.Proofs.Ytaegkiangjnmdaa.arr
open Go.ChangeShapes Go.WideShapes Go.ChangeAt Go.RowKit Go.Proofs.Ytaegkiangjnmdaa.mem
set_option linter.unusedVariables false

theorem int64_info : (Try.prog.info? 2).map (fun i => (i.zero, i.size, i.bytes)) = some (some (.int .i64 0), 1, 8) := by kernel_rfl
theorem int_size : (Try.prog.info? 3).map (·.size) = some 1 := by kernel_rfl
theorem int64_size : (Try.prog.info? 2).map (·.size) = some 1 := by kernel_rfl

/-- The slice value is a row of numbers of the call's own (from block B on), of element type t. -/
def OwnT (t : TypeId) (w : World) (B : Nat) (v : Value) (xs : List Int) : Prop := w.ownsRow B t 1 v xs.length (xs.map (Value.int .i64))
theorem Own.t {w : World} {B : Nat} {v : Value} {xs : List Int} (h : Own w B v xs) : OwnT 3 w B v xs := h
theorem OwnT.own {w : World} {B : Nat} {v : Value} {xs : List Int} (h : OwnT 3 w B v xs) : Own w B v xs := h
/-- A row of int64. -/
abbrev Own8 (w : World) (B : Nat) (v : Value) (xs : List Int) : Prop := OwnT 2 w B v xs

theorem ownT_nil (t : TypeId) (w : World) (B : Nat) : OwnT t w B (.slice none 0 0) [] := World.ownsRow_nil w B _ 1
theorem OwnT.form {t : TypeId} {w : World} {B : Nat} {v : Value} {xs : List Int} (h : OwnT t w B v xs) : ∃ A c, v = .slice A xs.length c ∧ xs.length ≤ c ∧ c ≤ maxLen ∧ (A = none → c = 0) := by
  rcases h.2 with ⟨rfl, h0⟩ | ⟨g, cap, cur, rfl, _, _, hc, hm, _⟩
  · exact ⟨none, 0, by rw [h0], by omega, by unfold maxLen; omega, fun _ => rfl⟩
  · exact ⟨_, _, rfl, hc, hm, fun h => by cases h⟩
theorem OwnT.rd {t : TypeId} {w : World} {B : Nat} {A : Option Addr} {n c : Nat} {xs : List Int} (h : OwnT t w B (.slice A n c) xs) : Rd w A n xs := by
  have hn : n = xs.length := by
    obtain ⟨_, _, e, _⟩ := h.form
    injection e
  subst hn
  refine ⟨rfl, fun k hk => ?_⟩
  obtain ⟨g, cap, hv, _, hlt⟩ := World.ownsRow.form h (by omega)
  have hA : A = some ⟨g, 0, none⟩ := by injection hv
  subst hA
  exact ⟨_, rfl, hlt, h.cells (g := g) rfl k _ (by simp [List.getElem?_eq_getElem hk])⟩
theorem OwnT.below {t : TypeId} {w w' : World} {B : Nat} {v : Value} {xs : List Int} (h : OwnT t w B v xs) (hb : Below w.heap.size w w') : OwnT t w' B v xs :=
  World.ownsRow.kept (row := none) h ⟨hb.os, hb.tape, hb.output, hb.size, fun k hk _ => hb.block k hk⟩ (by cases hv : v.ownBlock <;> simp)
theorem OwnT.le {t : TypeId} {w : World} {B B' : Nat} {v : Value} {xs : List Int} (h : OwnT t w B v xs) (hb : B' ≤ B) : OwnT t w B' v xs := Go.Joins.ownsRow_le h hb
theorem OwnT.len {t : TypeId} {w : World} {B n c : Nat} {A : Option Addr} {xs : List Int} (h : OwnT t w B (.slice A n c) xs) : xs.length = n := by
  obtain ⟨_, _, e, _⟩ := h.form
  injection e with e1 e2
  exact e2.symm
/-- The block of a row without spare room. -/
theorem OwnT.block {t : TypeId} {w : World} {B g n : Nat} {xs : List Int} (h : OwnT t w B (.slice (some ⟨g, 0, none⟩) n n) xs) : w.heap[g]? = some (.cells (xs.map (Value.int .i64)).toArray t (0, 0)) ∧ B ≤ g := by
  have hl := h.len
  rcases h.2 with ⟨h0, _⟩ | ⟨g', cap, cur, hv, hB, hg, hc, hm, hs, ht⟩
  · cases h0
  · injection hv with e1 e2 e3
    injection e1 with e1
    injection e1 with e1
    subst e1
    refine ⟨?_, hB⟩
    rw [hg]
    have : cur = (xs.map (Value.int .i64)).toArray := by
      apply Array.ext'
      rw [List.take_of_length_le (by simp only [Array.length_toList]; omega)] at ht
      simpa using ht
    rw [this]
theorem ownT_of_block {t : TypeId} {w : World} {B g n : Nat} {xs : List Int} (h : w.heap[g]? = some (.cells (xs.map (Value.int .i64)).toArray t (0, 0))) (hB : B ≤ g) (hn : xs.length = n) (hm : n ≤ maxLen) : OwnT t w B (.slice (some ⟨g, 0, none⟩) n n) xs := by
  subst hn
  exact ⟨by simp, .inr ⟨g, _, _, rfl, hB, h, Nat.le_refl _, hm, by simp, by simp [List.take_of_length_le]⟩⟩
theorem OwnT.cellAt {t : TypeId} {w : World} {B g n c j : Nat} {y : Int} {xs : List Int} (h : OwnT t w B (.slice (some ⟨g, 0, none⟩) n c) xs) (hy : xs[j]? = some y) : w.cell? ⟨g, j, none⟩ = some (.int .i64 y) := by
  have := h.rd.cell_ hy
  rwa [add_at] at this
theorem OwnT.frozenAt {t : TypeId} {w : World} {B g n c : Nat} {xs : List Int} (h : OwnT t w B (.slice (some ⟨g, 0, none⟩) n c) xs) (j : Nat) : w.frozen? ⟨g, j, none⟩ = false := by
  obtain ⟨A, c', e, _⟩ := h.form
  injection e with e1 e2 e3
  subst e2
  exact World.ownsRow.frozenAt h j
theorem OwnT.set_ {t : TypeId} {w : World} {B g n c : Nat} {xs : List Int} (h : OwnT t w B (.slice (some ⟨g, 0, none⟩) n c) xs) (j : Nat) (y : Int) : OwnT t (w.setCell ⟨g, j, none⟩ (.int .i64 y)) B (.slice (some ⟨g, 0, none⟩) n c) (xs.set j y) := by
  obtain ⟨A, c', e, _⟩ := h.form
  injection e with e1 e2 e3
  subst e2
  have := (World.ownsRow.stored h j (.int .i64 y)).1
  unfold OwnT
  rw [List.length_set, List.map_set]
  exact this
/-- Two rows of different element types lie in different blocks. -/
theorem own_apart {t u : TypeId} {w : World} {B B' g h n m c d : Nat} {xs ys : List Int} (hx : OwnT t w B (.slice (some ⟨g, 0, none⟩) n c) xs) (hy : OwnT u w B' (.slice (some ⟨h, 0, none⟩) m d) ys) (hne : t ≠ u) : g ≠ h := by
  rcases hx.2 with ⟨h0, _⟩ | ⟨g', _, cur, hv, _, hg, _⟩
  · cases h0
  · rcases hy.2 with ⟨h0, _⟩ | ⟨h', _, cur', hv', _, hg', _⟩
    · cases h0
    · injection hv with e1; injection e1 with e1; injection e1 with e1
      injection hv' with e2; injection e2 with e2; injection e2 with e2
      subst e1; subst e2
      intro e
      subst e
      rw [hg] at hg'
      injection hg' with e
      injection e with _ e
      exact hne e
/-- A store into another block. -/
theorem OwnT.aside {t : TypeId} {w : World} {B : Nat} {g n c : Nat} {xs : List Int} (h : OwnT t w B (.slice (some ⟨g, 0, none⟩) n c) xs) {p : Addr} (hp : p.block ≠ g) (v : Value) : OwnT t (w.setCell p v) B (.slice (some ⟨g, 0, none⟩) n c) xs :=
  World.ownsRow.kept (row := some p.block) h ⟨rfl, rfl, rfl, by simp [World.setCell], fun k hk hn => Below.heap_setCell _ _ _ _ (fun e => hn (by rw [e]))⟩ (by simp [Value.ownBlock]; exact fun e => hp e.symm)


/-- What a call answers that makes a row of n numbers without spare room. -/
def MakesT (t : TypeId) (w : World) (n : Nat) (xs : List Int) (e : Ending) (w' : World) : Prop := ∃ g, e = .returned (.slice (some ⟨g, 0, none⟩) n n) ∧ OwnT t w' w.heap.size (.slice (some ⟨g, 0, none⟩) n n) xs ∧ Below w.heap.size w w'

theorem copy_cells {w : World} {A : Option Addr} {n : Nat} {xs : List Int} (h : Rd w A n xs) (hp : 0 < n) : ∃ ad, A = some ad ∧ ∀ j v, (xs.map (Value.int .i64))[j]? = some v → w.cell? (ad.add j) = some v := by
  obtain ⟨ad, x, rfl, _⟩ := h.at_ hp
  refine ⟨ad, rfl, fun j v hv => ?_⟩
  rw [List.getElem?_map] at hv
  cases hx : xs[j]? with
  | none => rw [hx] at hv; cases hv
  | some y =>
    rw [hx] at hv
    injection hv with hv
    rw [← hv]
    exact h.cell_ hx
/-- copy(out, xs), out a row of n numbers, xs n of them. -/
theorem run_copy_all {t e ty : TypeId} {w0 w : World} {B g n c : Nat} {A : Option Addr} {xs zs : List Int} (hu : Try.prog.underlying t = some (.slice e)) (hs : (Try.prog.info? e).map (·.size) = some 1)
    (hz : OwnT e w B (.slice (some ⟨g, 0, none⟩) n n) zs) (hx : Rd w A n xs) (hb : Below B w0 w) (hm : n ≤ maxLen) :
    ∃ w', (Builtin.copy_ #[t, t] ty #[.slice (some ⟨g, 0, none⟩) n n, .slice A n c]).run Try.prog w = .ok (.int .i64 n) w' ∧ OwnT e w' B (.slice (some ⟨g, 0, none⟩) n n) xs ∧ Below B w0 w' := by
  obtain ⟨hg, hB⟩ := hz.block
  rcases Nat.eq_zero_or_pos n with rfl | hp
  · have hx0 : xs = [] := List.eq_nil_of_length_eq_zero hx.1
    have hz0 : zs = [] := List.eq_nil_of_length_eq_zero hz.len
    subst hx0; subst hz0
    exact ⟨w, run_copy_none (P := Try.prog) w t t ty e _ A 0 0 0 c hu hs (by simp), hz, hb⟩
  · obtain ⟨ad, rfl, hsrc⟩ := copy_cells hx hp
    have hl : (xs.map (Value.int .i64)).length = n := by rw [List.length_map, hx.1]
    have hrun := run_copy_row (P := Try.prog) w t t ty e g 0 n n ad n c (zs.map (Value.int .i64)).toArray e (xs.map (Value.int .i64)) hu hs hg (by rw [hl]; simp) hsrc (by rw [hl]; simp; rw [hz.len]; omega) (ints_oneCell _ _)
    rw [hl] at hrun
    refine ⟨_, hrun, ownT_of_block ?_ hB hx.1 hm, below_setRow hb hB _⟩
    rw [setRow_heap w g _ _ e _ hg]
    simp [hz.len]

end Go.Proofs.Ytaegkiangjnmdaa.arr
