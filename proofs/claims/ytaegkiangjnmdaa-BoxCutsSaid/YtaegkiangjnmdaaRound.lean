/- Words for the body of a loop over an iterator: which blocks it turns (Chg); a row of rows of the call's own, apart from the iterator's block (Rows), and append to it inside a round. -/
import Derived.Test.YtaegkiangjnmdaaIter
import Derived.Test.YtaegkiangjnmdaaMatrix
namespace Go.Proofs.Ytaegkiangjnmdaa.iter
open Go.ChangeShapes Go.WideShapes Go.ChangeAt Go.RowKit Go.Proofs.Ytaegkiangjnmdaa.mem
set_option linter.unusedVariables false

/-- Of the blocks that were there, those of S alone may have turned. -/
structure Chg (S : Nat → Prop) (W W' : World) : Prop where
  os : W'.os = W.os
  tape : W'.tape = W.tape
  output : W'.output = W.output
  size : W.heap.size ≤ W'.heap.size
  block : ∀ k, k < W.heap.size → ¬ S k → W'.heap[k]? = W.heap[k]?
theorem Chg.refl (S : Nat → Prop) (W : World) : Chg S W W := ⟨rfl, rfl, rfl, Nat.le_refl _, fun _ _ _ => rfl⟩
theorem Chg.trans {S : Nat → Prop} {A B C : World} (h : Chg S A B) (k : Chg S B C) : Chg S A C :=
  ⟨k.os.trans h.os, k.tape.trans h.tape, k.output.trans h.output, Nat.le_trans h.size k.size, fun i hi hn => (k.block i (Nat.lt_of_lt_of_le hi h.size) hn).trans (h.block i hi hn)⟩
theorem Chg.alloc {S : Nat → Prop} {A B : World} (h : Chg S A B) (o : Obj) : Chg S A (B.alloc o) := h.trans ⟨rfl, rfl, rfl, by simp, fun k hk _ => Below.heap_alloc _ _ _ hk⟩
theorem Chg.set {S : Nat → Prop} {A B : World} (h : Chg S A B) {p : Addr} (u : Value) (hp : S p.block) : Chg S A (B.setCell p u) :=
  h.trans ⟨rfl, rfl, rfl, by simp [World.setCell], fun k _ hn => Below.heap_setCell _ _ _ _ (fun e => hn (by rw [e]; exact hp))⟩
theorem Chg.grown {S : Nat → Prop} {A B C : World} {row : Option Nat} (h : Chg S A B) (hg : B.grownBy C row) (hr : ∀ k, row = some k → S k) : Chg S A C :=
  h.trans ⟨hg.os, hg.tape, hg.output, hg.size, fun k hk hn => hg.block k hk (fun e => hn (hr k e.symm))⟩
/-- A step of another party, which turns what has come since. -/
theorem Chg.grown_new {S : Nat → Prop} {A B C : World} {row : Option Nat} (h : Chg S A B) (hg : B.grownBy C row) (hr : ∀ k, row = some k → A.heap.size ≤ k) : Chg S A C :=
  ⟨hg.os.trans h.os, hg.tape.trans h.tape, hg.output.trans h.output, Nat.le_trans h.size hg.size, fun i hi hn => (hg.block i (Nat.lt_of_lt_of_le hi h.size) (fun e => by have := hr i e.symm; omega)).trans (h.block i hi hn)⟩
theorem Chg.call {S : Nat → Prop} {A B C : World} (h : Chg S A B) (hb : Below B.heap.size B C) : Chg S A C := h.trans ⟨hb.os, hb.tape, hb.output, hb.size, fun k hk _ => hb.block k hk⟩
theorem Chg.drew {S : Nat → Prop} {A B : World} (h : Chg S A B) (q : Nat) : Chg S A (B.drewN q) := h.trans ⟨rfl, rfl, rfl, Nat.le_refl _, fun _ _ _ => rfl⟩
theorem Chg.below {S : Nat → Prop} {A B : World} {n : Nat} (h : Chg S A B) (hn : n ≤ A.heap.size) (hS : ∀ k, S k → n ≤ k) : Below n A B :=
  ⟨h.os, h.tape, h.output, h.size, fun k hk => h.block k (by omega) (fun e => by have := hS k e; omega)⟩
theorem Chg.spares {S : Nat → Prop} {A B : World} {Bi Be : Nat} {r : Option Nat} (h : Chg S A B) (hBe : Be ≤ A.heap.size) (hr : ∀ k, r = some k → k < A.heap.size) (hS : ∀ k, S k → ¬ (Bi ≤ k ∧ k < Be) ∧ r ≠ some k) : Spares Bi Be r A B :=
  ⟨h.size, fun k e => h.block k (hr k e) (fun hs => (hS k hs).2 e), fun k h1 h2 => h.block k (by omega) (fun hs => (hS k hs).1 ⟨h1, h2⟩)⟩
theorem Chg.keeps {S : Nat → Prop} {A B : World} {Bs : Nat} (h : Chg S A B) (hS : ∀ k, S k → k < Bs ∨ ∃ o, A.heap[k]? = some o ∧ o.isCells = true) : KeepsFrom Bs A B :=
  ⟨h.size, fun k o hk ho hc => (h.block k (Array.getElem?_eq_some_iff.1 ho).1 (fun hs => by
    rcases hS k hs with h1 | ⟨o', h1, h2⟩
    · omega
    · rw [ho] at h1; cases h1; rw [hc] at h2; cases h2)).trans ho⟩
theorem Chg.cell {S : Nat → Prop} {A B : World} (h : Chg S A B) {p : Addr} {v : Value} (hc : A.cell? p = some v) (hp : ¬ S p.block) : B.cell? p = some v :=
  (World.cell?_of_block (h.block p.block (World.block_lt_of_cell? _ _ hc) hp)).trans hc
theorem Chg.boxed {S : Nat → Prop} {A B : World} {b : Nat} {t : TypeId} {v : Value} (h : Chg S A B) (hc : Boxed A b t v) (hp : ¬ S b) : Boxed B b t v := (h.block b hc.lt hp).trans hc

/-- What lies in cells, apart from the iterator's block, abides the steps of other parties. -/
theorem mild_block {B : Nat} {r : Option Nat} {A C : World} {row : Option Nat} {k : Nat} {o : Obj} (hk : A.heap[k]? = some o) (hc : o.isCells = true) (hg : A.grownBy C row) (hm : Mild B r A row) (hr : r ≠ some k) : C.heap[k]? = A.heap[k]? :=
  hg.block k (Array.getElem?_eq_some_iff.1 hk).1 (fun e => by
    rcases (hm k e.symm).2 with h | ⟨o', h1, h2⟩
    · exact hr h
    · rw [hk] at h1; cases h1; rw [hc] at h2; cases h2)
theorem mild_cell {B : Nat} {r : Option Nat} {A C : World} {row : Option Nat} {p : Addr} {v : Value} (h : A.cell? p = some v) (hg : A.grownBy C row) (hm : Mild B r A row) (hr : r ≠ some p.block) : C.cell? p = some v := by
  obtain ⟨o, ho, hc⟩ := cells_of_cell h
  exact (World.cell?_of_block (mild_block ho hc hg hm hr)).trans h
theorem mild_boxed {B : Nat} {r : Option Nat} {A C : World} {row : Option Nat} {b : Nat} {t : TypeId} {v : Value} (h : Boxed A b t v) (hg : A.grownBy C row) (hm : Mild B r A row) (hr : r ≠ some b) : Boxed C b t v := (mild_block h rfl hg hm hr).trans h
theorem mild_row {B : Nat} {r : Option Nat} {A C : World} {row : Option Nat} {base : Nat} {e : TypeId} {size n : Nat} {v : Value} {xs : List Value} (h : A.ownsRow base e size v n xs) (hg : A.grownBy C row) (hm : Mild B r A row) (hr : ∀ g, v.ownBlock = some g → r ≠ some g) : C.ownsRow base e size v n xs := by
  refine ⟨h.1, ?_⟩
  rcases h.2 with h' | ⟨g, cap, cur, rfl, hb, hk, rest⟩
  · exact .inl h'
  · exact .inr ⟨g, cap, cur, rfl, hb, (mild_block hk rfl hg hm (hr g rfl)).trans hk, rest⟩
theorem mild_rd {B : Nat} {r : Option Nat} {A C : World} {row : Option Nat} {P : Option Addr} {n : Nat} {xs : List Int} (h : Rd A P n xs) (hg : A.grownBy C row) (hm : Mild B r A row) (hr : ∀ ad, P = some ad → r ≠ some ad.block) : Rd C P n xs :=
  ⟨h.1, fun k hk => by
    obtain ⟨ad, e, hl, hc⟩ := h.2 k hk
    exact ⟨ad, e, Nat.lt_of_lt_of_le hl hg.size, mild_cell hc hg hm (by rw [blk_add]; exact hr ad e)⟩⟩
theorem mild_below {B n : Nat} {r : Option Nat} {w A C : World} {row : Option Nat} (h : Below n w A) (hg : A.grownBy C row) (hm : Mild B r A row) (hn : n ≤ B) (hw : n ≤ w.heap.size) : Below n w C :=
  h.grown hg (Nat.le_trans hw h.size) (fun k e => by have := (hm k e).1; omega)

/-- A row (from block Bs on) of rows of the call's own, none of which lies in the iterator's block. -/
def Rows (W : World) (Bs : Nat) (r : Option Nat) (v : Value) (xss : List (List Int)) : Prop :=
  ∃ us : List Value, W.ownsRow Bs 22 1 v xss.length us ∧ (∀ g, v.ownBlock = some g → r ≠ some g) ∧
    ∀ (k : Nat) (u : Value) (xs : List Int), us[k]? = some u → xss[k]? = some xs → mem.Own W Bs u xs ∧ ∀ g, u.ownBlock = some g → v.ownBlock ≠ some g ∧ r ≠ some g
theorem rows_nil (W : World) (Bs : Nat) (r : Option Nat) : Rows W Bs r (.slice none 0 0) [] := ⟨[], World.ownsRow_nil W Bs _ 1, fun g h => by simp [Value.ownBlock] at h, fun k u xs h => by simp at h⟩
theorem Rows.bides {B Bs : Nat} {r : Option Nat} {A C : World} {row : Option Nat} {v : Value} {xss : List (List Int)} (h : Rows A Bs r v xss) (hg : A.grownBy C row) (hm : Mild B r A row) : Rows C Bs r v xss := by
  obtain ⟨us, h1, h2, h3⟩ := h
  exact ⟨us, mild_row h1 hg hm h2, h2, fun k u xs hu hx => ⟨mild_row (h3 k u xs hu hx).1 hg hm fun g e => ((h3 k u xs hu hx).2 g e).2, (h3 k u xs hu hx).2⟩⟩
theorem Rows.ownL {W : World} {Bs : Nat} {r : Option Nat} {v : Value} {xss : List (List Int)} (h : Rows W Bs r v xss) : OwnL W Bs v xss := by
  obtain ⟨us, h1, _, h3⟩ := h
  exact ⟨us, h1, fun k u xs hu hx => El.of_own (h3 k u xs hu hx).1 fun g e => ((h3 k u xs hu hx).2 g e).1⟩
theorem Rows.lt {W : World} {Bs : Nat} {r : Option Nat} {v : Value} {xss : List (List Int)} (h : Rows W Bs r v xss) : ∀ g, v.ownBlock = some g → Bs ≤ g ∧ g < W.heap.size := by
  obtain ⟨us, h1, _⟩ := h
  exact World.ownsRow.lt h1
theorem Rows.set_below {W : World} {Bs : Nat} {r : Option Nat} {v u : Value} {xss : List (List Int)} {p : Addr} (h : Rows W Bs r v xss) (hp : p.block < Bs) : Rows (W.setCell p u) Bs r v xss := by
  obtain ⟨us, h1, h2, h3⟩ := h
  exact ⟨us, ownsRow_setCell_below h1 hp u, h2, fun k z xs hu hx => ⟨ownsRow_setCell_below (h3 k z xs hu hx).1 hp u, (h3 k z xs hu hx).2⟩⟩

theorem Rows.cells {W : World} {Bs : Nat} {r : Option Nat} {v : Value} {xss : List (List Int)} (h : Rows W Bs r v xss) : ∀ g, v.ownBlock = some g → ∃ o, W.heap[g]? = some o ∧ o.isCells = true := by
  obtain ⟨us, h1, _⟩ := h
  intro g hg
  rcases h1.2 with ⟨rfl, _⟩ | ⟨g', cap, cur, rfl, _, hk, _⟩
  · simp [Value.ownBlock] at hg
  · simp [Value.ownBlock] at hg
    subst hg
    exact ⟨_, hk, rfl⟩
theorem Rows.apart {W : World} {Bs : Nat} {r : Option Nat} {v : Value} {xss : List (List Int)} (h : Rows W Bs r v xss) : ∀ g, v.ownBlock = some g → r ≠ some g := h.elim fun _ h => h.2.1
/-- The step from the iterator's world to the round's. -/
theorem mild_rec {A : World} {l : Nat} (r : Option Nat) (h : ∃ o, A.heap[l]? = some o ∧ o.isCells = false) {B : Nat} (hB : B ≤ l) : Mild B r A (some l) := fun k e => by cases e; exact ⟨hB, .inr h⟩
theorem run_pushR {A W : World} {Bs l : Nat} {r : Option Nat} {v u : Value} {xss : List (List Int)} {ys : List Int} (hA : Rows A Bs r v xss) (hAW : A.grownBy W (some l)) (hl : ∃ o, A.heap[l]? = some o ∧ o.isCells = false) (hu : mem.Own W A.heap.size u ys)
    (hBs : Bs ≤ A.heap.size) (hr : ∀ k, r = some k → k < A.heap.size) (ty t : TypeId) (h40 : xss.length < 1099511627776) :
    ∃ v' w1, (Builtin.append_ #[36, 36] ty #[v, .slice (some ⟨W.heap.size, 0, none⟩) 1 1]).run Try.prog (W.alloc (.cells #[u] t)) = .ok v' w1 ∧ Rows w1 Bs r v' (xss ++ [ys]) ∧ (W.alloc (.cells #[u] t)).grownBy w1 v.ownBlock := by
  obtain ⟨i0, hi0, hz0, hz1, hz2⟩ := info_parts list_info
  have hone : u.oneCell' = true := by obtain ⟨A, c, rfl, _⟩ := hu.form; rfl
  have hmild : Mild 0 r A (some l) := fun k e => ⟨Nat.zero_le _, .inr (by cases e; exact hl)⟩
  have hba : Below W.heap.size W (W.alloc (.cells #[u] t)) := (Below.refl _ _).alloc (Nat.le_refl _) _
  obtain ⟨us, g1, g2, g3⟩ := hA
  have hbn : (W.alloc (.cells #[u] t)).heap.size = W.heap.size + 1 := by simp
  have hsz := hAW.size
  have keep : ∀ {base : Nat} {e : TypeId} {size n : Nat} {z : Value} {xs : List Value}, W.ownsRow base e size z n xs → (W.alloc (.cells #[u] t)).ownsRow base e size z n xs := fun h => h.alloc _
  have h1 := keep (mild_row g1 hAW hmild g2)
  have h3 : ∀ (k : Nat) (z : Value) (xs : List Int), us[k]? = some z → xss[k]? = some xs → mem.Own (W.alloc (.cells #[u] t)) Bs z xs ∧ (∀ g, z.ownBlock = some g → v.ownBlock ≠ some g ∧ r ≠ some g) ∧ ∀ g, z.ownBlock = some g → g < A.heap.size := fun k z xs a b =>
    ⟨keep (mild_row (g3 k z xs a b).1 hAW hmild fun g e => ((g3 k z xs a b).2 g e).2), (g3 k z xs a b).2, fun g e => ((g3 k z xs a b).1.lt_ g e).2⟩
  have hu2 : mem.Own (W.alloc (.cells #[u] t)) A.heap.size u ys := keep hu
  have hvA : ∀ g, v.ownBlock = some g → g < A.heap.size := fun g hg => (World.ownsRow.lt g1 g hg).2
  have hcells : ∀ j z, [u][j]? = some z → (W.alloc (.cells #[u] t)).cell? ((⟨W.heap.size, 0, none⟩ : Addr).add j) = some z := by
    intro j z hj
    rcases j with _ | j
    · simp at hj
      subst hj
      rw [add_at, cell_of_row _ _ _ _ t (0, 0) (heap_alloc_new W _)]
      simp
    · simp at hj
  obtain ⟨v', w1, hrun, q1, q2, _, q4⟩ := run_append_own_at (P := Try.prog) (W.alloc (.cells #[u] t)) Bs 36 ty 22 i0 _ 1 24 Try.underlying36 hi0 hz0 hz1 hz2 rfl (by omega) v _ _ h1 ⟨W.heap.size, 0, none⟩ 1 1 [u] (by simp) hcells (by simpa using hone)
    (by unfold maxLen; omega) (by omega) (by omega)
  have hvn : ∀ g, v'.ownBlock = some g → v.ownBlock = some g ∨ W.heap.size + 1 ≤ g := by
    intro g hg
    rcases q4 with e | e
    · exact .inl (e ▸ hg)
    · rw [e, hbn] at hg; injection hg with hg; exact .inr (by omega)
  have hul : us.length = xss.length := by rw [h1.1]; omega
  refine ⟨v', w1, hrun, ⟨us ++ [u], by rw [List.length_append]; exact q1, fun g hg e => ?_, fun k z xs hz hxs => ?_⟩, q2⟩
  · rcases hvn g hg with e3 | e3
    · exact g2 g e3 e
    · have := hr g e; omega
  · rcases Nat.lt_or_ge k us.length with hk | hk
    · rw [List.getElem?_append_left hk] at hz
      rw [List.getElem?_append_left (by omega)] at hxs
      obtain ⟨e1, e2, e3⟩ := h3 k z xs hz hxs
      refine ⟨e1.grown_ q2 fun g hg => (e2 g hg).1, fun g hg => ⟨fun e => ?_, (e2 g hg).2⟩⟩
      rcases hvn g e with e4 | e4
      · exact (e2 g hg).1 e4
      · have := e3 g hg; omega
    · rw [List.getElem?_append_right hk] at hz
      rw [List.getElem?_append_right (by omega)] at hxs
      rcases hj : k - us.length with _ | j
      · rw [hj] at hz
        rw [show k - xss.length = 0 by omega] at hxs
        simp at hz hxs
        subst hz
        subst hxs
        have e0 := hu2.lt_
        refine ⟨(hu2.grown_ q2 fun g hg e => ?_).le hBs, fun g hg => ⟨fun e => ?_, fun e => ?_⟩⟩
        · have := hvA g e; have := (e0 g hg).1; omega
        · rcases hvn g e with e4 | e4
          · have := hvA g e4; have := (e0 g hg).1; omega
          · have := (e0 g hg).2; omega
        · have := hr g e; have := (e0 g hg).1; omega
      · rw [hj] at hz
        simp at hz

/-- .. inside a round. -/
theorem wpListIn_pushR {F : Fence} {n : Nat} {A W : World} {ops : Array Oper} {rest : List Oper} {o : Oper} {a : Act} {Q : Exit → Act → World → Prop} (hgd : o.guard = none) (s x : Operand)
    (ho : o.op = .call { callee := .builtin .append, args := #[s, x], argTypes := #[36, 36] })
    {Bs l : Nat} {r : Option Nat} {v u : Value} {xss : List (List Int)} {ys : List Int} (hs : a.eval s = v) (hA : Rows A Bs r v xss) (hAW : A.grownBy W (some l)) (hl : ∃ o, A.heap[l]? = some o ∧ o.isCells = false) (hu : mem.Own W A.heap.size u ys)
    (hBs : Bs ≤ A.heap.size) (hr : ∀ k, r = some k → k < A.heap.size) (t : TypeId) (hx : a.eval x = .slice (some ⟨W.heap.size, 0, none⟩) 1 1) (h40 : xss.length < 1099511627776)
    (h : ∀ v' w1, Rows w1 Bs r v' (xss ++ [ys]) → (W.alloc (.cells #[u] t)).grownBy w1 v.ownBlock → wpListIn F n Try.prog ops Q rest (a.put o.dst v') w1) : wpListIn F n Try.prog ops Q (o :: rest) a (W.alloc (.cells #[u] t)) := by
  obtain ⟨v', w1, hrun, h1, h2⟩ := run_pushR hA hAW hl hu hBs hr o.type t h40
  refine wpListIn_plain hgd fun K hK => ?_
  unfold Oper.wpIn
  refine ⟨?_, ?_⟩
  · simp [Oper.about, ho, resolve, Target.leads, Sem.run_pure]
  · rw [Oper.semAt_plain F _ _ (by rw [ho]; intro c hc'; cases hc')]
    simp [execOp, ho, resolve, invoke, builtin, hs, hx, hrun, Result.andThen]
    exact hK _ _ (h v' w1 h1 h2)
end Go.Proofs.Ytaegkiangjnmdaa.iter
