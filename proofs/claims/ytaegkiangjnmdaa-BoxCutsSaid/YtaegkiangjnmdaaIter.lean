/- A loop over an iterator that keeps a block of its own and hands out values in memory: the iterator's contract (ISeq), and the law for the caller (wpIn_iterate). -/
import Derived.Test.YtaegkiangjnmdaaMem
import Derived.RangeFuncNested
import Derived.RangeFuncBound
import Derived.RangeFuncCalls
import Derived.RangeFuncLeaves
import Derived.RangeFuncBox
import Derived.Shelf.Abstract
import Derived.OwnWalkIn
import Derived.TacticsInMore
import Derived.LoopNIn
import Derived.LoopIn
namespace Go.Proofs.Ytaegkiangjnmdaa.iter
open Go.ChangeShapes Go.WideShapes Go.ChangeAt Go.RowKit Go.Proofs.Ytaegkiangjnmdaa.mem
set_option linter.unusedVariables false

/-- A step turns one block at most, of another party's: the iterator's own one (r), or one that holds no cells; it lies from B on. -/
def Mild (B : Nat) (r : Option Nat) (A : World) (row : Option Nat) : Prop := ∀ k, row = some k → B ≤ k ∧ (r = some k ∨ ∃ o : Obj, A.heap[k]? = some o ∧ o.isCells = false)
/-- The invariant abides such steps. -/
def Bides {α : Type} (B : Nat) (I : Option Nat → List α → World → Prop) : Prop := ∀ r s A C row, I r s A → A.grownBy C row → Mild B r A row → I r s C
/-- What a round leaves to the iterator: its own block, and those from Bi to Be. -/
structure Spares (Bi Be : Nat) (r : Option Nat) (W W' : World) : Prop where
  size : W.heap.size ≤ W'.heap.size
  own : ∀ k, r = some k → W'.heap[k]? = W.heap[k]?
  kept : ∀ k, Bi ≤ k → k < Be → W'.heap[k]? = W.heap[k]?

theorem grown_of_below {A C : World} (h : Below A.heap.size A C) : A.grownBy C none := ⟨h.os, h.tape, h.output, h.size, fun k hk _ => h.block k hk⟩
theorem grown_trans {A B C : World} {row : Option Nat} (h : A.grownBy B row) (k : B.grownBy C row) : A.grownBy C row :=
  ⟨k.os.trans h.os, k.tape.trans h.tape, k.output.trans h.output, Nat.le_trans h.size k.size, fun i hi hn => (k.block i (Nat.lt_of_lt_of_le hi h.size) hn).trans (h.block i hi hn)⟩
theorem grown_any {A B : World} (row : Option Nat) (h : A.grownBy B none) : A.grownBy B row := ⟨h.os, h.tape, h.output, h.size, fun k hk _ => h.block k hk (by simp)⟩
theorem mild_none {B : Nat} {r : Option Nat} {A : World} : Mild B r A none := fun k hk => by cases hk
theorem Bides.later {α : Type} {B : Nat} {I : Option Nat → List α → World → Prop} (h : Bides B I) {r : Option Nat} {s : List α} {A C : World} (hs : I r s A) (hb : Below A.heap.size A C) : I r s C := h r s A C none hs (grown_of_below hb) mild_none
theorem Bides.put {α : Type} {B : Nat} {I : Option Nat → List α → World → Prop} (h : Bides B I) {r : Option Nat} {s : List α} {W : World} {l : Nat} {o : Obj} (o' : Obj) (hs : I r s W) (hB : B ≤ l) (hl : W.heap[l]? = some o) (ho : o.isCells = false) : I r s (W.putObj l o') :=
  h r s W _ (some l) hs (grownBy_putObj' W l o') (fun k e => by cases e; exact ⟨hB, .inr ⟨o, hl, ho⟩⟩)
theorem Spares.put {Bi Be : Nat} {r : Option Nat} {W W' : World} (h : Spares Bi Be r W W') {l : Nat} (o : Obj) (hl : Be ≤ l) (hr : ∀ k, r = some k → l < k) : Spares Bi Be r W (W'.putObj l o) :=
  ⟨by simpa using h.size, fun k e => (World.putObj_heap_other (by have := hr k e; omega)).trans (h.own k e), fun k h1 h2 => (World.putObj_heap_other (by omega)).trans (h.kept k h1 h2)⟩
theorem Spares.refl {Bi Be : Nat} {r : Option Nat} (W : World) : Spares Bi Be r W W := ⟨Nat.le_refl _, fun _ _ => rfl, fun _ _ _ => rfl⟩
theorem Spares.trans {Bi Be : Nat} {r : Option Nat} {A B C : World} (h : Spares Bi Be r A B) (k : Spares Bi Be r B C) : Spares Bi Be r A C :=
  ⟨Nat.le_trans h.size k.size, fun i e => (k.own i e).trans (h.own i e), fun i h1 h2 => (k.kept i h1 h2).trans (h.kept i h1 h2)⟩

/-- **The contract of an iterator value**: whatever invariant J of the caller's abides its steps, it hands out the elements of xs one after the other, each in memory that is new (from the heap's size on at which J held), and stops where a round says so. -/
def ISeq {α : Type} (F : Fence) (n : Nat) (P : Program) (g : Nat) (lb : Array Value) (Bi Be : Nat) (Hand : World → Nat → Value → α → Prop) (xs : List α) (w : World) : Prop :=
  ∀ (l : Nat) (J Jx : Option Nat → List α → World → Prop) (W : World), Below w.heap.size w W → Bides W.heap.size J → Bides W.heap.size Jx →
    (∀ r, (∀ k, r = some k → W.heap.size ≤ k) → J r [] W) →
    (∀ r pre x v A C, (∀ k, r = some k → W.heap.size ≤ k ∧ k < A.heap.size) → J r pre A → pre ++ [x] <+: xs → W.heap.size ≤ A.heap.size → Below A.heap.size A C → Hand C A.heap.size v x →
      YieldAt F (n - 1) P l #[v] C fun e W' => (e = .returned (.bool true) ∧ J r (pre ++ [x]) W' ∧ Spares Bi Be r C W') ∨ (e = .returned (.bool false) ∧ Jx r (pre ++ [x]) W')) →
    CallsIn F n P g (#[.func (.yield l) #[] #[]] ++ lb) W fun e W' => (∃ v, e = .returned v) ∧ ((∃ r, J r xs W') ∨ (∃ r pre, pre <+: xs ∧ Jx r pre W'))
theorem ISeq.later {α : Type} {F : Fence} {n : Nat} {P : Program} {g : Nat} {lb : Array Value} {Bi Be : Nat} {Hand : World → Nat → Value → α → Prop} {xs : List α} {w w' : World} (h : ISeq F n P g lb Bi Be Hand xs w) (hb : Below w.heap.size w w') : ISeq F n P g lb Bi Be Hand xs w' :=
  fun l J Jx W hW => h l J Jx W (hb.trans (hW.mono hb.size))

/-- How the body of a round may be left. -/
def seqPost {α : Type} (B Bi Be : Nat) (r : Option Nat) (I : Option Nat → List α → World → Prop) (Ix : Code → Option Nat → List α → World → Prop) (xs : List α) (W : World) : Exit → Act → World → Prop
  | .normal, _, W' => KeepsFrom B W W' ∧ Spares Bi Be r W W' ∧ I r xs W'
  | .ret, _, W' => KeepsFrom B W W' ∧ Ix .ret r xs W'
  | .exit id, _, W' => KeepsFrom B W W' ∧ Ix (.exit id) r xs W'
  | .goto t, _, W' => KeepsFrom B W W' ∧ Ix (.goto t) r xs W'
  | .panic _, _, _ => False
  | .outgrown, _, _ => False

variable {F : Fence} {n : Nat} {P : Program}

/-- **'for x := range seq { body }'.** -/
theorem wpIn_iterate {α : Type} {g : Operand} {ps : Array Tmp} {assign body : Code} {Q : Exit → Act → World → Prop} {a : Act} {w : World}
    (hro : F.round = none) (h1 : F.depth.isSome = true → 1 ≤ n) {gf : Nat} {lb : Array Value} (hg : a.eval g = .func (.func gf) #[] lb) (hFg : F.fn gf) (eg : ∀ args w, (callFunc gf args).run P w = .ok (.enter gf args) w)
    {Bi Be : Nat} {Hand : World → Nat → Value → α → Prop} (hHand : ∀ W W' B v x l, Hand W B v x → W.grownBy W' (some l) → l < B → Hand W' B v x)
    {xs : List α} {w0 : World} (hseq : ISeq F (n - 1) P gf lb Bi Be Hand xs w0) (hb0 : Below w0.heap.size w0 w) (hBe : Be ≤ w.heap.size) (hps : ps.size = 1)
    (I : Option Nat → List α → World → Prop) (Ix : Code → Option Nat → List α → World → Prop) (hI : Bides w.heap.size I) (hIx : ∀ c, Bides w.heap.size (Ix c)) (h0 : ∀ r, (∀ k, r = some k → w.heap.size ≤ k) → I r [] w)
    (hround : ∀ (l : Nat) (r : Option Nat) (pre : List α) (x : α) (v : Value) (A C W : World), w.heap.size ≤ l → l < A.heap.size → (∃ o, A.heap[l]? = some o ∧ o.isCells = false) → (∀ k, r = some k → l < k ∧ k < A.heap.size) → I r pre A → I r pre W → pre ++ [x] <+: xs → A.grownBy W (some l) → Hand W A.heap.size v x →
      assign.wpIn (F.inRound l) (n - 1 - 1) P (Exit.then (fun a' C' => C' = C ∧ body.wpIn (F.inRound l) (n - 1 - 1) P (seqPost w.heap.size Bi Be r I Ix (pre ++ [x]) W) a' W) (fun _ _ _ => False)) { tmps := (ps.zip #[v]).foldl (fun t (p, v) => t.setIfInBounds p v) a.tmps, defers := [] } C)
    (hdone : ∀ (D : Nat) (r : Option Nat) (W : World), w.heap.size ≤ D → I r xs W → W.heap[D]? = some (.deferred (some [])) → Q .normal { a with defers := { target := .collected D, args := #[] } :: a.defers } W)
    (hstop : ∀ (D : Nat) (c : Code) (r : Option Nat) (pre : List α) (W : World), w.heap.size ≤ D → pre <+: xs → Ix c r pre W → W.heap[D]? = some (.deferred (some [])) → c.wpIn F n P Q { a with defers := { target := .collected D, args := #[] } :: a.defers } W) :
    (Code.rangeFunc g ps assign body).wpIn F n P Q a w := by
  refine wpIn_rangeFunc ?_
  intro fn hfn
  rw [hro]
  obtain ⟨rec, hrec⟩ : ∃ rec : LoopState → Option Code → Loop, rec = fun st pe => { state := st, pending := pe, fn, tmps := a.tmps, params := ps, assign, body, defers := w.heap.size } := ⟨_, rfl⟩
  obtain ⟨S, hS⟩ : ∃ S, (w.alloc (.deferred (some []))).alloc (.loop (rec .ready none)) = S := ⟨_, rfl⟩
  have hSz : S.heap.size = w.heap.size + 2 := by rw [← hS]; simp
  have hbS : Below w.heap.size w S := by rw [← hS]; exact ((Below.refl _ w).alloc (Nat.le_refl _) _).alloc (by simp) _
  -- the two facts of book-keeping, at a state of the record
  obtain ⟨Bk, hBk⟩ : ∃ Bk : LoopState → Option Code → World → Prop, Bk = fun st pe W => W.heap[w.heap.size + 1]? = some (.loop (rec st pe)) ∧ W.heap[w.heap.size]? = some (.deferred (some [])) := ⟨_, rfl⟩
  have kBk : ∀ {st pe A C row} {r : Option Nat}, Bk st pe A → A.grownBy C row → Mild S.heap.size r A row → Bk st pe C := by
    intro st pe A C row r hb hg hm
    rw [hBk] at hb ⊢
    have go : ∀ k, k < S.heap.size → k < A.heap.size → C.heap[k]? = A.heap[k]? := fun k hk hA => hg.block k hA (fun e => by have := (hm k e.symm).1; omega)
    have hlt := (Array.getElem?_eq_some_iff.1 hb.1).1
    exact ⟨(go _ (by omega) hlt).trans hb.1, (go _ (by omega) (by omega)).trans hb.2⟩
  have pBk : ∀ {st pe st' pe' W}, Bk st pe W → Bk st' pe' (W.putObj (w.heap.size + 1) (.loop (rec st' pe'))) := by
    intro st pe st' pe' W hb
    rw [hBk] at hb ⊢
    exact ⟨World.putObj_heap_same (Array.getElem?_eq_some_iff.1 hb.1).1, (World.putObj_heap_other (by omega)).trans hb.2⟩
  have fBk : ∀ {st pe A C}, Bk st pe A → KeepsFrom w.heap.size A C → Bk st pe C := by
    intro st pe A C hb hk
    rw [hBk] at hb ⊢
    exact ⟨hk.same _ _ (by omega) hb.1 rfl, hk.same _ _ (Nat.le_refl _) hb.2 rfl⟩
  have oBk : ∀ {st pe W}, Bk st pe W → W.heap[w.heap.size + 1]? = some (.loop (rec st pe)) := fun hb => by rw [hBk] at hb; exact hb.1
  have dBk : ∀ {st pe W}, Bk st pe W → W.heap[w.heap.size]? = some (.deferred (some [])) := fun hb => by rw [hBk] at hb; exact hb.2
  have hB1 : Bk .ready none S := by
    rw [hBk, ← hS]
    refine ⟨?_, (Below.heap_alloc _ _ _ (by simp)).trans (World.alloc_heap_new w _)⟩
    have := World.alloc_heap_new (w.alloc (.deferred (some []))) (.loop (rec .ready none))
    rwa [World.size_alloc] at this
  have mild_le : ∀ {r : Option Nat} {A : World} {row : Option Nat}, Mild S.heap.size r A row → Mild w.heap.size r A row := fun hm k e => ⟨by have := (hm k e).1; omega, (hm k e).2⟩
  refine ⟨w.heap.size + 1, [{ target := .collected w.heap.size, args := #[] }], S, { target := .fn (.func gf) lb, args := #[.func (.yield (w.heap.size + 1)) #[] #[]] }, S, gf,
    #[.func (.yield (w.heap.size + 1)) #[] #[]] ++ lb, S, ?_, ?_, ?_, ?_, h1, ?_⟩
  · rw [← hS, hrec]; exact run_enterLoop_outer _ _ _ _ _
  · simp only [resolve, hg]
    simp [go_sem]
  · intro f' hf'; simp [Target.leads] at hf'; subst hf'; exact hFg
  · simp [invoke, go_sem, eg]
  · refine (hseq (w.heap.size + 1) (fun r pre W => I r pre W ∧ Bk .ready none W) (fun r pre W => ∃ c, Ix c r pre W ∧ Bk .done (some c) W) S (hb0.trans (hbS.mono hb0.size))
      (fun r s A C row hs hg hm => ⟨hI r s A C row hs.1 hg (mild_le hm), kBk hs.2 hg hm⟩)
      (fun r s A C row hs hg hm => by obtain ⟨c, hc, hb⟩ := hs; exact ⟨c, hIx c r s A C row hc hg (mild_le hm), kBk hb hg hm⟩)
      (fun r hr => ⟨hI.later (h0 r fun k e => by have := hr k e; omega) hbS, hB1⟩) ?_).mono ?_
    · rintro r pre x v A C hr ⟨hi, hbA⟩ hpre hSA hAC hh
      have hiC : I r pre C := hI.later hi hAC
      have hbC : Bk .ready none C := kBk (r := r) hbA (grown_of_below hAC) mild_none
      have hlA : w.heap.size + 1 < A.heap.size := (Array.getElem?_eq_some_iff.1 (oBk hbA)).1
      have hy := run_yield (P := P) (args := #[v]) (oBk hbC) (by rw [hrec]; exact hps.symm)
      rw [hrec] at hy
      have hb2 : Bk .busy none (C.putObj (w.heap.size + 1) (.loop (rec .busy none))) := pBk hbC
      have hrl : ∀ k, r = some k → w.heap.size + 1 < k ∧ k < A.heap.size := fun k e => by have := hr k e; omega
      refine ⟨fn, _, assign, body, hy, roundIn_of_wpIn hfn (wpIn_mono (hround _ r pre x v A C (C.putObj (w.heap.size + 1) (.loop (rec .busy none))) (by omega) hlA ⟨_, oBk hbA, rfl⟩ hrl hi (hI.put _ hiC (by omega) (oBk hbC) rfl) hpre (grown_trans (grown_any _ (grown_of_below hAC)) (grownBy_putObj' _ _ _)) (hHand _ _ _ _ _ _ hh (grownBy_putObj' _ _ _) hlA)) ?_)⟩
      intro e1 a1 W1 hq1
      rcases e1 with _ | _ | _ | _ | _ | _
      all_goals first | exact hq1 | skip
      obtain ⟨hCC, hbd⟩ := hq1
      rw [hCC]
      have e2 : (.loop { rec .ready none with state := .busy } : Obj) = .loop (rec .busy none) := by rw [hrec]
      refine ⟨_, run_beginRound (oBk hbC) (by rw [hrec]), ?_⟩
      rw [e2]
      refine wpIn_mono hbd ?_
      have fin : ∀ (jump : Option Code) (W3 : World), KeepsFrom w.heap.size (C.putObj (w.heap.size + 1) (.loop (rec .busy none))) W3 →
          Bk .busy none W3 ∧ (Instr.endRound (w.heap.size + 1) jump).run P W3 = .ok (.bool jump.isNone) (W3.putObj (w.heap.size + 1) (.loop (rec (if jump.isNone then .ready else .done) jump))) := fun jump W3 hk3 => by
        have hb3 := fBk hb2 hk3
        have := run_endRound (P := P) jump (oBk hb3)
        rw [hrec] at this ⊢
        exact ⟨hb3, this⟩
      rintro e a3 W3 hp
      cases e with
      | normal =>
        obtain ⟨hk3, hs3, hi3⟩ := hp
        obtain ⟨hb3, hrun⟩ := fin none W3 hk3
        exact ⟨_, _, hrun, .inl ⟨rfl, ⟨hI.put _ hi3 (by omega) (oBk hb3) rfl, pBk hb3⟩, (((Spares.refl C).put _ (by omega) fun k e => (hrl k e).1).trans hs3).put _ (by omega) fun k e => (hrl k e).1⟩⟩
      | ret =>
        obtain ⟨hk3, hi3⟩ := hp
        obtain ⟨hb3, hrun⟩ := fin (some .ret) W3 hk3
        exact ⟨_, _, hrun, .inr ⟨rfl, .ret, (hIx _).put _ hi3 (by omega) (oBk hb3) rfl, pBk hb3⟩⟩
      | exit id =>
        obtain ⟨hk3, hi3⟩ := hp
        obtain ⟨hb3, hrun⟩ := fin (some (.exit id)) W3 hk3
        exact ⟨_, _, hrun, .inr ⟨rfl, .exit id, (hIx _).put _ hi3 (by omega) (oBk hb3) rfl, pBk hb3⟩⟩
      | goto t =>
        obtain ⟨hk3, hi3⟩ := hp
        obtain ⟨hb3, hrun⟩ := fin (some (.goto t)) W3 hk3
        exact ⟨_, _, hrun, .inr ⟨rfl, .goto t, (hIx _).put _ hi3 (by omega) (oBk hb3) rfl, pBk hb3⟩⟩
      | panic ch => exact hp.elim
      | outgrown => exact hp.elim
    · rintro e W2 ⟨⟨v, rfl⟩, (⟨r, hi, hb⟩ | ⟨r, pre, hpre, c, hi, hb⟩)⟩
      · have hrun := run_endLoop (P := P) (oBk hb) (by rw [hrec]; simp)
        rw [hrec] at hrun
        exact ⟨none, _, hrun, hdone _ r _ (Nat.le_refl _) (hI.put _ hi (by omega) (oBk hb) rfl) ((World.putObj_heap_other (by omega)).trans (dBk hb))⟩
      · have hrun := run_endLoop (P := P) (oBk hb) (by rw [hrec]; simp)
        rw [hrec] at hrun
        exact ⟨some c, _, hrun, hstop _ c r pre _ (Nat.le_refl _) hpre ((hIx c).put _ hi (by omega) (oBk hb) rfl) ((World.putObj_heap_other (by omega)).trans (dBk hb))⟩
end Go.Proofs.Ytaegkiangjnmdaa.iter
