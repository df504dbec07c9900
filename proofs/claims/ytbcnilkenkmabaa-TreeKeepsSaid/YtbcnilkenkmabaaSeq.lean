/- A loop over an iterator that keeps blocks of its own (a set R of them, which grows) and hands out values in memory: the iterator's contract (ISeq), and the law for the caller (wpIn_iterate). As text Iter, for sets of blocks, values of any number, and assignments that make memory. -/
import Derived.Test.YtbcnilkenkmabaaMem
import Derived.RangeFuncNested
import Derived.RangeFuncBound
import Derived.RangeFuncCalls
import Derived.RangeFuncLeaves
import Derived.RangeFuncBox
import Derived.Shelf.Abstract
import Derived.OwnWalkIn
import Derived.TacticsInMore
import Derived.LoopNIn
import Derived.LoopIn
namespace Go.Proofs.Ytbcnilkenkmabaa.sq
open Go.ChangeShapes Go.WideShapes Go.ChangeAt Go.RowKit Go.Proofs.Ytbcnilkenkmabaa.mem
set_option linter.unusedVariables false

/-- A step of another party, from block B on: of the blocks that were there it turns those of R, and what holds no cells. -/
structure Turn (B : Nat) (R : Nat → Prop) (A C : World) : Prop where
  os : C.os = A.os
  tape : C.tape = A.tape
  output : C.output = A.output
  size : A.heap.size ≤ C.heap.size
  block : ∀ k, k < A.heap.size → C.heap[k]? = A.heap[k]? ∨ (B ≤ k ∧ (R k ∨ ∃ o, A.heap[k]? = some o ∧ o.isCells = false))
/-- The set of blocks has grown by new ones. -/
structure Grow (R R' : Nat → Prop) (A C : World) : Prop where
  sub : ∀ k, R k → R' k
  new : ∀ k, R' k → R k ∨ (A.heap.size ≤ k ∧ k < C.heap.size)
/-- The invariant abides such steps. -/
def Bides {α : Type} (B : Nat) (J : (Nat → Prop) → List α → World → Prop) : Prop := ∀ R R' s A C, J R s A → Turn B R A C → Grow R R' A C → J R' s C
/-- What a round leaves to the iterator. -/
structure Spares (Bs : Nat) (Keep R : Nat → Prop) (W W' : World) : Prop where
  os : W'.os = W.os
  tape : W'.tape = W.tape
  output : W'.output = W.output
  own : ∀ k, R k → W'.heap[k]? = W.heap[k]?
  kept : ∀ k, Keep k → W'.heap[k]? = W.heap[k]?
  others : KeepsFrom Bs W W'

theorem Grow.refl (R : Nat → Prop) (A C : World) : Grow R R A C := ⟨fun _ h => h, fun _ h => .inl h⟩
theorem Grow.trans {R R' R'' : Nat → Prop} {A B C D : World} (h : Grow R R' A B) (k : Grow R' R'' C D) (h1 : A.heap.size ≤ C.heap.size) (h2 : B.heap.size ≤ D.heap.size) : Grow R R'' A D :=
  ⟨fun i hi => k.sub i (h.sub i hi), fun i hi => by
    rcases k.new i hi with h3 | h3
    · rcases h.new i h3 with h4 | h4
      · exact .inl h4
      · exact .inr ⟨h4.1, by omega⟩
    · exact .inr ⟨by omega, h3.2⟩⟩
theorem Grow.to {R R' : Nat → Prop} {A B D : World} (h : Grow R R' A B) (hs : B.heap.size ≤ D.heap.size) : Grow R R' A D := ⟨h.sub, fun i hi => (h.new i hi).imp id fun e => ⟨e.1, by omega⟩⟩
theorem Turn.of_below {B : Nat} {R : Nat → Prop} {A C : World} (h : Below A.heap.size A C) : Turn B R A C := ⟨h.os, h.tape, h.output, h.size, fun k hk => .inl (h.block k hk)⟩
theorem Turn.refl (B : Nat) (R : Nat → Prop) (A : World) : Turn B R A A := .of_below (Below.refl _ _)
theorem Turn.put {B : Nat} {R : Nat → Prop} {W : World} {l : Nat} {o : Obj} (o' : Obj) (hB : B ≤ l) (hl : W.heap[l]? = some o) (ho : o.isCells = false) : Turn B R W (W.putObj l o') :=
  ⟨rfl, rfl, rfl, by simp, fun k hk => by
    by_cases e : k = l
    · subst e; exact .inr ⟨hB, .inr ⟨o, hl, ho⟩⟩
    · exact .inl (World.putObj_heap_other e)⟩
theorem Turn.set {B : Nat} {R : Nat → Prop} {W : World} {p : Addr} (u : Value) (hB : B ≤ p.block) (hp : R p.block) : Turn B R W (W.setCell p u) :=
  ⟨rfl, rfl, rfl, by simp [World.setCell], fun k hk => by
    by_cases e : k = p.block
    · subst e; exact .inr ⟨hB, .inl hp⟩
    · exact .inl (Below.heap_setCell _ _ _ _ e)⟩
theorem Turn.mono {B B' : Nat} {R R' : Nat → Prop} {A C : World} (h : Turn B R A C) (hB : B' ≤ B) (hR : ∀ k, R k → R' k) : Turn B' R' A C :=
  ⟨h.os, h.tape, h.output, h.size, fun k hk => (h.block k hk).imp id fun ⟨h1, h2⟩ => ⟨by omega, h2.imp (hR k) id⟩⟩
theorem Turn.trans {B : Nat} {R R' : Nat → Prop} {A C D : World} (h : Turn B R A C) (k : Turn B R' C D) (hg : Grow R R' A C) : Turn B R A D :=
  ⟨k.os.trans h.os, k.tape.trans h.tape, k.output.trans h.output, Nat.le_trans h.size k.size, fun i hi => by
    rcases h.block i hi with e1 | e1
    · rcases k.block i (Nat.lt_of_lt_of_le hi h.size) with e2 | ⟨hB, e2⟩
      · exact .inl (e2.trans e1)
      · refine .inr ⟨hB, ?_⟩
        rcases e2 with e2 | ⟨o, ho, hc⟩
        · rcases hg.new i e2 with e3 | e3
          · exact .inl e3
          · omega
        · exact .inr ⟨o, by rw [← e1]; exact ho, hc⟩
    · exact .inr e1⟩
theorem Bides.below {α : Type} {B : Nat} {I : (Nat → Prop) → List α → World → Prop} (h : Bides B I) {R : Nat → Prop} {s : List α} {A C : World} (hs : I R s A) (hb : Below A.heap.size A C) : I R s C := h R R s A C hs (.of_below hb) (.refl _ _ _)
theorem Bides.put {α : Type} {B : Nat} {I : (Nat → Prop) → List α → World → Prop} (h : Bides B I) {R : Nat → Prop} {s : List α} {W : World} {l : Nat} {o : Obj} (o' : Obj) (hs : I R s W) (hB : B ≤ l) (hl : W.heap[l]? = some o) (ho : o.isCells = false) : I R s (W.putObj l o') :=
  h R R s W _ hs (.put o' hB hl ho) (.refl _ _ _)
theorem Spares.refl {Bs : Nat} {Keep R : Nat → Prop} (W : World) : Spares Bs Keep R W W := ⟨rfl, rfl, rfl, fun _ _ => rfl, fun _ _ => rfl, KeepsFrom.refl _ _⟩
theorem KeepsFrom.trans' {B : Nat} {A C D : World} (h : KeepsFrom B A C) (k : KeepsFrom B C D) : KeepsFrom B A D := ⟨Nat.le_trans h.size k.size, fun i o hi ho hc => k.same i o hi (h.same i o hi ho hc) hc⟩
theorem Spares.trans {Bs : Nat} {Keep R : Nat → Prop} {A B C : World} (h : Spares Bs Keep R A B) (k : Spares Bs Keep R B C) : Spares Bs Keep R A C :=
  ⟨k.os.trans h.os, k.tape.trans h.tape, k.output.trans h.output, fun i e => (k.own i e).trans (h.own i e), fun i e => (k.kept i e).trans (h.kept i e), KeepsFrom.trans' h.others k.others⟩
theorem Spares.mono {Bs Bs' : Nat} {Keep Keep' R R' : Nat → Prop} {A B : World} (h : Spares Bs Keep R A B) (h1 : Bs ≤ Bs') (h2 : ∀ k, Keep' k → Keep k) (h3 : ∀ k, R' k → R k) : Spares Bs' Keep' R' A B :=
  ⟨h.os, h.tape, h.output, fun k e => h.own k (h3 k e), fun k e => h.kept k (h2 k e), ⟨h.others.size, fun k o hk ho hc => h.others.same k o (by omega) ho hc⟩⟩
theorem Spares.size {Bs : Nat} {Keep R : Nat → Prop} {A B : World} (h : Spares Bs Keep R A B) : A.heap.size ≤ B.heap.size := h.others.size
theorem Spares.of_below {Bs : Nat} {Keep R : Nat → Prop} {A C : World} (h : Below A.heap.size A C) (hK : ∀ k, Keep k → k < A.heap.size) (hR : ∀ k, R k → k < A.heap.size) : Spares Bs Keep R A C :=
  ⟨h.os, h.tape, h.output, fun k e => h.block k (hR k e), fun k e => h.block k (hK k e), ⟨h.size, fun k o _ ho _ => (h.block k (Array.getElem?_eq_some_iff.1 ho).1).trans ho⟩⟩
theorem Spares.pick {Bs Bs' : Nat} {K Keep R : Nat → Prop} {A B : World} (h : Spares Bs K (fun _ => False) A B) (hB : Bs ≤ Bs') (h1 : ∀ k, Keep k → K k) (h2 : ∀ k, R k → K k) : Spares Bs' Keep R A B :=
  ⟨h.os, h.tape, h.output, fun k e => h.kept k (h2 k e), fun k e => h.kept k (h1 k e), ⟨h.size, fun k o hk ho hc => h.others.same k o (by omega) ho hc⟩⟩
theorem Spares.set {Bs : Nat} {K R : Nat → Prop} {A B : World} (h : Spares Bs K R A B) {p : Addr} {v : Value} (hc : B.cell? p = some v) (u : Value) (h1 : ¬ K p.block) (h2 : ¬ R p.block) : Spares Bs K R A (B.setCell p u) :=
  ⟨h.os, h.tape, h.output, fun k e => (Below.heap_setCell _ _ _ _ (fun e' => h2 (e' ▸ e))).trans (h.own k e), fun k e => (Below.heap_setCell _ _ _ _ (fun e' => h1 (e' ▸ e))).trans (h.kept k e),
    ⟨by simpa [World.setCell] using h.size, fun k o hk ho hn => by
      have hB := h.others.same k o hk ho hn
      by_cases e : k = p.block
      · subst e
        obtain ⟨o', ho', hc'⟩ := cells_of_cell hc
        rw [hB] at ho'; cases ho'; rw [hn] at hc'; cases hc'
      · exact (Below.heap_setCell _ _ _ _ e).trans hB⟩⟩
theorem Spares.put_new {Bs D : Nat} {K R : Nat → Prop} {A B : World} (h : Spares Bs K R A B) (o : Obj) (hD : A.heap.size ≤ D) (hK : ∀ k, K k → k < A.heap.size) (hR : ∀ k, R k → k < A.heap.size) : Spares Bs K R A (B.putObj D o) :=
  ⟨h.os, h.tape, h.output, fun k e => (World.putObj_heap_other (by have := hR k e; omega)).trans (h.own k e), fun k e => (World.putObj_heap_other (by have := hK k e; omega)).trans (h.kept k e),
    ⟨by simpa using h.size, fun k o' hk ho hn => by
      have := (Array.getElem?_eq_some_iff.1 ho).1
      exact (World.putObj_heap_other (by omega)).trans (h.others.same k o' hk ho hn)⟩⟩

/-- **The contract of an iterator value**: whatever invariant J of the caller's abides its steps, it hands out the elements of xs one after the other, and stops where a round says so. -/
def ISeq {α : Type} (F : Fence) (n : Nat) (P : Program) (g : Nat) (lb : Array Value) (Keep : Nat → Prop) (Hand : World → α → Array Value → Prop) (xs : List α) (w : World) : Prop :=
  ∀ (l : Nat) (J Jx : (Nat → Prop) → List α → World → Prop) (W : World), Below w.heap.size w W → Bides W.heap.size J → Bides W.heap.size Jx → J (fun _ => False) [] W →
    (∀ R pre x vs C, (∀ k, R k → W.heap.size ≤ k ∧ k < C.heap.size) → W.heap.size ≤ C.heap.size → J R pre C → pre ++ [x] <+: xs → Hand C x vs →
      YieldAt F (n - 1) P l vs C fun e W' => ((e = .returned (.bool true) ∧ J R (pre ++ [x]) W') ∨ (e = .returned (.bool false) ∧ Jx R (pre ++ [x]) W')) ∧ Spares W.heap.size Keep R C W') →
    CallsIn F n P g (#[.func (.yield l) #[] #[]] ++ lb) W fun e W' => (∃ v, e = .returned v) ∧ ((∃ R, J R xs W') ∨ (∃ R pre, pre <+: xs ∧ Jx R pre W'))
theorem ISeq.later {α : Type} {F : Fence} {n : Nat} {P : Program} {g : Nat} {lb : Array Value} {Keep : Nat → Prop} {Hand : World → α → Array Value → Prop} {xs : List α} {w w' : World} (h : ISeq F n P g lb Keep Hand xs w) (hb : Below w.heap.size w w') : ISeq F n P g lb Keep Hand xs w' :=
  fun l J Jx W hW => h l J Jx W (hb.trans (hW.mono hb.size))

/-- How the body of a round may be left. -/
def seqPost {α : Type} (B : Nat) (Keep R : Nat → Prop) (I : (Nat → Prop) → List α → World → Prop) (Ix : Code → (Nat → Prop) → List α → World → Prop) (xs : List α) (W : World) : Exit → Act → World → Prop
  | .normal, _, W' => Spares B Keep R W W' ∧ I R xs W'
  | .ret, _, W' => Spares B Keep R W W' ∧ Ix .ret R xs W'
  | .exit id, _, W' => Spares B Keep R W W' ∧ Ix (.exit id) R xs W'
  | .goto t, _, W' => Spares B Keep R W W' ∧ Ix (.goto t) R xs W'
  | .panic _, _, _ => False
  | .outgrown, _, _ => False

variable {F : Fence} {n : Nat} {P : Program}

/-- **'for x, y := range seq { body }'.** -/
theorem wpIn_iterate {α : Type} {g : Operand} {ps : Array Tmp} {assign body : Code} {Q : Exit → Act → World → Prop} {a : Act} {w : World}
    (hro : F.round = none) (h1 : F.depth.isSome = true → 1 ≤ n) {gf : Nat} {lb : Array Value} (hg : a.eval g = .func (.func gf) #[] lb) (hFg : F.fn gf) (eg : ∀ args w, (callFunc gf args).run P w = .ok (.enter gf args) w)
    {Keep : Nat → Prop} {Hand : World → α → Array Value → Prop} (hps : ∀ W x vs, Hand W x vs → vs.size = ps.size)
    {xs : List α} {w0 : World} (hseq : ISeq F (n - 1) P gf lb Keep Hand xs w0) (hb0 : Below w0.heap.size w0 w) (hKeep : ∀ k, Keep k → k < w.heap.size)
    (I : (Nat → Prop) → List α → World → Prop) (Ix : Code → (Nat → Prop) → List α → World → Prop) (hI : Bides w.heap.size I) (hIx : ∀ c, Bides w.heap.size (Ix c)) (h0 : I (fun _ => False) [] w)
    (hround : ∀ (l : Nat) (R : Nat → Prop) (pre : List α) (x : α) (vs : Array Value) (C : World), w.heap.size ≤ l → l < C.heap.size → (∃ r, C.heap[l]? = some (.loop r)) → (∀ k, R k → l < k ∧ k < C.heap.size) → I R pre C → pre ++ [x] <+: xs → Hand C x vs →
      assign.wpIn (F.inRound l) (n - 1 - 1) P (Exit.then (fun a' C' => Spares w.heap.size Keep R C C' ∧ ∀ W, C'.grownBy W (some l) → body.wpIn (F.inRound l) (n - 1 - 1) P (seqPost w.heap.size Keep R I Ix (pre ++ [x]) W) a' W) (fun _ _ _ => False)) { tmps := (ps.zip vs).foldl (fun t (p, v) => t.setIfInBounds p v) a.tmps, defers := [] } C)
    (hdone : ∀ (D : Nat) (R : Nat → Prop) (W : World), w.heap.size ≤ D → I R xs W → W.heap[D]? = some (.deferred (some [])) → Q .normal { a with defers := { target := .collected D, args := #[] } :: a.defers } W)
    (hstop : ∀ (D : Nat) (c : Code) (R : Nat → Prop) (pre : List α) (W : World), w.heap.size ≤ D → pre <+: xs → Ix c R pre W → W.heap[D]? = some (.deferred (some [])) → c.wpIn F n P Q { a with defers := { target := .collected D, args := #[] } :: a.defers } W) :
    (Code.rangeFunc g ps assign body).wpIn F n P Q a w := by
  refine wpIn_rangeFunc ?_
  intro fn hfn
  rw [hro]
  obtain ⟨rec, hrec⟩ : ∃ rec : LoopState → Option Code → Loop, rec = fun st pe => { state := st, pending := pe, fn, tmps := a.tmps, params := ps, assign, body, defers := w.heap.size } := ⟨_, rfl⟩
  obtain ⟨S, hS⟩ : ∃ S, (w.alloc (.deferred (some []))).alloc (.loop (rec .ready none)) = S := ⟨_, rfl⟩
  have hSz : S.heap.size = w.heap.size + 2 := by rw [← hS]; simp
  have hbS : Below w.heap.size w S := by rw [← hS]; exact ((Below.refl _ w).alloc (Nat.le_refl _) _).alloc (by simp) _
  obtain ⟨Bk, hBk⟩ : ∃ Bk : LoopState → Option Code → World → Prop, Bk = fun st pe W => W.heap[w.heap.size + 1]? = some (.loop (rec st pe)) ∧ W.heap[w.heap.size]? = some (.deferred (some [])) := ⟨_, rfl⟩
  have kBk : ∀ {st pe A C} {R : Nat → Prop}, Bk st pe A → Turn S.heap.size R A C → Bk st pe C := by
    intro st pe A C R hb ht
    rw [hBk] at hb ⊢
    have go : ∀ k, k < S.heap.size → k < A.heap.size → C.heap[k]? = A.heap[k]? := fun k hk hA => (ht.block k hA).elim id fun h => by omega
    have hlt := (Array.getElem?_eq_some_iff.1 hb.1).1
    exact ⟨(go _ (by omega) hlt).trans hb.1, (go _ (by omega) (by omega)).trans hb.2⟩
  have pBk : ∀ {st pe st' pe' W}, Bk st pe W → Bk st' pe' (W.putObj (w.heap.size + 1) (.loop (rec st' pe'))) := by
    intro st pe st' pe' W hb
    rw [hBk] at hb ⊢
    exact ⟨World.putObj_heap_same (Array.getElem?_eq_some_iff.1 hb.1).1, (World.putObj_heap_other (by omega)).trans hb.2⟩
  have fBk : ∀ {st pe A C}, Bk st pe A → KeepsFrom w.heap.size A C → Bk st pe C := by
    intro st pe A C hb hk
    rw [hBk] at hb ⊢
    exact ⟨hk.same _ _ (by omega) hb.1 rfl, hk.same _ _ (Nat.le_refl _) hb.2 rfl⟩
  have oBk : ∀ {st pe W}, Bk st pe W → W.heap[w.heap.size + 1]? = some (.loop (rec st pe)) := fun hb => by rw [hBk] at hb; exact hb.1
  have dBk : ∀ {st pe W}, Bk st pe W → W.heap[w.heap.size]? = some (.deferred (some [])) := fun hb => by rw [hBk] at hb; exact hb.2
  have hB1 : Bk .ready none S := by
    rw [hBk, ← hS]
    refine ⟨?_, (Below.heap_alloc _ _ _ (by simp)).trans (World.alloc_heap_new w _)⟩
    have := World.alloc_heap_new (w.alloc (.deferred (some []))) (.loop (rec .ready none))
    rwa [World.size_alloc] at this
  refine ⟨w.heap.size + 1, [{ target := .collected w.heap.size, args := #[] }], S, { target := .fn (.func gf) lb, args := #[.func (.yield (w.heap.size + 1)) #[] #[]] }, S, gf,
    #[.func (.yield (w.heap.size + 1)) #[] #[]] ++ lb, S, ?_, ?_, ?_, ?_, h1, ?_⟩
  · rw [← hS, hrec]; exact run_enterLoop_outer _ _ _ _ _
  · simp only [resolve, hg]
    simp [go_sem]
  · intro f' hf'; simp [Target.leads] at hf'; subst hf'; exact hFg
  · simp [invoke, go_sem, eg]
  · refine (hseq (w.heap.size + 1) (fun R pre W => I R pre W ∧ Bk .ready none W) (fun R pre W => ∃ c, Ix c R pre W ∧ Bk .done (some c) W) S (hb0.trans (hbS.mono hb0.size))
      (fun R R' s A C hs ht hg => ⟨hI R R' s A C hs.1 (ht.mono (by omega) fun _ h => h) hg, kBk hs.2 ht⟩)
      (fun R R' s A C hs ht hg => by obtain ⟨c, hc, hb⟩ := hs; exact ⟨c, hIx c R R' s A C hc (ht.mono (by omega) fun _ h => h) hg, kBk hb ht⟩)
      ⟨hI.below h0 hbS, hB1⟩ ?_).mono ?_
    · rintro R pre x vs C hr hSC ⟨hi, hbC⟩ hpre hh
      have hlC : w.heap.size + 1 < C.heap.size := (Array.getElem?_eq_some_iff.1 (oBk hbC)).1
      have hy := run_yield (P := P) (args := vs) (oBk hbC) (by rw [hrec]; exact hps _ _ _ hh)
      rw [hrec] at hy
      have hrl : ∀ k, R k → w.heap.size + 1 < k ∧ k < C.heap.size := fun k e => by have := hr k e; omega
      have hKl : ¬ Keep (w.heap.size + 1) := fun e => by have := hKeep _ e; omega
      have hRl : ¬ R (w.heap.size + 1) := fun e => by have := hrl _ e; omega
      refine ⟨fn, _, assign, body, hy, roundIn_of_wpIn hfn (wpIn_mono (hround _ R pre x vs C (by omega) hlC ⟨_, oBk hbC⟩ hrl hi hpre hh) ?_)⟩
      intro e1 a1 W1 hq1
      rcases e1 with _ | _ | _ | _ | _ | _
      all_goals first | exact hq1 | skip
      obtain ⟨hs1, hbd⟩ := hq1
      have hb1 : Bk .ready none W1 := fBk hbC hs1.others
      have e2 : (.loop { rec .ready none with state := .busy } : Obj) = .loop (rec .busy none) := by rw [hrec]
      refine ⟨_, run_beginRound (oBk hb1) (by rw [hrec]), ?_⟩
      rw [e2]
      have hb2 : Bk .busy none (W1.putObj (w.heap.size + 1) (.loop (rec .busy none))) := pBk hb1
      refine wpIn_mono (hbd _ (grownBy_putObj' _ _ _)) ?_
      have fin : ∀ (jump : Option Code) (W3 : World), Spares w.heap.size Keep R (W1.putObj (w.heap.size + 1) (.loop (rec .busy none))) W3 →
          Bk .busy none W3 ∧ (Instr.endRound (w.heap.size + 1) jump).run P W3 = .ok (.bool jump.isNone) (W3.putObj (w.heap.size + 1) (.loop (rec (if jump.isNone then .ready else .done) jump))) ∧
          Spares (w.heap.size + 2) Keep R C (W3.putObj (w.heap.size + 1) (.loop (rec (if jump.isNone then .ready else .done) jump))) := fun jump W3 hs3 => by
        have hb3 := fBk hb2 hs3.others
        have he : (Instr.endRound (w.heap.size + 1) jump).run P W3 = .ok (.bool jump.isNone) (W3.putObj (w.heap.size + 1) (.loop (rec (if jump.isNone then .ready else .done) jump))) := by
          have := run_endRound (P := P) jump (oBk hb3)
          rw [hrec] at this ⊢
          exact this
        refine ⟨hb3, he, ?_⟩
        have hs1' : Spares (w.heap.size + 2) Keep R C W1 := hs1.mono (by omega) (fun _ h => h) (fun _ h => h)
        have hs3' := hs3.mono (Bs' := w.heap.size + 2) (by omega) (fun _ h => h) (fun _ h => h)
        refine ⟨hs3'.os.trans hs1'.os, hs3'.tape.trans hs1'.tape, hs3'.output.trans hs1'.output, fun k e => ?_, fun k e => ?_, ⟨?_, fun k o hk ho hc => ?_⟩⟩
        · have hne : k ≠ w.heap.size + 1 := by have := hrl k e; omega
          exact (World.putObj_heap_other hne).trans ((hs3'.own k e).trans ((World.putObj_heap_other hne).trans (hs1'.own k e)))
        · have hne : k ≠ w.heap.size + 1 := by have := hKeep k e; omega
          exact (World.putObj_heap_other hne).trans ((hs3'.kept k e).trans ((World.putObj_heap_other hne).trans (hs1'.kept k e)))
        · have h1 := hs1'.size; have h2 := hs3'.size; simp at h2 ⊢; omega
        · have hne : k ≠ w.heap.size + 1 := by omega
          exact (World.putObj_heap_other hne).trans (hs3'.others.same k o hk ((World.putObj_heap_other hne).trans (hs1'.others.same k o hk ho hc)) hc)
      rintro e a3 W3 hp
      cases e with
      | normal =>
        obtain ⟨hs3, hi3⟩ := hp
        obtain ⟨hb3, hrun, hs⟩ := fin none W3 hs3
        exact ⟨_, _, hrun, .inl ⟨rfl, hI.put _ hi3 (by omega) (oBk hb3) rfl, pBk hb3⟩, by rw [hSz]; exact hs⟩
      | ret =>
        obtain ⟨hs3, hi3⟩ := hp
        obtain ⟨hb3, hrun, hs⟩ := fin (some .ret) W3 hs3
        exact ⟨_, _, hrun, .inr ⟨rfl, .ret, (hIx _).put _ hi3 (by omega) (oBk hb3) rfl, pBk hb3⟩, by rw [hSz]; exact hs⟩
      | exit id =>
        obtain ⟨hs3, hi3⟩ := hp
        obtain ⟨hb3, hrun, hs⟩ := fin (some (.exit id)) W3 hs3
        exact ⟨_, _, hrun, .inr ⟨rfl, .exit id, (hIx _).put _ hi3 (by omega) (oBk hb3) rfl, pBk hb3⟩, by rw [hSz]; exact hs⟩
      | goto t =>
        obtain ⟨hs3, hi3⟩ := hp
        obtain ⟨hb3, hrun, hs⟩ := fin (some (.goto t)) W3 hs3
        exact ⟨_, _, hrun, .inr ⟨rfl, .goto t, (hIx _).put _ hi3 (by omega) (oBk hb3) rfl, pBk hb3⟩, by rw [hSz]; exact hs⟩
      | panic ch => exact hp.elim
      | outgrown => exact hp.elim
    · rintro e W2 ⟨⟨v, rfl⟩, (⟨R, hi, hb⟩ | ⟨R, pre, hpre, c, hi, hb⟩)⟩
      · have hrun := run_endLoop (P := P) (oBk hb) (by rw [hrec]; simp)
        rw [hrec] at hrun
        exact ⟨none, _, hrun, hdone _ R _ (Nat.le_refl _) (hI.put _ hi (by omega) (oBk hb) rfl) ((World.putObj_heap_other (by omega)).trans (dBk hb))⟩
      · have hrun := run_endLoop (P := P) (oBk hb) (by rw [hrec]; simp)
        rw [hrec] at hrun
        exact ⟨some c, _, hrun, hstop _ c R pre _ (Nat.le_refl _) hpre ((hIx c).put _ hi (by omega) (oBk hb) rfl) ((World.putObj_heap_other (by omega)).trans (dBk hb))⟩
end Go.Proofs.Ytbcnilkenkmabaa.sq
