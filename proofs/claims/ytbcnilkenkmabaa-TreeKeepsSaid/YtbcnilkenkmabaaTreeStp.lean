/- The nodes in the order of evaluation, with their levels: plain mathematics; what a caller of the iterator over the nodes owes and gets. -/
import Derived.Test.YtbcnilkenkmabaaTreeBack
namespace Go.Proofs.Ytbcnilkenkmabaa.tr
open Go.ChangeShapes Go.WideShapes Go.ChangeAt Go.RowKit Go.Proofs.Ytbcnilkenkmabaa.mem Go.Proofs.Ytbcnilkenkmabaa.sq
set_option linter.unusedVariables false

mutual
def stp : Nat → Tr → List (Nat × Tr) | lv, .node k f a s ns ks => stpL (lv + 1) ks ++ [(lv, .node k f a s ns ks)]
def stpL : Nat → List Tr → List (Nat × Tr) | _, [] => [] | lv, T :: r => stpL lv r ++ stp lv T
end
theorem stp_node (lv k f a s ns ks) : stp lv (.node k f a s ns ks) = stpL (lv + 1) ks ++ [(lv, .node k f a s ns ks)] := by simp only [stp]
theorem stpL_cons (lv T r) : stpL lv (T :: r) = stpL lv r ++ stp lv T := by simp only [stpL]
theorem stpL_nil (lv) : stpL lv [] = [] := by simp only [stpL]
theorem stpL_flat (lv : Nat) : ∀ ks : List Tr, stpL lv ks = ks.reverse.flatMap (stp lv)
  | [] => by simp [stpL_nil]
  | T :: r => by rw [stpL_cons, stpL_flat lv r]; simp
theorem stp_snd : ∀ (T : Tr) (lv : Nat), (stp lv T).map Prod.snd = stepsT T := by
  intro T
  induction T using Tr.ind with
  | h k f a s ns ks ih =>
    intro lv
    rw [stp_node, steps_node, List.map_append]
    have : ∀ lv, (stpL lv ks).map Prod.snd = stepsL ks := by
      clear k f a s ns
      induction ks with
      | nil => intro lv; simp only [stepsL, stpL]; rfl
      | cons T r ihr => intro lv; rw [stpL_cons, stepsL_cons, List.map_append, ih T (by simp), ihr fun U hU => ih U (by simp [hU])]
    rw [this]; rfl
theorem stpL_snd (ks : List Tr) (lv : Nat) : (stpL lv ks).map Prod.snd = stepsL ks := by
  induction ks with
  | nil => simp only [stepsL, stpL]; rfl
  | cons T r ih => rw [stpL_cons, stepsL_cons, List.map_append, ih, stp_snd]
theorem stp_len (T : Tr) (lv : Nat) : (stp lv T).length = sizeT T := by rw [← steps_len T, ← stp_snd T lv, List.length_map]
theorem stpL_len (ks : List Tr) (lv : Nat) : (stpL lv ks).length = sizeL ks := by rw [← stepsL_len ks, ← stpL_snd ks lv, List.length_map]

/-- The greatest level. -/
def topN : List (Nat × Tr) → Nat | [] => 0 | x :: r => max x.1 (topN r)
theorem topN_append (l r : List (Nat × Tr)) : topN (l ++ r) = max (topN l) (topN r) := by
  induction l with
  | nil => simp [topN]
  | cons x l ih => simp only [List.cons_append, topN, ih]; omega
theorem stp_top : ∀ (T : Tr) (lv : Nat), topN (stp (lv + 1) T) = lv + deepT T := by
  intro T
  induction T using Tr.ind with
  | h k f a s ns ks ih =>
    intro lv
    rw [stp_node, deep_node, topN_append]
    have : ∀ lv, topN (stpL (lv + 1) ks) ≤ lv + deepL ks ∧ (ks ≠ [] → topN (stpL (lv + 1) ks) = lv + deepL ks) := by
      clear k f a s ns
      induction ks with
      | nil => intro lv; simp [stpL_nil, topN]
      | cons T r ihr =>
        intro lv
        have h1 := ih T (by simp) lv
        have h2 := ihr (fun U hU => ih U (by simp [hU])) lv
        rw [stpL_cons, deepL_cons, topN_append, h1]
        have h3 := deep_pos T
        refine ⟨by omega, fun _ => ?_⟩
        cases r with
        | nil => simp only [stpL_nil, topN, deepL]; omega
        | cons U r => have := h2.2 (by simp); omega
    have h := this (lv + 1)
    simp only [topN]
    cases ks with
    | nil => simp only [stpL_nil, topN, deepL]; omega
    | cons U r => have := h.2 (by simp); omega
theorem kid_deep {l : List Tr} {T : Tr} (h : T ∈ l) : deepT T ≤ deepL l := by
  induction l with
  | nil => simp at h
  | cons U r ih =>
    rw [deepL_cons]
    rcases List.mem_cons.1 h with rfl | h
    · omega
    · have := ih h; omega

/-- What the iterator hands out: the level, and a node that is read through blocks of Keep. -/
def HandN (Keep : Nat → Prop) (W : World) (x : Nat × Tr) (vs : Array Value) : Prop := ∃ v : Value, vs = #[.int .i64 (x.1 : Int), v] ∧ RdQ Keep W x.2 v

/-- What is known of the caller of the iterator. -/
structure Caller (B0 : Nat) (Keep : Nat → Prop) (xs : List (Nat × Tr)) (l : Nat) (J Jx : (Nat → Prop) → List (Nat × Tr) → World → Prop) : Prop where
  hJ : Bides B0 J
  hJx : Bides B0 Jx
  keep : ∀ k, Keep k → k < B0
  yields : ∀ R pre x vs C, (∀ k, R k → B0 ≤ k ∧ k < C.heap.size) → B0 ≤ C.heap.size → J R pre C → pre ++ [x] <+: xs → HandN Keep C x vs →
    YieldAt Fence.wide 2 Try.prog l vs C fun e W' => ((e = .returned (.bool true) ∧ J R (pre ++ [x]) W') ∨ (e = .returned (.bool false) ∧ Jx R (pre ++ [x]) W')) ∧ Spares B0 Keep R C W'

theorem spares_turn {B0 B1 : Nat} {K R : Nat → Prop} {w1 X C : World} (h : Spares B0 K (fun _ => False) w1 X) (ht : Turn B1 R X C) (hK : ∀ k, K k → k < B1 ∧ k < w1.heap.size) (hB : w1.heap.size ≤ B1) : Spares B0 K (fun _ => False) w1 C := by
  have old : ∀ k, k < w1.heap.size → C.heap[k]? = X.heap[k]? := fun k hk => by
    rcases ht.block k (Nat.lt_of_lt_of_le hk h.size) with e | ⟨e, _⟩
    · exact e
    · omega
  exact ⟨ht.os.trans h.os, ht.tape.trans h.tape, ht.output.trans h.output, fun k e => e.elim, fun k e => (old k (hK k e).2).trans (h.kept k e),
    ⟨Nat.le_trans h.size ht.size, fun k o hk ho hc => (old k (Array.getElem?_eq_some_iff.1 ho).1).trans (h.others.same k o hk ho hc)⟩⟩
theorem cell_put {X : World} {D : Nat} {o o' : Obj} {p : Addr} {v : Value} (hc : X.cell? p = some v) (ho : X.heap[D]? = some o) (hn : o.isCells = false) : (X.putObj D o').cell? p = some v :=
  (World.cell?_of_block (World.putObj_heap_other (fun e => by
    obtain ⟨o2, h2, hc2⟩ := cells_of_cell hc
    rw [e, ho] at h2; cases h2; rw [hn] at hc2; cases hc2))).trans hc
theorem Boxed.put {X : World} {D b : Nat} {o o' : Obj} {t : TypeId} {v : Value} (hc : Boxed X b t v) (ho : X.heap[D]? = some o) (hn : o.isCells = false) : Boxed (X.putObj D o') b t v :=
  (World.putObj_heap_other (fun e => by
    subst e; rw [show X.heap[b]? = _ from hc] at ho; cases ho; cases hn)).trans hc
theorem cell_out {C W : World} {l : Nat} (hW : C.grownBy W (some l)) {p : Addr} {v : Value} (hc : C.cell? p = some v) (hp : p.block ≠ l) : W.cell? p = some v :=
  (World.cell?_of_block (hW.block p.block (World.block_lt_of_cell? _ _ hc) (fun e => hp (by injection e)))).trans hc
theorem cell_as {A C : World} {p : Addr} {v : Value} (hc : A.cell? p = some v) (h : C.heap[p.block]? = A.heap[p.block]?) : C.cell? p = some v := (World.cell?_of_block h).trans hc
theorem cell_new (A : World) (cs : Array Value) (t : TypeId) (j : Nat) {v : Value} (h : cs[j]? = some v) : (A.alloc (.cells cs t)).cell? ⟨A.heap.size, j, none⟩ = some v := by
  rw [cell_of_row _ _ _ _ t (0, 0) (heap_alloc_new A _)]; exact h
theorem cell_old {A : World} {o : Obj} {p : Addr} {v : Value} (h : A.cell? p = some v) : (A.alloc o).cell? p = some v := by
  rw [World.cell?_alloc_lt _ _ _ (World.block_lt_of_cell? _ _ h)]; exact h
theorem cell_new1 (A : World) (o : Obj) (cs : Array Value) (t : TypeId) (j : Nat) {v : Value} (h : cs[j]? = some v) : ((A.alloc o).alloc (.cells cs t)).cell? ⟨A.heap.size + 1, j, none⟩ = some v := by
  have := cell_new (A.alloc o) cs t j h
  rwa [World.size_alloc] at this
theorem cell_new2 (A : World) (o o2 : Obj) (cs : Array Value) (t : TypeId) (j : Nat) {v : Value} (h : cs[j]? = some v) : (((A.alloc o).alloc o2).alloc (.cells cs t)).cell? ⟨A.heap.size + 1 + 1, j, none⟩ = some v := by
  have := cell_new1 (A.alloc o) o2 cs t j h
  rwa [World.size_alloc] at this
theorem boxed_as {A C : World} {b : Nat} {t : TypeId} {v : Value} (hc : Boxed A b t v) (h : C.heap[b]? = A.heap[b]?) : Boxed C b t v := h.trans hc
theorem boxed_below {w w' : World} {b : Nat} {t : TypeId} {v : Value} (h : Boxed w b t v) (hb : Below w.heap.size w w') : Boxed w' b t v := (hb.block b h.lt).trans h
/-- From the world of a yield to that of the round's body. -/
theorem turn_round {B l : Nat} {R : Nat → Prop} {C C' W : World} (hb : Below C.heap.size C C') (hW : C'.grownBy W (some l)) (hl : ∃ r, C.heap[l]? = some (.loop r)) (hB : B ≤ l) : Turn B R C W :=
  ⟨hW.os.trans hb.os, hW.tape.trans hb.tape, hW.output.trans hb.output, Nat.le_trans hb.size hW.size, fun k hk => by
    by_cases e : k = l
    · subst e; obtain ⟨r, hr⟩ := hl; exact .inr ⟨hB, .inr ⟨_, hr, rfl⟩⟩
    · exact .inl ((hW.block k (Nat.lt_of_lt_of_le hk hb.size) (fun h => e (by injection h))).trans (hb.block k hk))⟩
theorem heap_round {l k : Nat} {C C' W : World} (hb : Below C.heap.size C C') (hW : C'.grownBy W (some l)) (hk : k < C.heap.size) (e : k ≠ l) : W.heap[k]? = C.heap[k]? :=
  (hW.block k (Nat.lt_of_lt_of_le hk hb.size) (fun h => e (by injection h))).trans (hb.block k hk)
end Go.Proofs.Ytbcnilkenkmabaa.tr
