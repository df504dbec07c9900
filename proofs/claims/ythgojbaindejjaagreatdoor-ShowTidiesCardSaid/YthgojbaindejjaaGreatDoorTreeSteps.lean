/- Rows of trees of the call's own: append. Rows of trees that are read through blocks of Q; the reference of package tree: Steps. -/
import Derived.Test.YthgojbaindejjaaGreatDoorTree
import Derived.Test.YthgojbaindejjaaGreatDoorTreeRef
/- Rows of trees of the call's own: append. -/
namespace Go.Proofs.YthgojbaindejjaaGreatDoor.tr
open Go.ChangeShapes Go.WideShapes Go.ChangeAt Go.RowKit Go.Proofs.YthgojbaindejjaaGreatDoor.mem
set_option linter.unusedVariables false

/-- The blocks that a reading passes through are there. -/
theorem RdQ.old {Q : Nat → Prop} {w : World} : ∀ {T : Tr} {v : Value}, RdQ Q w T v → RdQ (fun b => Q b ∧ b < w.heap.size) w T v := by
  intro T
  induction T using Tr.ind with
  | h k f a s ns ks ih =>
    intro v h
    rw [rdQ_node] at h ⊢
    obtain ⟨A, n, c, B, m, d, h0, h1, h2, h3, h4, h5, h6, h7, h8, h9, h10, h11, h12, h13, h15, h14⟩ := h
    have hq : ∀ ad, A = some ad → 0 < n → Q ad.block ∧ ad.block < w.heap.size := fun ad e hn => ⟨h15 ad e hn, by
      obtain ⟨ad', e', hl, _⟩ := h5.2 0 hn
      rw [e] at e'; injection e' with e'; rw [e']; exact hl⟩
    refine ⟨A, n, c, B, m, d, h0, h1, h2, h3, h4, h5, h6, h7, h8, h9, h10, h11, h12, h13, hq, ?_⟩
    clear h0 h1 h2 h3 h4 h5 h6 h7 h8 h9 h10 h11 h12 h13 h15 hq
    generalize 0 = i at h14 ⊢
    induction ks generalizing i with
    | nil => exact rdQL_nil
    | cons T r ihr =>
      rw [rdQL_cons] at h14 ⊢
      obtain ⟨⟨ad, c0, c1, c2, c3, c4, c5, e, hQ, hl, q0, q1, q2, q3, q4, q5, hT⟩, hr⟩ := h14
      exact ⟨⟨ad, c0, c1, c2, c3, c4, c5, e, ⟨hQ, hl⟩, hl, q0, q1, q2, q3, q4, q5, ih T (by simp) hT⟩, ihr (fun U hU => ih U (by simp [hU])) _ hr⟩

structure S6 where
  (c0 c1 c2 c3 c4 c5 : Value)
def S6.agg (u : S6) : Value := .agg #[u.c0, u.c1, u.c2, u.c3, u.c4, u.c5]
def S6.cs (u : S6) : List Value := [u.c0, u.c1, u.c2, u.c3, u.c4, u.c5]
def flat6 : List S6 → List Value
  | [] => []
  | u :: r => u.cs ++ flat6 r
theorem flat6_len : ∀ (us : List S6), (flat6 us).length = us.length * 6
  | [] => rfl
  | u :: r => by simp only [flat6, S6.cs, List.length_append, List.length_cons, List.length_nil, flat6_len r]; omega
theorem flat6_append : ∀ (us vs : List S6), flat6 (us ++ vs) = flat6 us ++ flat6 vs
  | [], _ => rfl
  | u :: r, vs => by simp [flat6, flat6_append r vs]
theorem flat6_at : ∀ {us : List S6} {k j : Nat} {u : S6}, us[k]? = some u → j < 6 → (flat6 us)[k * 6 + j]? = u.cs[j]?
  | [], k, j, u, h, _ => by simp at h
  | x :: r, 0, j, u, h, hj => by
    simp at h; subst h
    simp only [flat6]
    rw [List.getElem?_append_left (by simp [S6.cs]; omega)]
    simp
  | x :: r, k + 1, j, u, h, hj => by
    have ih := flat6_at (us := r) (k := k) (j := j) (by simpa using h) hj
    simp only [flat6]
    rw [List.getElem?_append_right (by simp [S6.cs]; omega), ← ih]
    congr 1
    simp [S6.cs]; omega
/-- A tree's six cells are one cell each. -/
theorem RdQ.one {Q : Nat → Prop} {w : World} {T : Tr} {u : S6} (h : RdQ Q w T u.agg) : ∀ x ∈ u.cs, x.oneCell' = true := by
  obtain ⟨k, f, a, s, ns, ks⟩ := T
  obtain ⟨A, n, c, B, m, d, h0, _⟩ := rdQ_node.1 h
  simp [S6.agg] at h0
  obtain ⟨e0, e1, e2, e3, e4, e5⟩ := h0
  intro x hx
  simp [S6.cs, e0, e1, e2, e3, e4, e5] at hx
  rcases hx with rfl | rfl | rfl | rfl | rfl | rfl <;> rfl
theorem one_flat {Q : Nat → Prop} {w : World} : ∀ {us : List S6} {L : List Tr}, us.length = L.length → (∀ (k : Nat) u T, us[k]? = some u → L[k]? = some T → RdQ Q w T u.agg) → ∀ x ∈ flat6 us, x.oneCell' = true
  | [], _, _, _, x, hx => by simp [flat6] at hx
  | u :: r, [], hl, _, _, _ => by simp at hl
  | u :: r, T :: L, hl, h, x, hx => by
    simp only [flat6, List.mem_append] at hx
    rcases hx with hx | hx
    · exact (h 0 u T rfl rfl).one x hx
    · exact one_flat (us := r) (L := L) (by simpa using hl) (fun k u' T' h1 h2 => h (k + 1) u' T' (by simpa using h1) (by simpa using h2)) x hx

/-- What lies at an address, element by element. -/
theorem RdQL.elems {Q : Nat → Prop} {w : World} {ad : Addr} : ∀ {L : List Tr} {i : Nat}, RdQL Q w L (some ad) i → ∃ us : List S6, us.length = L.length ∧ (∀ j u, (flat6 us)[j]? = some u → w.cell? (ad.add (i * 6 + j)) = some u) ∧ ∀ (k : Nat) u T, us[k]? = some u → L[k]? = some T → RdQ Q w T u.agg
  | [], i, _ => ⟨[], rfl, fun j u h => by simp [flat6] at h, fun k u T h => by simp at h⟩
  | T :: r, i, h => by
    rw [rdQL_cons] at h
    obtain ⟨⟨ad', c0, c1, c2, c3, c4, c5, e, hQ, hl, q0, q1, q2, q3, q4, q5, hT⟩, hr⟩ := h
    injection e with e
    subst e
    obtain ⟨us, g0, g1, g2⟩ := RdQL.elems hr
    refine ⟨⟨c0, c1, c2, c3, c4, c5⟩ :: us, by simp [g0], fun j u hj => ?_, fun k u U h1 h2 => ?_⟩
    · simp only [flat6] at hj
      rcases Nat.lt_or_ge j 6 with h6 | h6
      · rw [List.getElem?_append_left (by simpa [S6.cs] using h6)] at hj
        match j, h6, hj with
        | 0, _, hj => simp [S6.cs] at hj; subst hj; exact q0
        | 1, _, hj => simp [S6.cs] at hj; subst hj; exact q1
        | 2, _, hj => simp [S6.cs] at hj; subst hj; exact q2
        | 3, _, hj => simp [S6.cs] at hj; subst hj; exact q3
        | 4, _, hj => simp [S6.cs] at hj; subst hj; exact q4
        | 5, _, hj => simp [S6.cs] at hj; subst hj; exact q5
      · rw [List.getElem?_append_right (by simpa [S6.cs] using h6)] at hj
        have := g1 _ u hj
        simp only [S6.cs, List.length_cons, List.length_nil] at this
        rwa [show (i + 1) * 6 + (j - 6) = i * 6 + j by omega] at this
    · cases k with
      | zero => simp at h1 h2; subst h1 h2; exact hT
      | succ k => exact g2 k u U (by simpa using h1) (by simpa using h2)
theorem RdQL.none_ {Q : Nat → Prop} {w : World} {L : List Tr} {i : Nat} (h : RdQL Q w L none i) : L = [] := by
  cases L with
  | nil => rfl
  | cons T r => rw [rdQL_cons] at h; obtain ⟨⟨ad, _, _, _, _, _, _, e, _⟩, _⟩ := h; cases e

/-- A row of trees of the call's own (from block B on); the trees in it lie apart from the row. -/
def OwnR (w : World) (B : Nat) (v : Value) (L : List Tr) : Prop :=
  ∃ us : List S6, us.length = L.length ∧ w.ownsRow B 25 6 v L.length (flat6 us) ∧ ∀ (k : Nat) u T, us[k]? = some u → L[k]? = some T → RdQ (fun b => some b ≠ v.ownBlock) w T u.agg
theorem ownR_nil (w : World) (B : Nat) : OwnR w B (.slice none 0 0) [] := ⟨[], rfl, World.ownsRow_nil w B _ 6, fun k u p h => by simp at h⟩
theorem OwnR.form {w : World} {B : Nat} {v : Value} {L : List Tr} (h : OwnR w B v L) : ∃ A c, v = .slice A L.length c ∧ L.length ≤ c ∧ c ≤ maxLen ∧ (A = none → c = 0) := by
  obtain ⟨us, _, h, _⟩ := h
  rcases h.2 with ⟨rfl, h0⟩ | ⟨g, cap, cur, rfl, _, _, hc, hm, _⟩
  · exact ⟨none, 0, by rw [h0], by omega, by unfold maxLen; omega, fun _ => rfl⟩
  · exact ⟨_, _, rfl, hc, hm, fun h => by cases h⟩
theorem OwnR.below {w w' : World} {B : Nat} {v : Value} {L : List Tr} (h : OwnR w B v L) (hb : Below w.heap.size w w') : OwnR w' B v L := by
  obtain ⟨us, h0, h1, h2⟩ := h
  exact ⟨us, h0, World.ownsRow.kept (row := none) h1 ⟨hb.os, hb.tape, hb.output, hb.size, fun k hk _ => hb.block k hk⟩ (by cases hv : v.ownBlock <;> simp), fun k u p a b => (h2 k u p a b).below hb⟩

theorem tree_info : (Tryz.prog.info? 25).map (fun i => (i.zero, i.size, i.bytes)) = some (some (.agg #[.int .i64 0, .int .i64 0, .int .i64 0, .string ⟨#[]⟩, .slice none 0 0, .slice none 0 0]), 6, 88) := by kernel_rfl
theorem run_appendR (w : World) (ty : TypeId) (B : Nat) (v : Value) (L : List Tr) (hown : OwnR w B v L) (A : Option Addr) (m c : Nat) (L2 : List Tr) (hl : L2.length = m) (hr : RdQL (fun b => some b ≠ v.ownBlock) w L2 A 0)
    (hc : A = none → c = 0) (h40 : L.length + m ≤ 1000000000000) (hB : B ≤ w.heap.size) :
    ∃ v' w', (Builtin.append_ #[23, 23] ty #[v, .slice A m c]).run Tryz.prog w = .ok v' w' ∧ OwnR w' B v' (L ++ L2) ∧ w.grownBy w' v.ownBlock ∧ (v'.ownBlock = v.ownBlock ∨ v'.ownBlock = some w.heap.size) := by
  obtain ⟨i0, hi0, hz0, hz1, hz2⟩ := info_parts tree_info
  obtain ⟨us, g0, g1, g2⟩ := hown
  cases A with
  | none =>
    obtain rfl := hr.none_
    obtain rfl := hc rfl
    subst hl
    exact ⟨v, w, run_append_owned_none (P := Tryz.prog) (w := w) B 23 ty 25 i0 6 Tryz.underlying23 hi0 v _ _ g1, by rw [List.append_nil]; exact ⟨us, g0, g1, g2⟩, World.grownBy.refl w _, .inl rfl⟩
  | some ad =>
    obtain ⟨vs, f0, f1, f2⟩ := hr.elems
    obtain ⟨v', w', hrun, h2, h3, _, h5⟩ := run_append_own_at (P := Tryz.prog) w B 23 ty 25 i0 _ 6 88 Tryz.underlying23 hi0 hz0 hz1 hz2 rfl (by omega) v _ _ g1 ad m c (flat6 vs) (by rw [flat6_len, f0, hl])
      (fun j u hu => by have := f1 j u hu; simpa using this) (one_flat f0 f2) (by unfold maxLen; omega) (by omega) hB
    have hkeep : ∀ a : Addr, (some a.block ≠ v.ownBlock ∧ a.block < w.heap.size) → a.block < w.heap.size → w'.cell? a = w.cell? a := fun a hq hlt => World.cell?_of_block (h3.block _ hlt hq.1)
    have hq : ∀ b, (some b ≠ v.ownBlock ∧ b < w.heap.size) → some b ≠ v'.ownBlock := fun b hb => by
      rcases h5 with e | e
      · rw [e]; exact hb.1
      · rw [e]; intro h; injection h with h; omega
    refine ⟨v', w', hrun, ⟨us ++ vs, by simp [g0, f0], ?_, fun k u T hu hT => ?_⟩, h3, h5⟩
    · rw [List.length_append, flat6_append, hl]; exact h2
    · rcases Nat.lt_or_ge k us.length with hk | hk
      · rw [List.getElem?_append_left hk] at hu
        rw [List.getElem?_append_left (by omega)] at hT
        exact (g2 k u T hu hT).old.keep h3.size hkeep hq
      · rw [List.getElem?_append_right hk] at hu
        rw [List.getElem?_append_right (by omega), ← g0] at hT
        exact (f2 _ u T hu hT).old.keep h3.size hkeep hq
end Go.Proofs.YthgojbaindejjaaGreatDoor.tr

/- Rows of trees that are read through blocks of Q; the reference of package tree: Steps. -/
namespace Go.Proofs.YthgojbaindejjaaGreatDoor.tr
open Go.ChangeShapes Go.WideShapes Go.ChangeAt Go.RowKit Go.Proofs.YthgojbaindejjaaGreatDoor.mem
set_option linter.unusedVariables false

mutual
/-- The nodes in the order of evaluation. -/
def stepsT : Tr → List Tr | .node k f a s ns ks => stepsL ks ++ [.node k f a s ns ks]
def stepsL : List Tr → List Tr | [] => [] | T :: r => stepsL r ++ stepsT T
end
theorem steps_node (k f a s ns ks) : stepsT (.node k f a s ns ks) = stepsL ks ++ [.node k f a s ns ks] := by simp only [stepsT]
theorem stepsL_cons (T r) : stepsL (T :: r) = stepsL r ++ stepsT T := by simp only [stepsL]
theorem stepsL_step {l : List Tr} {k : Nat} {T : Tr} (h : l[k]? = some T) : stepsL (l.drop k) = stepsL (l.drop (k + 1)) ++ stepsT T := by rw [cut_at h, stepsL_cons]
theorem stepsL_end {l : List Tr} {k : Nat} (h : l.length ≤ k) : stepsL (l.drop k) = [] := by rw [List.drop_eq_nil_of_le h]; simp only [stepsL]
theorem steps_len (T : Tr) : (stepsT T).length = sizeT T := by
  induction T using Tr.ind with
  | h k f a s ns ks ih =>
    rw [steps_node, size_node, List.length_append]
    have : (stepsL ks).length = sizeL ks := by
      clear k f a s ns
      induction ks with
      | nil => simp only [stepsL, sizeL]; rfl
      | cons T r ihr =>
        rw [stepsL_cons, sizeL_cons, List.length_append, ih T (by simp), ihr fun U hU => ih U (by simp [hU])]
        omega
    simp [this]
theorem stepsL_len (l : List Tr) : (stepsL l).length = sizeL l := by
  induction l with
  | nil => simp only [stepsL, sizeL]; rfl
  | cons T r ih => rw [stepsL_cons, sizeL_cons, List.length_append, steps_len, ih]; omega
theorem sizeL_drop (l : List Tr) (k : Nat) : sizeL (l.drop k) ≤ sizeL l := by
  induction l generalizing k with
  | nil => simp
  | cons T r ih =>
    cases k with
    | zero => simp
    | succ k => rw [List.drop_succ_cons, sizeL_cons]; have := ih k; omega

/-- The slice reads as the trees, each through blocks of Q. -/
def RowQ (Q : Nat → Prop) (w : World) (A : Option Addr) (L : List Tr) : Prop :=
  ∃ us : List S6, us.length = L.length ∧ (∀ j u, (flat6 us)[j]? = some u → ∃ ad, A = some ad ∧ ad.block < w.heap.size ∧ w.cell? (ad.add j) = some u) ∧ ∀ (k : Nat) u T, us[k]? = some u → L[k]? = some T → RdQ Q w T u.agg
/-- A row of the call's own. -/
def OwnQ (Q : Nat → Prop) (w : World) (B : Nat) (v : Value) (L : List Tr) : Prop :=
  ∃ us : List S6, us.length = L.length ∧ w.ownsRow B 25 6 v L.length (flat6 us) ∧ ∀ (k : Nat) u T, us[k]? = some u → L[k]? = some T → RdQ Q w T u.agg
theorem ownQ_nil (Q : Nat → Prop) (w : World) (B : Nat) : OwnQ Q w B (.slice none 0 0) [] := ⟨[], rfl, World.ownsRow_nil w B _ 6, fun k u p h => by simp at h⟩
theorem OwnQ.form {Q : Nat → Prop} {w : World} {B : Nat} {v : Value} {L : List Tr} (h : OwnQ Q w B v L) : ∃ A c, v = .slice A L.length c ∧ L.length ≤ c ∧ c ≤ maxLen ∧ (A = none → c = 0) := by
  obtain ⟨us, _, h, _⟩ := h
  rcases h.2 with ⟨rfl, h0⟩ | ⟨g, cap, cur, rfl, _, _, hc, hm, _⟩
  · exact ⟨none, 0, by rw [h0], by omega, by unfold maxLen; omega, fun _ => rfl⟩
  · exact ⟨_, _, rfl, hc, hm, fun h => by cases h⟩
theorem OwnQ.below {Q : Nat → Prop} {w w' : World} {B : Nat} {v : Value} {L : List Tr} (h : OwnQ Q w B v L) (hb : Below w.heap.size w w') : OwnQ Q w' B v L := by
  obtain ⟨us, h0, h1, h2⟩ := h
  exact ⟨us, h0, World.ownsRow.kept (row := none) h1 ⟨hb.os, hb.tape, hb.output, hb.size, fun k hk _ => hb.block k hk⟩ (by cases hv : v.ownBlock <;> simp), fun k u p a b => (h2 k u p a b).below hb⟩
theorem OwnQ.le {Q : Nat → Prop} {w : World} {B B' : Nat} {v : Value} {L : List Tr} (h : OwnQ Q w B v L) (hb : B' ≤ B) : OwnQ Q w B' v L := by
  obtain ⟨us, h0, h1, h2⟩ := h
  exact ⟨us, h0, Go.Joins.ownsRow_le h1 hb, h2⟩
theorem OwnQ.row {Q : Nat → Prop} {w : World} {B n c : Nat} {A : Option Addr} {L : List Tr} (h : OwnQ Q w B (.slice A n c) L) : RowQ Q w A L := by
  obtain ⟨us, h0, h1, h2⟩ := h
  refine ⟨us, h0, fun j u hj => ?_, h2⟩
  have hl : 0 < L.length := by
    rcases Nat.eq_zero_or_pos L.length with h | h
    · rw [h] at h0
      obtain rfl := List.eq_nil_of_length_eq_zero h0
      simp [flat6] at hj
    · exact h
  obtain ⟨g, cap, hv, _, hlt⟩ := World.ownsRow.form h1 hl
  have hA : A = some ⟨g, 0, none⟩ := by injection hv
  subst hA
  exact ⟨_, rfl, hlt, h1.cells (g := g) rfl _ _ hj⟩
theorem OwnQ.nil_ {Q : Nat → Prop} {w : World} {B n c : Nat} {A : Option Addr} {L : List Tr} (h : OwnQ Q w B (.slice A n c) L) : A = none → c = 0 := by
  obtain ⟨A', c', e, _, _, h2⟩ := h.form
  injection e with e1 e2 e3
  rw [e1, e3]; exact h2
theorem OwnQ.below_grown {Q : Nat → Prop} {B : Nat} {w wr w' : World} {v : Value} {L : List Tr} (hb : Below B w wr) (ho : OwnQ Q wr B v L) (hg : wr.grownBy w' v.ownBlock) (hB : B ≤ wr.heap.size) : Below B w w' := by
  obtain ⟨us, _, h1, _⟩ := ho
  exact hb.grown hg hB fun k hk => (World.ownsRow.lt h1 k hk).1

set_option maxRecDepth 20000 in
theorem run_appendQ {Q : Nat → Prop} (w : World) (ty : TypeId) (B : Nat) (hQ : ∀ b, Q b → b < B) (v : Value) (L : List Tr) (hown : OwnQ Q w B v L) (A : Option Addr) (m c : Nat) (L2 : List Tr) (hl : L2.length = m) (hr : RowQ Q w A L2)
    (hc : A = none → c = 0) (h40 : L.length + m ≤ 1000000000000) (hB : B ≤ w.heap.size) :
    ∃ v' w', (Builtin.append_ #[23, 23] ty #[v, .slice A m c]).run Tryz.prog w = .ok v' w' ∧ OwnQ Q w' B v' (L ++ L2) ∧ w.grownBy w' v.ownBlock ∧ (v'.ownBlock = v.ownBlock ∨ v'.ownBlock = some w.heap.size) := by
  obtain ⟨i0, hi0, hz0, hz1, hz2⟩ := info_parts tree_info
  obtain ⟨us, g0, g1, g2⟩ := hown
  obtain ⟨vs, f0, f1, f2⟩ := hr
  cases A with
  | none =>
    have hv : L2 = [] := by
      cases L2 with
      | nil => rfl
      | cons T r =>
        cases vs with
        | nil => simp at f0
        | cons u q => obtain ⟨ad, e, _⟩ := f1 0 u.c0 rfl; cases e
    subst hv
    obtain rfl := hc rfl
    subst hl
    exact ⟨v, w, run_append_owned_none (P := Tryz.prog) (w := w) B 23 ty 25 i0 6 Tryz.underlying23 hi0 v _ _ g1, by rw [List.append_nil]; exact ⟨us, g0, g1, g2⟩, World.grownBy.refl w _, .inl rfl⟩
  | some ad =>
    obtain ⟨v', w', hrun, h2, h3, _, h5⟩ := run_append_own_at (P := Tryz.prog) w B 23 ty 25 i0 _ 6 88 Tryz.underlying23 hi0 hz0 hz1 hz2 rfl (by omega) v _ _ g1 ad m c (flat6 vs) (by rw [flat6_len, f0, hl])
      (fun j u hu => by obtain ⟨ad', e, _, hx⟩ := f1 j u hu; injection e with e; rw [e]; exact hx) (one_flat f0 f2) (by unfold maxLen; omega) (by omega) hB
    have hkeep : ∀ a : Addr, Q a.block → a.block < w.heap.size → w'.cell? a = w.cell? a := fun a hq hlt => World.cell?_of_block (h3.block _ hlt (by
      intro e
      have h1 := (World.ownsRow.lt g1 a.block e.symm).1
      have h2 := hQ _ hq
      omega))
    refine ⟨v', w', hrun, ⟨us ++ vs, by simp [g0, f0], ?_, fun k u T hu hT => ?_⟩, h3, h5⟩
    · rw [List.length_append, flat6_append, hl]; exact h2
    · rcases Nat.lt_or_ge k us.length with hk | hk
      · rw [List.getElem?_append_left hk] at hu
        rw [List.getElem?_append_left (by omega)] at hT
        exact (g2 k u T hu hT).keep h3.size hkeep (fun _ h => h)
      · rw [List.getElem?_append_right hk] at hu
        rw [List.getElem?_append_right (by omega), ← g0] at hT
        exact (f2 _ u T hu hT).keep h3.size hkeep (fun _ h => h)
theorem wpList_appendQ {Q : Nat → Prop} {W w : World} {ops : Array Oper} {rest : List Oper} {o : Oper} {a : Act} {K : Exit → Act → World → Prop} (hgd : o.guard = none) (s x : Operand)
    (ho : o.op = .call { callee := .builtin .append, args := #[s, x], argTypes := #[23, 23] })
    (hQ : ∀ b, Q b → b < W.heap.size) (hb : Below W.heap.size W w) (v : Value) (L : List Tr) (hs : a.eval s = v) (hown : OwnQ Q w W.heap.size v L) (A : Option Addr) (m c : Nat) (L2 : List Tr) (hx : a.eval x = .slice A m c) (hl : L2.length = m) (hr : RowQ Q w A L2)
    (hc : A = none → c = 0) (h40 : L.length + m ≤ 1000000000000)
    (h : ∀ P c' w', OwnQ Q w' W.heap.size (.slice P (L ++ L2).length c') (L ++ L2) → Below W.heap.size W w' → wpList Tryz.prog ops K rest (a.put o.dst (.slice P (L ++ L2).length c')) w') : wpList Tryz.prog ops K (o :: rest) a w := by
  obtain ⟨v', w', hrun, h2, h3, h4⟩ := run_appendQ w o.type W.heap.size hQ v L hown A m c L2 hl hr hc h40 hb.size
  have hbel := OwnQ.below_grown hb hown h3 hb.size
  obtain ⟨P, c', rfl, _⟩ := h2.form
  refine wpList_plain hgd fun K hK => ?_
  unfold Oper.wp execOp
  simp only [ho, resolve, invoke, builtin, Sem.run_bind, Sem.run_pure, Result.andThen_ok, List.map_toArray, List.map_cons, List.map_nil, hs, hx, hrun]
  exact hK _ _ (h P c' w' h2 hbel)
/-- One tree in a block of its own, as append's compiler lays it. -/
theorem rowQ_one {Q : Nat → Prop} {W : World} {t : TypeId} {T : Tr} {u : S6} (h : RdQ Q W T u.agg) : RowQ Q (W.alloc (.cells #[u.c0, u.c1, u.c2, u.c3, u.c4, u.c5] t)) (some ⟨W.heap.size, 0, none⟩) [T] := by
  refine ⟨[u], rfl, fun j x hj => ⟨_, rfl, by simp, ?_⟩, fun k u' T' h1 h2 => ?_⟩
  · rw [add_at, cell_of_row _ _ _ _ t (0, 0) (heap_alloc_new W _)]
    simp [flat6, S6.cs] at hj
    simpa using hj
  · cases k with
    | zero => simp at h1 h2; subst h1 h2; exact h.below ((Below.refl _ _).alloc (Nat.le_refl _) _)
    | succ k => simp at h1

/-- A kid, as the walk loads it. -/
theorem RdQL.kid {Q : Nat → Prop} {w : World} {B : Option Addr} {l : List Tr} {k : Nat} {T : Tr} (h : RdQL Q w l B 0) (hk : l[k]? = some T) :
    ∃ ad c0 c1 c2 c3 c4 c5, B = some ad ∧ ad.block < w.heap.size ∧ w.cell? (ad.add (k * 6)) = some c0 ∧ w.cell? ⟨(ad.add (k * 6)).block, (ad.add (k * 6)).off + 1, none⟩ = some c1 ∧ w.cell? ⟨(ad.add (k * 6)).block, (ad.add (k * 6)).off + 2, none⟩ = some c2 ∧
      w.cell? ⟨(ad.add (k * 6)).block, (ad.add (k * 6)).off + 3, none⟩ = some c3 ∧ w.cell? ⟨(ad.add (k * 6)).block, (ad.add (k * 6)).off + 4, none⟩ = some c4 ∧ w.cell? ⟨(ad.add (k * 6)).block, (ad.add (k * 6)).off + 5, none⟩ = some c5 ∧ RdQ Q w T (.agg #[c0, c1, c2, c3, c4, c5]) := by
  cases B with
  | none => rw [h.none_] at hk; simp at hk
  | some ad =>
    obtain ⟨us, g0, g1, g2⟩ := h.elems
    obtain ⟨hl, _⟩ := List.getElem?_eq_some_iff.1 hk
    have hu : us[k]? = some us[k] := List.getElem?_eq_getElem (by omega)
    have hT := g2 k _ T hu hk
    have hat : ∀ j x, us[k].cs[j]? = some x → j < 6 → w.cell? (ad.add (k * 6 + j)) = some x := fun j x hx hj => by
      have := g1 (k * 6 + j) x ((flat6_at hu hj).trans hx)
      simpa using this
    have hlt : ad.block < w.heap.size := by
      have h0 : (l.drop 0)[k]? = some T := by simpa using hk
      clear hat hT hu
      have key : ∀ (l : List Tr) (i k : Nat), RdQL Q w l (some ad) i → l[k]? = some T → ad.block < w.heap.size := by
        intro l
        induction l with
        | nil => intro i k _ h; simp at h
        | cons U r ih =>
          intro i k h hk
          rw [rdQL_cons] at h
          obtain ⟨⟨ad', _, _, _, _, _, _, e, _, hl, _⟩, _⟩ := h
          injection e with e
          rw [e]; exact hl
      exact key l 0 k h hk
    exact ⟨ad, _, _, _, _, _, _, rfl, hlt, hat 0 _ rfl (by omega), six (hat 1 _ rfl (by omega)) (by omega), six (hat 2 _ rfl (by omega)) (by omega), six (hat 3 _ rfl (by omega)) (by omega), six (hat 4 _ rfl (by omega)) (by omega), six (hat 5 _ rfl (by omega)) (by omega), hT⟩

/-- What Steps answers: a row of its own. -/
def StepsTo (Q : Nat → Prop) (w : World) (L : List Tr) (e : Ending) (w' : World) : Prop := ∃ P c, e = .returned (.slice P L.length c) ∧ OwnQ Q w' w.heap.size (.slice P L.length c) L ∧ Below w.heap.size w w'
end Go.Proofs.YthgojbaindejjaaGreatDoor.tr
