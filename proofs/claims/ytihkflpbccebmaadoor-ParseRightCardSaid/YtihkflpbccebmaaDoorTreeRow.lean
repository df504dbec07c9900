/- Rows of trees of the call's own: append. -/
import Derived.Test.YtihkflpbccebmaaDoorTree
namespace Go.Proofs.YtihkflpbccebmaaDoor.tr
open Go.ChangeShapes Go.WideShapes Go.ChangeAt Go.RowKit Go.Proofs.YtihkflpbccebmaaDoor.mem
set_option linter.unusedVariables false

/-- The blocks that a reading passes through are there. -/
theorem RdQ.old {Q : Nat → Prop} {w : World} : ∀ {T : Tr} {v : Value}, RdQ Q w T v → RdQ (fun b => Q b ∧ b < w.heap.size) w T v := by
  intro T
  induction T using Tr.ind with
  | h k f a s ns ks ih =>
    intro v h
    rw [rdQ_node] at h ⊢
    obtain ⟨A, n, c, B, m, d, h0, h1, h2, h3, h4, h5, h6, h7, h8, h9, h10, h11, h12, h13, h15, h14⟩ := h
    have hq : ∀ ad, A = some ad → 0 < n → Q ad.block ∧ ad.block < w.heap.size := fun ad e hn => ⟨h15 ad e hn, by
      obtain ⟨ad', e', hl, _⟩ := h5.2 0 hn
      rw [e] at e'; injection e' with e'; rw [e']; exact hl⟩
    refine ⟨A, n, c, B, m, d, h0, h1, h2, h3, h4, h5, h6, h7, h8, h9, h10, h11, h12, h13, hq, ?_⟩
    clear h0 h1 h2 h3 h4 h5 h6 h7 h8 h9 h10 h11 h12 h13 h15 hq
    generalize 0 = i at h14 ⊢
    induction ks generalizing i with
    | nil => exact rdQL_nil
    | cons T r ihr =>
      rw [rdQL_cons] at h14 ⊢
      obtain ⟨⟨ad, c0, c1, c2, c3, c4, c5, e, hQ, hl, q0, q1, q2, q3, q4, q5, hT⟩, hr⟩ := h14
      exact ⟨⟨ad, c0, c1, c2, c3, c4, c5, e, ⟨hQ, hl⟩, hl, q0, q1, q2, q3, q4, q5, ih T (by simp) hT⟩, ihr (fun U hU => ih U (by simp [hU])) _ hr⟩

structure S6 where
  (c0 c1 c2 c3 c4 c5 : Value)
def S6.agg (u : S6) : Value := .agg #[u.c0, u.c1, u.c2, u.c3, u.c4, u.c5]
def S6.cs (u : S6) : List Value := [u.c0, u.c1, u.c2, u.c3, u.c4, u.c5]
def flat6 : List S6 → List Value
  | [] => []
  | u :: r => u.cs ++ flat6 r
theorem flat6_len : ∀ (us : List S6), (flat6 us).length = us.length * 6
  | [] => rfl
  | u :: r => by simp only [flat6, S6.cs, List.length_append, List.length_cons, List.length_nil, flat6_len r]; omega
theorem flat6_append : ∀ (us vs : List S6), flat6 (us ++ vs) = flat6 us ++ flat6 vs
  | [], _ => rfl
  | u :: r, vs => by simp [flat6, flat6_append r vs]
theorem flat6_at : ∀ {us : List S6} {k j : Nat} {u : S6}, us[k]? = some u → j < 6 → (flat6 us)[k * 6 + j]? = u.cs[j]?
  | [], k, j, u, h, _ => by simp at h
  | x :: r, 0, j, u, h, hj => by
    simp at h; subst h
    simp only [flat6]
    rw [List.getElem?_append_left (by simp [S6.cs]; omega)]
    simp
  | x :: r, k + 1, j, u, h, hj => by
    have ih := flat6_at (us := r) (k := k) (j := j) (by simpa using h) hj
    simp only [flat6]
    rw [List.getElem?_append_right (by simp [S6.cs]; omega), ← ih]
    congr 1
    simp [S6.cs]; omega
/-- A tree's six cells are one cell each. -/
theorem RdQ.one {Q : Nat → Prop} {w : World} {T : Tr} {u : S6} (h : RdQ Q w T u.agg) : ∀ x ∈ u.cs, x.oneCell' = true := by
  obtain ⟨k, f, a, s, ns, ks⟩ := T
  obtain ⟨A, n, c, B, m, d, h0, _⟩ := rdQ_node.1 h
  simp [S6.agg] at h0
  obtain ⟨e0, e1, e2, e3, e4, e5⟩ := h0
  intro x hx
  simp [S6.cs, e0, e1, e2, e3, e4, e5] at hx
  rcases hx with rfl | rfl | rfl | rfl | rfl | rfl <;> rfl
theorem one_flat {Q : Nat → Prop} {w : World} : ∀ {us : List S6} {L : List Tr}, us.length = L.length → (∀ (k : Nat) u T, us[k]? = some u → L[k]? = some T → RdQ Q w T u.agg) → ∀ x ∈ flat6 us, x.oneCell' = true
  | [], _, _, _, x, hx => by simp [flat6] at hx
  | u :: r, [], hl, _, _, _ => by simp at hl
  | u :: r, T :: L, hl, h, x, hx => by
    simp only [flat6, List.mem_append] at hx
    rcases hx with hx | hx
    · exact (h 0 u T rfl rfl).one x hx
    · exact one_flat (us := r) (L := L) (by simpa using hl) (fun k u' T' h1 h2 => h (k + 1) u' T' (by simpa using h1) (by simpa using h2)) x hx

/-- What lies at an address, element by element. -/
theorem RdQL.elems {Q : Nat → Prop} {w : World} {ad : Addr} : ∀ {L : List Tr} {i : Nat}, RdQL Q w L (some ad) i → ∃ us : List S6, us.length = L.length ∧ (∀ j u, (flat6 us)[j]? = some u → w.cell? (ad.add (i * 6 + j)) = some u) ∧ ∀ (k : Nat) u T, us[k]? = some u → L[k]? = some T → RdQ Q w T u.agg
  | [], i, _ => ⟨[], rfl, fun j u h => by simp [flat6] at h, fun k u T h => by simp at h⟩
  | T :: r, i, h => by
    rw [rdQL_cons] at h
    obtain ⟨⟨ad', c0, c1, c2, c3, c4, c5, e, hQ, hl, q0, q1, q2, q3, q4, q5, hT⟩, hr⟩ := h
    injection e with e
    subst e
    obtain ⟨us, g0, g1, g2⟩ := RdQL.elems hr
    refine ⟨⟨c0, c1, c2, c3, c4, c5⟩ :: us, by simp [g0], fun j u hj => ?_, fun k u U h1 h2 => ?_⟩
    · simp only [flat6] at hj
      rcases Nat.lt_or_ge j 6 with h6 | h6
      · rw [List.getElem?_append_left (by simpa [S6.cs] using h6)] at hj
        match j, h6, hj with
        | 0, _, hj => simp [S6.cs] at hj; subst hj; exact q0
        | 1, _, hj => simp [S6.cs] at hj; subst hj; exact q1
        | 2, _, hj => simp [S6.cs] at hj; subst hj; exact q2
        | 3, _, hj => simp [S6.cs] at hj; subst hj; exact q3
        | 4, _, hj => simp [S6.cs] at hj; subst hj; exact q4
        | 5, _, hj => simp [S6.cs] at hj; subst hj; exact q5
      · rw [List.getElem?_append_right (by simpa [S6.cs] using h6)] at hj
        have := g1 _ u hj
        simp only [S6.cs, List.length_cons, List.length_nil] at this
        rwa [show (i + 1) * 6 + (j - 6) = i * 6 + j by omega] at this
    · cases k with
      | zero => simp at h1 h2; subst h1 h2; exact hT
      | succ k => exact g2 k u U (by simpa using h1) (by simpa using h2)
theorem RdQL.none_ {Q : Nat → Prop} {w : World} {L : List Tr} {i : Nat} (h : RdQL Q w L none i) : L = [] := by
  cases L with
  | nil => rfl
  | cons T r => rw [rdQL_cons] at h; obtain ⟨⟨ad, _, _, _, _, _, _, e, _⟩, _⟩ := h; cases e

/-- A row of trees of the call's own (from block B on); the trees in it lie apart from the row. -/
def OwnR (w : World) (B : Nat) (v : Value) (L : List Tr) : Prop :=
  ∃ us : List S6, us.length = L.length ∧ w.ownsRow B 26 6 v L.length (flat6 us) ∧ ∀ (k : Nat) u T, us[k]? = some u → L[k]? = some T → RdQ (fun b => some b ≠ v.ownBlock) w T u.agg
theorem ownR_nil (w : World) (B : Nat) : OwnR w B (.slice none 0 0) [] := ⟨[], rfl, World.ownsRow_nil w B _ 6, fun k u p h => by simp at h⟩
theorem OwnR.form {w : World} {B : Nat} {v : Value} {L : List Tr} (h : OwnR w B v L) : ∃ A c, v = .slice A L.length c ∧ L.length ≤ c ∧ c ≤ maxLen ∧ (A = none → c = 0) := by
  obtain ⟨us, _, h, _⟩ := h
  rcases h.2 with ⟨rfl, h0⟩ | ⟨g, cap, cur, rfl, _, _, hc, hm, _⟩
  · exact ⟨none, 0, by rw [h0], by omega, by unfold maxLen; omega, fun _ => rfl⟩
  · exact ⟨_, _, rfl, hc, hm, fun h => by cases h⟩
theorem OwnR.below {w w' : World} {B : Nat} {v : Value} {L : List Tr} (h : OwnR w B v L) (hb : Below w.heap.size w w') : OwnR w' B v L := by
  obtain ⟨us, h0, h1, h2⟩ := h
  exact ⟨us, h0, World.ownsRow.kept (row := none) h1 ⟨hb.os, hb.tape, hb.output, hb.size, fun k hk _ => hb.block k hk⟩ (by cases hv : v.ownBlock <;> simp), fun k u p a b => (h2 k u p a b).below hb⟩

theorem tree_info : (Tryd.prog.info? 26).map (fun i => (i.zero, i.size, i.bytes)) = some (some (.agg #[.int .i64 0, .int .i64 0, .int .i64 0, .string ⟨#[]⟩, .slice none 0 0, .slice none 0 0]), 6, 88) := by kernel_rfl
theorem run_appendR (w : World) (ty : TypeId) (B : Nat) (v : Value) (L : List Tr) (hown : OwnR w B v L) (A : Option Addr) (m c : Nat) (L2 : List Tr) (hl : L2.length = m) (hr : RdQL (fun b => some b ≠ v.ownBlock) w L2 A 0)
    (hc : A = none → c = 0) (h40 : L.length + m ≤ 1000000000000) (hB : B ≤ w.heap.size) :
    ∃ v' w', (Builtin.append_ #[24, 24] ty #[v, .slice A m c]).run Tryd.prog w = .ok v' w' ∧ OwnR w' B v' (L ++ L2) ∧ w.grownBy w' v.ownBlock ∧ (v'.ownBlock = v.ownBlock ∨ v'.ownBlock = some w.heap.size) := by
  obtain ⟨i0, hi0, hz0, hz1, hz2⟩ := info_parts tree_info
  obtain ⟨us, g0, g1, g2⟩ := hown
  cases A with
  | none =>
    obtain rfl := hr.none_
    obtain rfl := hc rfl
    subst hl
    exact ⟨v, w, run_append_owned_none (P := Tryd.prog) (w := w) B 24 ty 26 i0 6 Tryd.underlying24 hi0 v _ _ g1, by rw [List.append_nil]; exact ⟨us, g0, g1, g2⟩, World.grownBy.refl w _, .inl rfl⟩
  | some ad =>
    obtain ⟨vs, f0, f1, f2⟩ := hr.elems
    obtain ⟨v', w', hrun, h2, h3, _, h5⟩ := run_append_own_at (P := Tryd.prog) w B 24 ty 26 i0 _ 6 88 Tryd.underlying24 hi0 hz0 hz1 hz2 rfl (by omega) v _ _ g1 ad m c (flat6 vs) (by rw [flat6_len, f0, hl])
      (fun j u hu => by have := f1 j u hu; simpa using this) (one_flat f0 f2) (by unfold maxLen; omega) (by omega) hB
    have hkeep : ∀ a : Addr, (some a.block ≠ v.ownBlock ∧ a.block < w.heap.size) → a.block < w.heap.size → w'.cell? a = w.cell? a := fun a hq hlt => World.cell?_of_block (h3.block _ hlt hq.1)
    have hq : ∀ b, (some b ≠ v.ownBlock ∧ b < w.heap.size) → some b ≠ v'.ownBlock := fun b hb => by
      rcases h5 with e | e
      · rw [e]; exact hb.1
      · rw [e]; intro h; injection h with h; omega
    refine ⟨v', w', hrun, ⟨us ++ vs, by simp [g0, f0], ?_, fun k u T hu hT => ?_⟩, h3, h5⟩
    · rw [List.length_append, flat6_append, hl]; exact h2
    · rcases Nat.lt_or_ge k us.length with hk | hk
      · rw [List.getElem?_append_left hk] at hu
        rw [List.getElem?_append_left (by omega)] at hT
        exact (g2 k u T hu hT).old.keep h3.size hkeep hq
      · rw [List.getElem?_append_right hk] at hu
        rw [List.getElem?_append_right (by omega), ← g0] at hT
        exact (f2 _ u T hu hT).old.keep h3.size hkeep hq
end Go.Proofs.YtihkflpbccebmaaDoor.tr
