/- Trees in memory: a value that reads as a tree; a tree that came in. -/
import Derived.Test.YthgojbaindejjaaGreatDoorTr
import Derived.Lib.SmallJoins
import Derived.Deep.Slices
namespace Go.Proofs.YthgojbaindejjaaGreatDoor.tr
open Go.ChangeShapes Go.WideShapes Go.ChangeAt Go.RowKit Go.Proofs.YthgojbaindejjaaGreatDoor.mem
set_option linter.unusedVariables false

def In64 (x : Int) : Prop := (Lit.int .i64 x).wf = true
mutual
/-- The value reads as the tree, and every block that the reading passes through is one of Q. -/
def RdQ (Q : Nat → Prop) (w : World) : Tr → Value → Prop
  | .node k f a s ns ks, v => ∃ A n c B m d, v = .agg #[.int .i64 k, .int .i64 f, .int .i64 a, .string s, .slice A n c, .slice B m d] ∧ In64 k ∧ In64 f ∧ In64 a ∧ s.size ≤ reachBytes ∧
      Rd w A n ns ∧ n ≤ c ∧ n ≤ 17592186044416 ∧ (A = none → c = 0) ∧ (∀ x ∈ ns, In64 x) ∧ ks.length = m ∧ m ≤ d ∧ m ≤ 17592186044416 ∧ (B = none → d = 0) ∧ (∀ ad, A = some ad → 0 < n → Q ad.block) ∧ RdQL Q w ks B 0
def RdQL (Q : Nat → Prop) (w : World) : List Tr → Option Addr → Nat → Prop
  | [], _, _ => True
  | T :: r, B, i => (∃ ad c0 c1 c2 c3 c4 c5, B = some ad ∧ Q ad.block ∧ ad.block < w.heap.size ∧ w.cell? (ad.add (i * 6)) = some c0 ∧ w.cell? (ad.add (i * 6 + 1)) = some c1 ∧ w.cell? (ad.add (i * 6 + 2)) = some c2 ∧ w.cell? (ad.add (i * 6 + 3)) = some c3 ∧
      w.cell? (ad.add (i * 6 + 4)) = some c4 ∧ w.cell? (ad.add (i * 6 + 5)) = some c5 ∧ RdQ Q w T (.agg #[c0, c1, c2, c3, c4, c5])) ∧ RdQL Q w r B (i + 1)
end
theorem rdQ_node {Q : Nat → Prop} {w : World} {k f a s ns ks v} : RdQ Q w (.node k f a s ns ks) v ↔ ∃ A n c B m d, v = .agg #[.int .i64 k, .int .i64 f, .int .i64 a, .string s, .slice A n c, .slice B m d] ∧ In64 k ∧ In64 f ∧ In64 a ∧ s.size ≤ reachBytes ∧
      Rd w A n ns ∧ n ≤ c ∧ n ≤ 17592186044416 ∧ (A = none → c = 0) ∧ (∀ x ∈ ns, In64 x) ∧ ks.length = m ∧ m ≤ d ∧ m ≤ 17592186044416 ∧ (B = none → d = 0) ∧ (∀ ad, A = some ad → 0 < n → Q ad.block) ∧ RdQL Q w ks B 0 := by simp only [RdQ]
theorem rdQL_cons {Q : Nat → Prop} {w : World} {T : Tr} {r : List Tr} {B : Option Addr} {i : Nat} : RdQL Q w (T :: r) B i ↔ (∃ ad c0 c1 c2 c3 c4 c5, B = some ad ∧ Q ad.block ∧ ad.block < w.heap.size ∧ w.cell? (ad.add (i * 6)) = some c0 ∧ w.cell? (ad.add (i * 6 + 1)) = some c1 ∧ w.cell? (ad.add (i * 6 + 2)) = some c2 ∧ w.cell? (ad.add (i * 6 + 3)) = some c3 ∧
      w.cell? (ad.add (i * 6 + 4)) = some c4 ∧ w.cell? (ad.add (i * 6 + 5)) = some c5 ∧ RdQ Q w T (.agg #[c0, c1, c2, c3, c4, c5])) ∧ RdQL Q w r B (i + 1) := by simp only [RdQL]
theorem rdQL_nil {Q : Nat → Prop} {w : World} {B : Option Addr} {i : Nat} : RdQL Q w [] B i := by simp only [RdQL]

/-- The reading, into another world and another set of blocks: where the blocks of Q lie as they lay. -/
theorem RdQ.keep {Q Q' : Nat → Prop} {w w' : World} (hs : w.heap.size ≤ w'.heap.size) (hc : ∀ a : Addr, Q a.block → a.block < w.heap.size → w'.cell? a = w.cell? a) (hq : ∀ b, Q b → Q' b) : ∀ {T : Tr} {v : Value}, RdQ Q w T v → RdQ Q' w' T v := by
  intro T
  induction T using Tr.ind with
  | h k f a s ns ks ih =>
    intro v h
    rw [rdQ_node] at h ⊢
    obtain ⟨A, n, c, B, m, d, h0, h1, h2, h3, h4, h5, h6, h7, h8, h9, h10, h11, h12, h13, h15, h14⟩ := h
    have h5' : Rd w' A n ns := ⟨h5.1, fun j hj => by
      obtain ⟨ad, e, hl, hx⟩ := h5.2 j hj
      exact ⟨ad, e, Nat.lt_of_lt_of_le hl hs, (hc _ (by rw [blk_add]; exact h15 ad e (by omega)) (by rw [blk_add]; exact hl)).trans hx⟩⟩
    refine ⟨A, n, c, B, m, d, h0, h1, h2, h3, h4, h5', h6, h7, h8, h9, h10, h11, h12, h13, fun ad e hn => hq _ (h15 ad e hn), ?_⟩
    clear h0 h1 h2 h3 h4 h5 h5' h6 h7 h8 h9 h10 h11 h12 h13 h15
    generalize 0 = i at h14 ⊢
    induction ks generalizing i with
    | nil => exact rdQL_nil
    | cons T r ihr =>
      rw [rdQL_cons] at h14 ⊢
      obtain ⟨⟨ad, c0, c1, c2, c3, c4, c5, e, hQ, hl, q0, q1, q2, q3, q4, q5, hT⟩, hr⟩ := h14
      have hc' : ∀ j, w'.cell? (ad.add j) = w.cell? (ad.add j) := fun j => hc _ (by rw [blk_add]; exact hQ) (by rw [blk_add]; exact hl)
      exact ⟨⟨ad, c0, c1, c2, c3, c4, c5, e, hq _ hQ, Nat.lt_of_lt_of_le hl hs, (hc' _).trans q0, (hc' _).trans q1, (hc' _).trans q2, (hc' _).trans q3, (hc' _).trans q4, (hc' _).trans q5, ih T (by simp) hT⟩, ihr (fun U hU => ih U (by simp [hU])) _ hr⟩
theorem RdQL.keep {Q Q' : Nat → Prop} {w w' : World} (hs : w.heap.size ≤ w'.heap.size) (hc : ∀ a : Addr, Q a.block → a.block < w.heap.size → w'.cell? a = w.cell? a) (hq : ∀ b, Q b → Q' b) {l : List Tr} {B : Option Addr} {i : Nat} (h : RdQL Q w l B i) : RdQL Q' w' l B i := by
  induction l generalizing i with
  | nil => exact rdQL_nil
  | cons T r ihr =>
    rw [rdQL_cons] at h ⊢
    obtain ⟨⟨ad, c0, c1, c2, c3, c4, c5, e, hQ, hl, q0, q1, q2, q3, q4, q5, hT⟩, hr⟩ := h
    have hc' : ∀ j, w'.cell? (ad.add j) = w.cell? (ad.add j) := fun j => hc _ (by rw [blk_add]; exact hQ) (by rw [blk_add]; exact hl)
    exact ⟨⟨ad, c0, c1, c2, c3, c4, c5, e, hq _ hQ, Nat.lt_of_lt_of_le hl hs, (hc' _).trans q0, (hc' _).trans q1, (hc' _).trans q2, (hc' _).trans q3, (hc' _).trans q4, (hc' _).trans q5, hT.keep hs hc hq⟩, ihr hr⟩
theorem RdQ.below {Q : Nat → Prop} {w w' : World} (hb : Below w.heap.size w w') {T : Tr} {v : Value} (h : RdQ Q w T v) : RdQ Q w' T v := h.keep hb.size (fun a _ hl => hb.cell hl) (fun _ h => h)
theorem RdQ.le {Q Q' : Nat → Prop} {w : World} {T : Tr} {v : Value} (h : RdQ Q w T v) (hq : ∀ b, Q b → Q' b) : RdQ Q' w T v := h.keep (Nat.le_refl _) (fun _ _ _ => rfl) hq

/-- The value reads as the tree. -/
def RdT (w : World) (T : Tr) (v : Value) : Prop := RdQ (fun _ => True) w T v
def RdL (w : World) (l : List Tr) (B : Option Addr) (i : Nat) : Prop := RdQL (fun _ => True) w l B i
theorem RdQ.rd {Q : Nat → Prop} {w : World} {T : Tr} {v : Value} (h : RdQ Q w T v) : RdT w T v := h.le fun _ _ => trivial
theorem rdT_node {w : World} {k f a s ns ks v} : RdT w (.node k f a s ns ks) v ↔ ∃ A n c B m d, v = .agg #[.int .i64 k, .int .i64 f, .int .i64 a, .string s, .slice A n c, .slice B m d] ∧ In64 k ∧ In64 f ∧ In64 a ∧ s.size ≤ reachBytes ∧
      Rd w A n ns ∧ n ≤ c ∧ n ≤ 17592186044416 ∧ (A = none → c = 0) ∧ (∀ x ∈ ns, In64 x) ∧ ks.length = m ∧ m ≤ d ∧ m ≤ 17592186044416 ∧ (B = none → d = 0) ∧ RdL w ks B 0 := by
  unfold RdT RdL
  rw [rdQ_node]
  simp only [implies_true, true_and]
theorem rdL_cons {w : World} {T : Tr} {r : List Tr} {B : Option Addr} {i : Nat} : RdL w (T :: r) B i ↔ (∃ ad c0 c1 c2 c3 c4 c5, B = some ad ∧ ad.block < w.heap.size ∧ w.cell? (ad.add (i * 6)) = some c0 ∧ w.cell? (ad.add (i * 6 + 1)) = some c1 ∧ w.cell? (ad.add (i * 6 + 2)) = some c2 ∧ w.cell? (ad.add (i * 6 + 3)) = some c3 ∧
      w.cell? (ad.add (i * 6 + 4)) = some c4 ∧ w.cell? (ad.add (i * 6 + 5)) = some c5 ∧ RdT w T (.agg #[c0, c1, c2, c3, c4, c5])) ∧ RdL w r B (i + 1) := by
  unfold RdT RdL
  rw [rdQL_cons]
  simp only [true_and]
theorem rdL_nil {w : World} {B : Option Addr} {i : Nat} : RdL w [] B i := rdQL_nil
theorem RdT.below {w w' : World} (hb : Below w.heap.size w w') {T : Tr} {v : Value} (h : RdT w T v) : RdT w' T v := RdQ.below hb h
theorem RdL.below {w w' : World} (hb : Below w.heap.size w w') {l : List Tr} {B : Option Addr} {i : Nat} (h : RdL w l B i) : RdL w' l B i := RdQL.keep hb.size (fun a _ hl => hb.cell hl) (fun _ h => h) h
theorem six {w : World} {a : Addr} {k j : Nat} {x : Value} (h : w.cell? (a.add (k + j)) = some x) (hj : 0 < j) : w.cell? ⟨(a.add k).block, (a.add k).off + j, none⟩ = some x := by
  have e : ∀ b : Addr, (⟨b.block, b.off + j, none⟩ : Addr) = b.add j := fun b => by unfold Addr.add; simp; omega
  rw [e, adr_add]; exact h
/-- A kid, as the walk loads it. -/
theorem RdL.kid {w : World} {B : Option Addr} {l : List Tr} {k : Nat} {T : Tr} (h : RdL w l B 0) (hk : l[k]? = some T) :
    ∃ ad c0 c1 c2 c3 c4 c5, B = some ad ∧ ad.block < w.heap.size ∧ w.cell? (ad.add (k * 6)) = some c0 ∧ w.cell? ⟨(ad.add (k * 6)).block, (ad.add (k * 6)).off + 1, none⟩ = some c1 ∧ w.cell? ⟨(ad.add (k * 6)).block, (ad.add (k * 6)).off + 2, none⟩ = some c2 ∧
      w.cell? ⟨(ad.add (k * 6)).block, (ad.add (k * 6)).off + 3, none⟩ = some c3 ∧ w.cell? ⟨(ad.add (k * 6)).block, (ad.add (k * 6)).off + 4, none⟩ = some c4 ∧ w.cell? ⟨(ad.add (k * 6)).block, (ad.add (k * 6)).off + 5, none⟩ = some c5 ∧ RdT w T (.agg #[c0, c1, c2, c3, c4, c5]) := by
  have key : ∀ (l : List Tr) (i k : Nat), RdL w l B i → l[k]? = some T → ∃ ad c0 c1 c2 c3 c4 c5, B = some ad ∧ ad.block < w.heap.size ∧ w.cell? (ad.add ((i + k) * 6)) = some c0 ∧ w.cell? (ad.add ((i + k) * 6 + 1)) = some c1 ∧ w.cell? (ad.add ((i + k) * 6 + 2)) = some c2 ∧ w.cell? (ad.add ((i + k) * 6 + 3)) = some c3 ∧
      w.cell? (ad.add ((i + k) * 6 + 4)) = some c4 ∧ w.cell? (ad.add ((i + k) * 6 + 5)) = some c5 ∧ RdT w T (.agg #[c0, c1, c2, c3, c4, c5]) := by
    intro l
    induction l with
    | nil => intro i k _ h; simp at h
    | cons U r ih =>
      intro i k h hk
      rw [rdL_cons] at h
      cases k with
      | zero => simp at hk; subst hk; exact h.1
      | succ k =>
        have := ih (i + 1) k h.2 (by simpa using hk)
        rwa [show i + 1 + k = i + (k + 1) by omega] at this
  obtain ⟨ad, c0, c1, c2, c3, c4, c5, e, hl, q0, q1, q2, q3, q4, q5, hT⟩ := key l 0 k h hk
  rw [Nat.zero_add] at q0 q1 q2 q3 q4 q5
  exact ⟨ad, c0, c1, c2, c3, c4, c5, e, hl, q0, six q1 (by omega), six q2 (by omega), six q3 (by omega), six q4 (by omega), six q5 (by omega), hT⟩

/-- A block of six cells. -/
theorem one_box6 {w W : World} {x0 x1 x2 x3 x4 x5 : Value} {t : TypeId} (hW : W = w.alloc (.cells #[x0, x1, x2, x3, x4, x5] t)) :
    Below w.heap.size w W ∧ W.heap.size = w.heap.size + 1 ∧ ∀ V, Below W.heap.size W V →
      V.cell? ⟨w.heap.size, 0, none⟩ = some x0 ∧ V.cell? ⟨w.heap.size, 1, none⟩ = some x1 ∧ V.cell? ⟨w.heap.size, 2, none⟩ = some x2 ∧ V.cell? ⟨w.heap.size, 3, none⟩ = some x3 ∧ V.cell? ⟨w.heap.size, 4, none⟩ = some x4 ∧ V.cell? ⟨w.heap.size, 5, none⟩ = some x5 := by
  have hs : W.heap.size = w.heap.size + 1 := by rw [hW]; simp
  have l0 : w.heap.size < W.heap.size := by omega
  refine ⟨by rw [hW]; exact (Below.refl _ w).alloc (Nat.le_refl _) _, hs, fun V h => ?_⟩
  exact ⟨(h.cell (p := ⟨w.heap.size, 0, none⟩) l0).trans (by rw [hW]; simp), (h.cell (p := ⟨w.heap.size, 1, none⟩) l0).trans (by rw [hW]; simp), (h.cell (p := ⟨w.heap.size, 2, none⟩) l0).trans (by rw [hW]; simp),
    (h.cell (p := ⟨w.heap.size, 3, none⟩) l0).trans (by rw [hW]; simp), (h.cell (p := ⟨w.heap.size, 4, none⟩) l0).trans (by rw [hW]; simp), (h.cell (p := ⟨w.heap.size, 5, none⟩) l0).trans (by rw [hW]; simp)⟩
end Go.Proofs.YthgojbaindejjaaGreatDoor.tr
