/- Package tree: duplicate, Copy. -/
import Derived.Test.YtbcnilkenkmabaaTreeClone
import Derived.Deep.RegionHeld3
import Derived.BigRegion
namespace Go.Proofs.Ytbcnilkenkmabaa.tr
open Go.ChangeShapes Go.WideShapes Go.ChangeAt Go.RowKit Go.Proofs.Ytbcnilkenkmabaa.mem Go.Proofs.Ytbcnilkenkmabaa.sq
set_option linter.unusedVariables false

/-- A tree in memory that the call has made. -/
def MakesT (w : World) (T : Tr) (e : Ending) (w' : World) : Prop := ∃ v, e = .returned v ∧ RdQ (fun b => w.heap.size ≤ b) w' T v ∧ Below w.heap.size w w'

/-- The row while the kids are copied: those before j are new, the others lie where they lay. -/
def DupRow (s g j m d : Nat) (ks : List Tr) (X : World) : Prop :=
  ∃ us : List S6, us.length = m ∧ X.ownsRow s 25 6 (.slice (some ⟨g, 0, none⟩) m d) m (flat6 us) ∧ ∀ (k : Nat) u T, us[k]? = some u → ks[k]? = some T → RdQ (fun b => (k < j ∧ s + 1 < b ∧ b ≠ g) ∨ (j ≤ k ∧ b < s)) X T u.agg

/-- A block of a tree's six cells, known whole. -/
def Six (X : World) (b : Nat) (c0 c1 c2 c3 c4 c5 : Value) : Prop := X.heap[b]? = some (.cells #[c0, c1, c2, c3, c4, c5] 25 (0, 0))
section
variable {X : World} {b : Nat} {c0 c1 c2 c3 c4 c5 : Value}
theorem Six.cell (h : Six X b c0 c1 c2 c3 c4 c5) (j : Nat) {v : Value} (hv : (#[c0, c1, c2, c3, c4, c5] : Array Value)[j]? = some v) : X.cell? ⟨b, j, none⟩ = some v := by
  rw [cell_of_row _ _ _ _ 25 (0, 0) h]; exact hv
theorem Six.frozen (h : Six X b c0 c1 c2 c3 c4 c5) (j : Nat) : X.frozen? ⟨b, j, none⟩ = false := by simp [World.frozen?, show X.heap[b]? = _ from h]
theorem Six.new (X : World) (c0 c1 c2 c3 c4 c5 : Value) : Six (X.alloc (.cells #[c0, c1, c2, c3, c4, c5] 25)) X.heap.size c0 c1 c2 c3 c4 c5 := World.alloc_heap_new X _
theorem Six.as {C : World} (h : Six X b c0 c1 c2 c3 c4 c5) (e : C.heap[b]? = X.heap[b]?) : Six C b c0 c1 c2 c3 c4 c5 := e.trans h
theorem Six.lt (h : Six X b c0 c1 c2 c3 c4 c5) : b < X.heap.size := (Array.getElem?_eq_some_iff.1 h).1
theorem Six.below {C : World} (h : Six X b c0 c1 c2 c3 c4 c5) (hb : Below X.heap.size X C) : Six C b c0 c1 c2 c3 c4 c5 := h.as (hb.block b h.lt)
theorem Six.set (h : Six X b c0 c1 c2 c3 c4 c5) (j : Nat) (u : Value) : (X.setCell ⟨b, j, none⟩ u).heap[b]? = some (.cells ((#[c0, c1, c2, c3, c4, c5] : Array Value).setIfInBounds j u) 25 (0, 0)) := by
  obtain ⟨hlt, hk⟩ := Array.getElem?_eq_some_iff.1 h
  show (X.heap.modify b _)[b]? = _
  rw [Array.getElem?_eq_getElem (by rw [Array.size_modify]; exact hlt), Array.getElem_modify_self, hk]
  rfl
theorem Six.set3 (h : Six X b c0 c1 c2 c3 c4 c5) (u : Value) : Six (X.setCell ⟨b, 3, none⟩ u) b c0 c1 c2 u c4 c5 := h.set 3 u
theorem Six.set4 (h : Six X b c0 c1 c2 c3 c4 c5) (u : Value) : Six (X.setCell ⟨b, 4, none⟩ u) b c0 c1 c2 c3 u c5 := h.set 4 u
theorem Six.set5 (h : Six X b c0 c1 c2 c3 c4 c5) (u : Value) : Six (X.setCell ⟨b, 5, none⟩ u) b c0 c1 c2 c3 c4 u := h.set 5 u
theorem Six.six (h : Six X b c0 c1 c2 c3 c4 c5) : X.cell? ⟨b, 0, none⟩ = some c0 ∧ X.cell? ⟨b, 1, none⟩ = some c1 ∧ X.cell? ⟨b, 2, none⟩ = some c2 ∧ X.cell? ⟨b, 3, none⟩ = some c3 ∧ X.cell? ⟨b, 4, none⟩ = some c4 ∧ X.cell? ⟨b, 5, none⟩ = some c5 :=
  ⟨h.cell 0 rfl, h.cell 1 rfl, h.cell 2 rfl, h.cell 3 rfl, h.cell 4 rfl, h.cell 5 rfl⟩
end
def zs : Value := .string ⟨#[]⟩
def Zero6 (X : World) (b : Nat) : Prop := Six X b (.int .i64 0) (.int .i64 0) (.int .i64 0) (.string ⟨#[]⟩) (.slice none 0 0) (.slice none 0 0)

/-- How the world stands while the kids are copied. -/
structure DupAt (w : World) (k f a : Int) (s : ByteArray) (ns : List Int) (ks : List Tr) (An : Option Addr) (n c : Nat) (P : Option Addr) (m d G : Nat) (j : Nat) (X : World) : Prop where
  below : Below w.heap.size w X
  box : Six X w.heap.size (.int .i64 k) (.int .i64 f) (.int .i64 a) (.string s) (.slice An n c) (.slice P m d)
  out : Zero6 X (w.heap.size + 1)
  nums : Rd X An n ns
  numsAt : ∀ ad, An = some ad → 0 < n → w.heap.size + 1 < ad.block ∧ ad.block < G
  row : m = 0 ∨ ∃ g, P = some ⟨g, 0, none⟩ ∧ G ≤ g ∧ DupRow w.heap.size g j m d ks X
  size : w.heap.size + 2 ≤ G ∧ G ≤ X.heap.size

/-- The six cells of an element, as the walk spells them. -/
def Six6 (V : World) (g o : Nat) (c0 c1 c2 c3 c4 c5 : Value) : Prop := V.cell? ⟨g, o, none⟩ = some c0 ∧ V.cell? ⟨g, o + 1, none⟩ = some c1 ∧ V.cell? ⟨g, o + 2, none⟩ = some c2 ∧ V.cell? ⟨g, o + 3, none⟩ = some c3 ∧ V.cell? ⟨g, o + 4, none⟩ = some c4 ∧ V.cell? ⟨g, o + 5, none⟩ = some c5
def Free6 (V : World) (g o : Nat) : Prop := V.frozen? ⟨g, o, none⟩ = false ∧ V.frozen? ⟨g, o + 1, none⟩ = false ∧ V.frozen? ⟨g, o + 2, none⟩ = false ∧ V.frozen? ⟨g, o + 3, none⟩ = false ∧ V.frozen? ⟨g, o + 4, none⟩ = false ∧ V.frozen? ⟨g, o + 5, none⟩ = false
theorem row6_at {X : World} {B g m d j : Nat} {us : List S6} {u : S6} (h : X.ownsRow B 25 6 (.slice (some ⟨g, 0, none⟩) m d) m (flat6 us)) (hu : us[j]? = some u) :
    Six6 X g (j * 6) u.c0 u.c1 u.c2 u.c3 u.c4 u.c5 ∧ Free6 X g (j * 6) := by
  have ha : ∀ q, (⟨g, 0, none⟩ : Addr).add q = ⟨g, q, none⟩ := fun q => by unfold Addr.add; split <;> simp_all
  have hc : ∀ q v, u.cs[q]? = some v → q < 6 → X.cell? ⟨g, j * 6 + q, none⟩ = some v := fun q v hv hq => by
    have := h.cells (g := g) rfl (j * 6 + q) v ((flat6_at hu hq).trans hv)
    rwa [ha] at this
  have hf : ∀ q, X.frozen? ⟨g, q, none⟩ = false := fun q => World.ownsRow.frozenAt h q
  exact ⟨⟨hc 0 _ rfl (by omega), hc 1 _ rfl (by omega), hc 2 _ rfl (by omega), hc 3 _ rfl (by omega), hc 4 _ rfl (by omega), hc 5 _ rfl (by omega)⟩, ⟨hf _, hf _, hf _, hf _, hf _, hf _⟩⟩

/-- The six cells of an element are stored. -/
def put6 (W : World) (g o : Nat) (v0 v1 v2 v3 v4 v5 : Value) : World :=
  (((((W.setCell ⟨g, o, none⟩ v0).setCell ⟨g, o + 1, none⟩ v1).setCell ⟨g, o + 2, none⟩ v2).setCell ⟨g, o + 3, none⟩ v3).setCell ⟨g, o + 4, none⟩ v4).setCell ⟨g, o + 5, none⟩ v5
theorem put6_other (W : World) (g o : Nat) (v0 v1 v2 v3 v4 v5 : Value) (q : Nat) (h : q ≠ g) : (put6 W g o v0 v1 v2 v3 v4 v5).heap[q]? = W.heap[q]? := by
  unfold put6
  exact (Below.heap_setCell _ _ _ _ h).trans ((Below.heap_setCell _ _ _ _ h).trans ((Below.heap_setCell _ _ _ _ h).trans ((Below.heap_setCell _ _ _ _ h).trans ((Below.heap_setCell _ _ _ _ h).trans (Below.heap_setCell _ _ _ _ h)))))
theorem far6 {W : World} {g o : Nat} {v0 v1 v2 v3 v4 v5 : Value} {p : Addr} {v : Value} (h : p.block ≠ g) (hc : W.cell? p = some v) :
    ((((((W.setCell ⟨g, o, none⟩ v0).setCell ⟨g, o + 1, none⟩ v1).setCell ⟨g, o + 2, none⟩ v2).setCell ⟨g, o + 3, none⟩ v3).setCell ⟨g, o + 4, none⟩ v4).setCell ⟨g, o + 5, none⟩ v5).cell? p = some v :=
  cell_as hc (put6_other W g o v0 v1 v2 v3 v4 v5 p.block h)
theorem put6_size (W : World) (g o : Nat) (v0 v1 v2 v3 v4 v5 : Value) : (put6 W g o v0 v1 v2 v3 v4 v5).heap.size = W.heap.size := by simp [put6, World.setCell]
theorem put6_below {B : Nat} {w W : World} (hb : Below B w W) {g : Nat} (hg : B ≤ g) (o : Nat) (v0 v1 v2 v3 v4 v5 : Value) : Below B w (put6 W g o v0 v1 v2 v3 v4 v5) := by
  unfold put6
  exact (((((hb.setCell (p := ⟨g, o, none⟩) hg _).setCell (p := ⟨g, o + 1, none⟩) hg _).setCell (p := ⟨g, o + 2, none⟩) hg _).setCell (p := ⟨g, o + 3, none⟩) hg _).setCell (p := ⟨g, o + 4, none⟩) hg _).setCell (p := ⟨g, o + 5, none⟩) hg _
theorem flat6_set : ∀ {us : List S6} {j : Nat} (u : S6), j < us.length → flat6 (us.set j u) = ((((((flat6 us).set (j * 6) u.c0).set (j * 6 + 1) u.c1).set (j * 6 + 2) u.c2).set (j * 6 + 3) u.c3).set (j * 6 + 4) u.c4).set (j * 6 + 5) u.c5
  | [], j, u, h => by simp at h
  | x :: r, 0, u, _ => by simp [flat6, S6.cs]
  | x :: r, j + 1, u, h => by
    have ih := flat6_set (us := r) (j := j) u (by simpa using h)
    have hs : ∀ (l : List Value) (q : Nat) (v : Value), (x.cs ++ l).set (q + 6) v = x.cs ++ l.set q v := fun l q v => by
      rw [List.set_append_right _ _ (by simp [S6.cs])]
      simp [S6.cs]
    simp only [List.set_cons_succ, flat6]
    rw [ih, show (j + 1) * 6 = j * 6 + 6 by omega, show j * 6 + 6 + 1 = j * 6 + 1 + 6 by omega, show j * 6 + 6 + 2 = j * 6 + 2 + 6 by omega, show j * 6 + 6 + 3 = j * 6 + 3 + 6 by omega, show j * 6 + 6 + 4 = j * 6 + 4 + 6 by omega, show j * 6 + 6 + 5 = j * 6 + 5 + 6 by omega]
    simp only [hs]
theorem put6_row {W : World} {B g m d j : Nat} {us : List S6} (u : S6) (h : W.ownsRow B 25 6 (.slice (some ⟨g, 0, none⟩) m d) m (flat6 us)) (hj : j < us.length) :
    (put6 W g (j * 6) u.c0 u.c1 u.c2 u.c3 u.c4 u.c5).ownsRow B 25 6 (.slice (some ⟨g, 0, none⟩) m d) m (flat6 (us.set j u)) := by
  rw [flat6_set u hj]
  exact (World.ownsRow.stored ((World.ownsRow.stored ((World.ownsRow.stored ((World.ownsRow.stored ((World.ownsRow.stored ((World.ownsRow.stored h _ _).1) _ _).1) _ _).1) _ _).1) _ _).1) _ _).1

theorem ownsRow_below {w w' : World} {B : Nat} {e : TypeId} {size n : Nat} {v : Value} {xs : List Value} (h : w.ownsRow B e size v n xs) (hb : Below w.heap.size w w') : w'.ownsRow B e size v n xs :=
  World.ownsRow.kept (row := none) h ⟨hb.os, hb.tape, hb.output, hb.size, fun k hk _ => hb.block k hk⟩ (by cases hv : v.ownBlock <;> simp)
theorem rdQL_of_row {Q : Nat → Prop} {X : World} {g : Nat} (hq : Q g) (hl : g < X.heap.size) : ∀ (L : List Tr) (us : List S6) (i : Nat), us.length = L.length → (∀ j u, (flat6 us)[j]? = some u → X.cell? ⟨g, i * 6 + j, none⟩ = some u) → (∀ (k : Nat) u T, us[k]? = some u → L[k]? = some T → RdQ Q X T u.agg) → RdQL Q X L (some ⟨g, 0, none⟩) i
  | [], _, _, _, _, _ => rdQL_nil
  | T :: r, [], _, h, _, _ => by simp at h
  | T :: r, u :: us, i, h, hc, hr => by
    have ha : ∀ q, (⟨g, 0, none⟩ : Addr).add q = ⟨g, q, none⟩ := fun q => by unfold Addr.add; split <;> simp_all
    have hat : ∀ q v, u.cs[q]? = some v → q < 6 → X.cell? ((⟨g, 0, none⟩ : Addr).add (i * 6 + q)) = some v := fun q v hv hq => by
      rw [ha]
      exact hc q v (by simp only [flat6]; rw [List.getElem?_append_left (by simp [S6.cs]; omega)]; exact hv)
    refine rdQL_cons.2 ⟨⟨⟨g, 0, none⟩, u.c0, u.c1, u.c2, u.c3, u.c4, u.c5, rfl, hq, hl, hat 0 _ rfl (by omega), hat 1 _ rfl (by omega), hat 2 _ rfl (by omega), hat 3 _ rfl (by omega), hat 4 _ rfl (by omega), hat 5 _ rfl (by omega), hr 0 u T rfl rfl⟩, ?_⟩
    refine rdQL_of_row hq hl r us (i + 1) (by simpa using h) (fun j v hv => ?_) (fun k v V h1 h2 => hr (k + 1) v V (by simpa using h1) (by simpa using h2))
    have := hc (6 + j) v (by simp only [flat6]; rw [List.getElem?_append_right (by simp [S6.cs])]; simpa [S6.cs] using hv)
    rwa [show i * 6 + (6 + j) = (i + 1) * 6 + j by omega] at this

theorem Six.all {X : World} {b : Nat} {c0 c1 c2 c3 c4 c5 : Value} (h : Six X b c0 c1 c2 c3 c4 c5) (v0 v1 v2 v3 v4 v5 : Value) :
    Six ((((((X.setCell ⟨b, 0, none⟩ v0).setCell ⟨b, 1, none⟩ v1).setCell ⟨b, 2, none⟩ v2).setCell ⟨b, 3, none⟩ v3).setCell ⟨b, 4, none⟩ v4).setCell ⟨b, 5, none⟩ v5) b v0 v1 v2 v3 v4 v5 := by
  have h0 : Six (X.setCell ⟨b, 0, none⟩ v0) b v0 c1 c2 c3 c4 c5 := h.set 0 v0
  have h1 : Six ((X.setCell ⟨b, 0, none⟩ v0).setCell ⟨b, 1, none⟩ v1) b v0 v1 c2 c3 c4 c5 := h0.set 1 v1
  have h2 : Six (((X.setCell ⟨b, 0, none⟩ v0).setCell ⟨b, 1, none⟩ v1).setCell ⟨b, 2, none⟩ v2) b v0 v1 v2 c3 c4 c5 := h1.set 2 v2
  exact ((h2.set3 v3).set4 v4).set5 v5

set_option maxHeartbeats 4000000 in
theorem dup_any (T : Tr) : ∀ (v : Value) (w : World), RdT w T v → sizeT T ≤ 1000000 → Calls Try.prog 36 #[v] w (MakesT w T) := by
  induction T using Tr.ind with
  | h k f a s ns ks ih =>
  intro v w hT hz
  obtain ⟨Aa, na, ca, B, mm, d, rfl, i1, i2, i3, hss, hns, hnc, hnl, hna, hix, hml, hmd, hmm, hnd, -, hL⟩ := rdQ_node.1 ((RdQ.old hT).le (Q' := fun q => q < w.heap.size) (fun q e => e.2))
  have hmz : mm ≤ 1000000 := by have := kids_size ks; rw [size_node] at hz; omega
  obtain ⟨w0, hw0⟩ : ∃ w0, w0 = (w.alloc (.cells #[.int .i64 k, .int .i64 f, .int .i64 a, .string s, .slice Aa na ca, .slice B mm d] 25)).alloc (.cells #[.int .i64 0, .int .i64 0, .int .i64 0, .string ⟨#[]⟩, .slice none 0 0, .slice none 0 0] 25) := ⟨_, rfl⟩
  have hs0 : w0.heap.size = w.heap.size + 2 := by rw [hw0]; simp
  have hb0 : Below w.heap.size w w0 := by rw [hw0]; exact ((Below.refl _ _).alloc (Nat.le_refl _) _).alloc (by simp) _
  have hX0 : Six w0 w.heap.size (.int .i64 k) (.int .i64 f) (.int .i64 a) (.string s) (.slice Aa na ca) (.slice B mm d) := by
    rw [hw0]; exact (Six.new w _ _ _ _ _ _).below ((Below.refl _ _).alloc (Nat.le_refl _) _)
  have hO0 : Zero6 w0 (w.heap.size + 1) := by
    have := Six.new (w.alloc (.cells #[.int .i64 k, .int .i64 f, .int .i64 a, .string s, .slice Aa na ca, .slice B mm d] 25)) (.int .i64 0) (.int .i64 0) (.int .i64 0) (.string ⟨#[]⟩) (.slice none 0 0) (.slice none 0 0)
    rw [World.size_alloc] at this
    rw [hw0]; exact this
  have P1 := fun W => Lib.hid (clone_str s hss W)
  have P2 := fun W h => Lib.hid (clone_nums Aa na ca ns W hnl h hna)
  have HL := Lib.hid hL
  have P3 := fun W h1 h2 => Lib.hid (clone_kids B mm d ks (fun q => q < w.heap.size) W (by omega) h1 hml hnd h2)
  have HNS := Lib.hid hns; have HNX := Lib.hid hns.1; have HI := Lib.hid hix; have HII := Lib.hid (show In64 k ∧ In64 f ∧ In64 a from ⟨i1, i2, i3⟩); have HSS := Lib.hid hss; have HNL := Lib.hid hnl; have HML := Lib.hid hml
  have HB0 := Lib.hid hb0; have HS0 := Lib.hid hs0; have HX0 := Lib.hid hX0; have HO0 := Lib.hid hO0
  have IH := Lib.hid ih; have HZ := Lib.hid hz; have HW0 := Lib.hid hw0
  have q3 := hX0.cell 3 rfl
  clear hT hns hnc hnl hna hix hml hmd hmm hnd hL i1 i2 i3 hss hb0 hs0 hX0 hO0 ih hz
  go_enter Try.func36, Try.ntmps36
  go_upto_region 1 with fail
  rw [← hw0]
  clear hw0 HW0
  go_wp2_with fail
  refine (P1 _).out.mono ?_
  rintro e w1 ⟨rfl, hb1⟩
  have hX1 := HX0.out.below hb1
  have hc3 := hX1.cell 3 rfl
  have hf3 := hX1.frozen 3
  obtain ⟨w2, hw2⟩ : ∃ w2, w2 = w1.setCell ⟨w.heap.size, 3, none⟩ (.string s) := ⟨_, rfl⟩
  have hX2 : Six w2 w.heap.size (.int .i64 k) (.int .i64 f) (.int .i64 a) (.string s) (.slice Aa na ca) (.slice B mm d) := by rw [hw2]; exact hX1.set3 _
  have hO2 : Zero6 w2 (w.heap.size + 1) := (HO0.out.below hb1).as (by rw [hw2]; exact Below.heap_setCell _ ⟨w.heap.size, 3, none⟩ _ _ (by show w.heap.size + 1 ≠ w.heap.size; omega))
  have hb2 : Below w.heap.size w w2 := by rw [hw2]; exact (HB0.out.trans (hb1.mono (by rw [HS0.out]; omega))).setCell (p := ⟨w.heap.size, 3, none⟩) (Nat.le_refl _) _
  have hs2 : w.heap.size + 2 ≤ w2.heap.size := by have := hb1.size; have := HS0.out; rw [hw2]; simp [World.setCell]; omega
  have PA := P2 w2 (HNS.out.below hb2)
  have HX2 := Lib.hid hX2; have HO2 := Lib.hid hO2; have HB2 := Lib.hid hb2; have HS2 := Lib.hid hs2
  have q4 := hX2.cell 4 rfl
  clear hX1 hX2 hO2 hb2 hs2 hb1 q3 HX0 HO0 HB0 HS0 P1 P2
  go_upto_region 2 with fail
  rw [← hw2]
  clear hw2 hc3 hf3
  go_wp2_with fail
  refine PA.out.mono ?_
  rintro e w3 ⟨v3, rfl, ho3, hb3⟩
  obtain ⟨An, cn, rfl, hnc, _, hnn, hng⟩ := ho3.form
  rw [HNX.out] at ho3 hnc ⊢
  have hX3 := HX2.out.below hb3
  have hc4 := hX3.cell 4 rfl
  have hf4 := hX3.frozen 4
  obtain ⟨w4, hw4⟩ : ∃ w4, w4 = w3.setCell ⟨w.heap.size, 4, none⟩ (.slice An na cn) := ⟨_, rfl⟩
  have hX4 : Six w4 w.heap.size (.int .i64 k) (.int .i64 f) (.int .i64 a) (.string s) (.slice An na cn) (.slice B mm d) := by rw [hw4]; exact hX3.set4 _
  have hO4 : Zero6 w4 (w.heap.size + 1) := (HO2.out.below hb3).as (by rw [hw4]; exact Below.heap_setCell _ ⟨w.heap.size, 4, none⟩ _ _ (by show w.heap.size + 1 ≠ w.heap.size; omega))
  have hb4 : Below w.heap.size w w4 := by rw [hw4]; exact (HB2.out.trans (hb3.mono (by have := HS2.out; omega))).setCell (p := ⟨w.heap.size, 4, none⟩) (Nat.le_refl _) _
  have hs4 : w.heap.size + 2 ≤ w4.heap.size := by have := hb3.size; have := HS2.out; rw [hw4]; simp [World.setCell]; omega
  have hr4 : Rd w4 An na ns := by
    refine ⟨ho3.rd.1, fun j hj => ?_⟩
    obtain ⟨ad, e, hl, hc⟩ := ho3.rd.2 j hj
    refine ⟨ad, e, by rw [hw4]; simpa [World.setCell] using hl, cell_as hc ?_⟩
    rw [hw4, blk_add]
    exact Below.heap_setCell _ ⟨w.heap.size, 4, none⟩ _ _ (by have := hng ad e; have := HS2.out; show ad.block ≠ w.heap.size; omega)
  have hat4 : ∀ ad, An = some ad → 0 < na → w.heap.size + 1 < ad.block ∧ ad.block < w4.heap.size := fun ad e hn => by
    have h1 := hng ad e
    have h2 := HS2.out
    obtain ⟨ad', e', hl, _⟩ := hr4.2 0 hn
    rw [e] at e'; injection e' with e'; subst e'
    exact ⟨by omega, hl⟩
  have PC := P3 w4 (HL.out.keep hb4.size (fun a hq _ => World.cell?_of_block (hb4.block _ hq)) (fun _ h => h)) (fun q e => by omega)
  have HX4 := Lib.hid hX4; have HO4 := Lib.hid hO4; have HB4 := Lib.hid hb4; have HS4 := Lib.hid hs4; have HR4 := Lib.hid hr4; have HAT4 := Lib.hid hat4; have HNC := Lib.hid hnc; have HNN := Lib.hid hnn
  have q5 := hX4.cell 5 rfl
  clear hX3 hX4 hO4 hb4 hs4 hr4 hat4 hnc hnn hng ho3 hb3 q4 HX2 HO2 HB2 HS2 PA P3 HNS HL
  go_upto_region 3 with fail
  rw [← hw4]
  clear hw4 hc4 hf4
  go_wp2_with fail
  refine PC.out.mono ?_
  rintro e w5 ⟨P, c', rfl, ho5, hb5⟩
  have hX5 := HX4.out.below hb5
  have hc5 := hX5.cell 5 rfl
  have hf5 := hX5.frozen 5
  obtain ⟨w6, hw6⟩ : ∃ w6, w6 = w5.setCell ⟨w.heap.size, 5, none⟩ (.slice P mm c') := ⟨_, rfl⟩
  have hX6 : Six w6 w.heap.size (.int .i64 k) (.int .i64 f) (.int .i64 a) (.string s) (.slice An na cn) (.slice P mm c') := by rw [hw6]; exact hX5.set5 _
  have hO6 : Zero6 w6 (w.heap.size + 1) := (HO4.out.below hb5).as (by rw [hw6]; exact Below.heap_setCell _ ⟨w.heap.size, 5, none⟩ _ _ (by show w.heap.size + 1 ≠ w.heap.size; omega))
  have hb6 : Below w.heap.size w w6 := by rw [hw6]; exact (HB4.out.trans (hb5.mono (by have := HS4.out; omega))).setCell (p := ⟨w.heap.size, 5, none⟩) (Nat.le_refl _) _
  have hb46 : ∀ q, q ≠ w.heap.size → w6.heap[q]? = w5.heap[q]? := fun q e => by rw [hw6]; exact Below.heap_setCell _ ⟨w.heap.size, 5, none⟩ _ _ (by show q ≠ w.heap.size; exact e)
  have hsz6 : w6.heap.size = w5.heap.size := by rw [hw6]; simp [World.setCell]
  have hpc : mm ≤ c' ∧ c' ≤ maxLen ∧ (P = none → c' = 0) := by
    obtain ⟨A, c, e, h1, h2, h3⟩ := ho5.form
    injection e with e1 e2 e3
    subst e1 e3
    rw [HML.out] at h1
    exact ⟨h1, h2, h3⟩
  have hat : DupAt w k f a s ns ks An na cn P mm c' w4.heap.size 0 w6 := by
    refine ⟨hb6, hX6, hO6, ?_, HAT4.out, ?_, HS4.out, by have := hb5.size; omega⟩
    · refine ⟨HR4.out.1, fun j hj => ?_⟩
      obtain ⟨ad, e, hl, hc⟩ := HR4.out.2 j hj
      have h1 := HAT4.out ad e (by omega)
      refine ⟨ad, e, by have := hb5.size; omega, cell_as hc ?_⟩
      rw [blk_add]
      exact (hb46 _ (by omega)).trans (hb5.block _ hl)
    · rcases Nat.eq_zero_or_pos mm with h0 | h0
      · exact .inl h0
      · obtain ⟨us, g0, g1, g2⟩ := ho5
        rw [HML.out] at g0 g1
        obtain ⟨g, cap, e, hge, hlt⟩ := World.ownsRow.form g1 h0
        obtain rfl : P = some ⟨g, 0, none⟩ := by injection e
        have hg6 : w4.heap.size ≤ g := hge
        refine .inr ⟨g, rfl, hg6, us, g0, ?_, fun q u T hu hT => ?_⟩
        · have h7 : w6.ownsRow w4.heap.size 25 6 (.slice (some ⟨g, 0, none⟩) mm c') mm (flat6 us) := by rw [hw6]; exact ownsRow_setCell_below g1 (a := ⟨w.heap.size, 5, none⟩) (by show w.heap.size < w4.heap.size; have := HS4.out; omega) _
          exact Go.Joins.ownsRow_le h7 (by have := HS4.out; omega)
        · refine ((g2 q u T hu hT).carry (by omega) (fun b hb => hb46 b (by omega))).le fun b hb => .inr ⟨Nat.zero_le _, hb⟩
  have HAT := Lib.hid hat; have HPC := Lib.hid hpc; have HWS := Lib.hid (show w.heap.size + 2 ≤ w4.heap.size from HS4.out)
  have hp5 := hX6.cell 5 rfl
  clear hX5 hX6 hO6 hb6 hb46 hsz6 hpc hat ho5 hb5 q5 HX4 HO4 HB4 HS4 HR4 HAT4 PC
  go_upto_region 4 with fail
  rw [← hw6]
  clear hw6 hc5 hf5
  go_wp2_with fail
  go_loopw [20] (fun i wr => ∃ j : Nat, j ≤ mm ∧ i = .int .i64 j ∧ Hid (DupAt w k f a s ns ks An na cn P mm c' w4.heap.size j wr)) (fun i _ => mm - (intOf i).toNat)
  case atStart => exact ⟨0, Nat.zero_le _, rfl, HAT⟩
  case round =>
    obtain ⟨wo, rfl⟩ : ∃ wo : World, wo = wr := ⟨_, rfl⟩
    obtain ⟨j, hj, rfl, HA⟩ := hrel
    by_cases hlt : j < mm
    · rcases HA.out.row with h0 | ⟨g, rfl, hG, us, u0, u1, u2⟩
      · omega
      obtain ⟨u, huj⟩ : ∃ u, us[j]? = some u := ⟨_, List.getElem?_eq_getElem (by omega)⟩
      obtain ⟨T, hTk⟩ : ∃ T, ks[j]? = some T := ⟨_, List.getElem?_eq_getElem (by rw [HML.out]; exact hlt)⟩
      obtain ⟨k', f', a', s', ns', ks'⟩ := T
      have hrT := u2 j _ _ huj hTk
      have hrow := row6_at u1 huj
      obtain ⟨c0, c1, c2, c3, c4, c5⟩ := u
      obtain ⟨Ab, nb, cb, Bb, mb, db, hu6, -⟩ := rdQ_node.1 hrT
      simp only [S6.agg, Value.agg.injEq, Array.mk.injEq, List.cons.injEq, and_true] at hu6
      obtain ⟨rfl, rfl, rfl, rfl, rfl, rfl⟩ := hu6
      obtain ⟨⟨a0, a1, a2, a3, a4, a5⟩, hfr⟩ := hrow
      have hbox := HA.out.box
      have hlg := World.ownsRow.lt u1 g rfl
      have hls := hbox.lt
      have hsz := HA.out.size
      obtain ⟨wk, hwk⟩ : ∃ wk, wk = wo.alloc (.cells #[.int .i64 k', .int .i64 f', .int .i64 a', .string s', .slice Ab nb cb, .slice Bb mb db] 25) := ⟨_, rfl⟩
      have hbk : Below wo.heap.size wo wk := by rw [hwk]; exact (Below.refl _ _).alloc (Nat.le_refl _) _
      have hkid : Six wk wo.heap.size (.int .i64 k') (.int .i64 f') (.int .i64 a') (.string s') (.slice Ab nb cb) (.slice Bb mb db) := by rw [hwk]; exact Six.new _ _ _ _ _ _ _
      have hbx5 := hbox.cell 5 rfl
      have hRT : RdT wk (.node k' f' a' s' ns' ks') (.agg #[.int .i64 k', .int .i64 f', .int .i64 a', .string s', .slice Ab nb cb, .slice Bb mb db]) := (hrT.below hbk).rd
      have hgk : g < wk.heap.size := Nat.lt_of_lt_of_le hlg.2 hbk.size
      have PD : ∀ V, Hid (Below wk.heap.size wk V) → Hid (Calls Try.prog 36 #[.agg #[.int .i64 k', .int .i64 f', .int .i64 a', .string s', .slice Ab nb cb, .slice Bb mb db]] V fun e V' => ∃ A2 n2 c2 B2 m2 d2, e = .returned (.agg #[.int .i64 k', .int .i64 f', .int .i64 a', .string s', .slice A2 n2 c2, .slice B2 m2 d2]) ∧ Hid (RdQ (fun b => wk.heap.size ≤ b) V' (.node k' f' a' s' ns' ks') (.agg #[.int .i64 k', .int .i64 f', .int .i64 a', .string s', .slice A2 n2 c2, .slice B2 m2 d2])) ∧ Hid (Below wk.heap.size wk V')) := fun V h =>
        Lib.hid ((IH.out _ (List.mem_of_getElem? hTk) _ V (hRT.below h.out) (by have := kid_size hTk; have := HZ.out; rw [size_node] at this; omega)).mono fun e V' ⟨v, he, hr, hb⟩ => by
          obtain ⟨A2, n2, c2, B2, m2, d2, rfl, -⟩ := rdQ_node.1 hr
          exact ⟨A2, n2, c2, B2, m2, d2, he, Lib.hid (hr.le fun b e => Nat.le_trans h.out.size e), Lib.hid (h.out.trans (hb.mono h.out.size))⟩)
      have KC : ∀ V, Hid (Below wk.heap.size wk V) → Hid (V.cell? ⟨w.heap.size, 5, none⟩ = some (.slice (some ⟨g, 0, none⟩) mm c') ∧ (V.cell? ⟨wo.heap.size, 0, none⟩ = some (.int .i64 k') ∧ V.cell? ⟨wo.heap.size, 1, none⟩ = some (.int .i64 f') ∧ V.cell? ⟨wo.heap.size, 2, none⟩ = some (.int .i64 a') ∧ V.cell? ⟨wo.heap.size, 3, none⟩ = some (.string s') ∧ V.cell? ⟨wo.heap.size, 4, none⟩ = some (.slice Ab nb cb) ∧ V.cell? ⟨wo.heap.size, 5, none⟩ = some (.slice Bb mb db)) ∧
          Six6 V g (j * 6) (.int .i64 k') (.int .i64 f') (.int .i64 a') (.string s') (.slice Ab nb cb) (.slice Bb mb db) ∧ Free6 V g (j * 6)) := fun V h => Lib.hid (by
        have hb := hbk.trans (h.out.mono hbk.size)
        have hl6 : ∀ o, (⟨g, o, none⟩ : Addr).block < wo.heap.size := fun o => hlg.2
        exact ⟨(hbox.below hb).cell 5 rfl, (hkid.below h.out).six, ⟨(hb.cell (hl6 _)).trans a0, (hb.cell (hl6 _)).trans a1, (hb.cell (hl6 _)).trans a2, (hb.cell (hl6 _)).trans a3, (hb.cell (hl6 _)).trans a4, (hb.cell (hl6 _)).trans a5⟩,
          (hb.frozen (hl6 _)).trans hfr.1, (hb.frozen (hl6 _)).trans hfr.2.1, (hb.frozen (hl6 _)).trans hfr.2.2.1, (hb.frozen (hl6 _)).trans hfr.2.2.2.1, (hb.frozen (hl6 _)).trans hfr.2.2.2.2.1, (hb.frozen (hl6 _)).trans hfr.2.2.2.2.2⟩)
      have HK0 := Lib.hid (Below.refl wk.heap.size wk)
      obtain ⟨m5, ⟨k0, k1, k2, k3, k4, k5⟩, _, _⟩ := (KC wk HK0).out
      have HU0 := Lib.hid u0; have HU1 := Lib.hid u1; have HU2 := Lib.hid u2; have HTK := Lib.hid hTk; have HBK := Lib.hid hbk; have HGK := Lib.hid (show w4.heap.size ≤ g ∧ g < wo.heap.size from ⟨hG, hlg.2⟩); have HWK := Lib.hid hwk
      have hjm : (j : Int) < (mm : Int) := by omega
      have hg1 : w.heap.size < g := by have := HWS.out; omega
      have hg2 : g < wo.heap.size := hlg.2
      have hn1 : w.heap.size ≠ g := by omega
      have hn2 : wo.heap.size ≠ g := by omega
      clear hrT huj hfr hbox hlg hls hsz hbk hkid hRT hgk u0 u1 u2 hTk hG hp5
      go_upto_region 7 with fail
      rw [← HWK.out]
      clear a0 a1 a2 a3 a4 a5 hwk hbx5
      go_region_held3 (fun w' => w'.cell? ⟨w.heap.size, 5, none⟩ = some (.slice (some ⟨g, 0, none⟩) mm c') ∧ (w'.cell? ⟨wo.heap.size, 0, none⟩ = some (.int .i64 k') ∧ w'.cell? ⟨wo.heap.size, 1, none⟩ = some (.int .i64 f') ∧ w'.cell? ⟨wo.heap.size, 2, none⟩ = some (.int .i64 a') ∧ w'.cell? ⟨wo.heap.size, 3, none⟩ = some (.string s') ∧ w'.cell? ⟨wo.heap.size, 4, none⟩ = some (.slice Ab nb cb) ∧ w'.cell? ⟨wo.heap.size, 5, none⟩ = some (.slice Bb mb db))) (first | go_keep | exact ⟨far6 hn1 e5, far6 hn2 e60, far6 hn2 e61, far6 hn2 e62, far6 hn2 e63, far6 hn2 e64, far6 hn2 e65⟩)
        ((go_at_call 36; refine (PD _ (by first | assumption | exact Lib.hid (Below.drew HK0.out) | exact Lib.hid (HK0.out.drew _))).out.mono ?_; rintro e w8 ⟨A2, n2, c2, B2, m2, d2, rfl, HR8, HK8⟩; obtain ⟨e5, ⟨e60, e61, e62, e63, e64, e65⟩, ⟨t0, t1, t2, t3, t4, t5⟩, ⟨f0, f1, f2, f3, f4, f5⟩⟩ := (KC _ HK8).out))
      have hbw : Below wo.heap.size wo w8 := HBK.out.trans (HK8.out.mono HBK.out.size)
      have hws := HWS.out
      have hat8 : DupAt w k f a s ns ks An na cn (some ⟨g, 0, none⟩) mm c' w4.heap.size (j + 1) (put6 w8 g (j * 6) (.int .i64 k') (.int .i64 f') (.int .i64 a') (.string s') (.slice A2 n2 c2) (.slice B2 m2 d2)) := by
        have hgk := HGK.out
        have hws8 := hbw.size
        have hwk8 := HK8.out.size
        have hwow := HBK.out.size
        have hoth := fun q (hq : q ≠ g) => put6_other w8 g (j * 6) (.int .i64 k') (.int .i64 f') (.int .i64 a') (.string s') (.slice A2 n2 c2) (.slice B2 m2 d2) q hq
        refine ⟨put6_below (HA.out.below.trans (hbw.mono HA.out.below.size)) (by omega) _ _ _ _ _ _ _, (HA.out.box.below hbw).as (hoth _ (by omega)), Six.as (HA.out.out.below hbw) (hoth _ (by omega)), ?_, HA.out.numsAt, .inr ⟨g, rfl, hgk.1, us.set j ⟨.int .i64 k', .int .i64 f', .int .i64 a', .string s', .slice A2 n2 c2, .slice B2 m2 d2⟩, by rw [List.length_set]; exact HU0.out, put6_row ⟨_, _, _, _, _, _⟩ (ownsRow_below HU1.out hbw) (by rw [HU0.out]; exact hlt), fun q u T hu hT => ?_⟩, HA.out.size.1, by rw [put6_size]; have := HA.out.size; omega⟩
        · refine ⟨HA.out.nums.1, fun q hq => ?_⟩
          obtain ⟨ad, e, hl, hc⟩ := HA.out.nums.2 q hq
          have h1 := HA.out.numsAt ad e (by omega)
          refine ⟨ad, e, by rw [put6_size]; omega, cell_as hc ?_⟩
          rw [blk_add]
          exact (hoth _ (by omega)).trans (hbw.block _ hl)
        · by_cases hqj : q = j
          · subst hqj
            rw [List.getElem?_set_self (by rw [HU0.out]; exact hlt)] at hu
            rw [HTK.out] at hT
            injection hu with hu
            injection hT with hT
            subst hu hT
            exact (HR8.out.carry (by rw [put6_size]; exact Nat.le_refl _) (fun b hb => hoth b (by omega))).le fun b hb => .inl ⟨by omega, by omega, by omega⟩
          · rw [List.getElem?_set_ne (by omega)] at hu
            refine (((HU2.out q u T hu hT).below hbw).carry (by rw [put6_size]; exact Nat.le_refl _) (fun b hb => hoth b ?_)).le fun b hb => ?_
            · rcases hb with hb | hb
              · exact hb.2.2
              · omega
            · rcases hb with hb | hb
              · exact .inl ⟨by omega, hb.2⟩
              · exact .inr ⟨by omega, hb.2⟩
      unfold put6 at hat8
      have HN := Lib.hid hat8
      clear hat8 hbw hws e5 e60 e61 e62 e63 e64 e65 t0 t1 t2 t3 t4 t5 f0 f1 f2 f3 f4 f5 m5 k0 k1 k2 k3 k4 k5 hg1 hg2 hn1 hn2
      go_wp2_with fail
      go_roundw
      case rel => exact ⟨j + 1, by omega, by go_num, HN⟩
      case measure => first | (simp [intOf]; done) | (simp [intOf]; omega)
    · clear hp5
      obtain rfl : j = mm := by omega
      obtain ⟨q0, q1, q2, q3, q4, q5⟩ := HA.out.box.six
      have hz6 : Six wo (w.heap.size + 1) (.int .i64 0) (.int .i64 0) (.int .i64 0) (.string ⟨#[]⟩) (.slice none 0 0) (.slice none 0 0) := HA.out.out
      obtain ⟨z0, z1, z2, z3, z4, z5⟩ := hz6.six
      have g0 := hz6.frozen 0; have g1 := hz6.frozen 1; have g2 := hz6.frozen 2; have g3 := hz6.frozen 3; have g4 := hz6.frozen 4; have g5 := hz6.frozen 5
      have HZ6 := Lib.hid hz6
      clear hz6
      have HP := HPC.out
      go_wp2_with fail
      obtain ⟨Z, hZ⟩ : ∃ Z, Z = put6 wo (w.heap.size + 1) 0 (.int .i64 k) (.int .i64 f) (.int .i64 a) (.string s) (.slice An na cn) (.slice P j c') := ⟨_, rfl⟩
      have hZ6 := HZ6.out.all (.int .i64 k) (.int .i64 f) (.int .i64 a) (.string s) (.slice An na cn) (.slice P j c')
      have hoth : ∀ q, q ≠ w.heap.size + 1 → Z.heap[q]? = wo.heap[q]? := fun q hq => by rw [hZ]; exact put6_other _ _ _ _ _ _ _ _ _ q hq
      have hszZ : Z.heap.size = wo.heap.size := by rw [hZ]; exact put6_size _ _ _ _ _ _ _ _ _
      have hbZ : Below w.heap.size w Z := by rw [hZ]; exact put6_below HA.out.below (by omega) _ _ _ _ _ _ _
      have hfin : RdQ (fun b => w.heap.size ≤ b) Z (.node k f a s ns ks) (.agg #[.int .i64 k, .int .i64 f, .int .i64 a, .string s, .slice An na cn, .slice P j c']) := by
        have hws := HWS.out
        refine rdQ_node.2 ⟨An, na, cn, P, j, c', rfl, HII.out.1, HII.out.2.1, HII.out.2.2, HSS.out, ?_, HNC.out, HNL.out, HNN.out, HI.out, HML.out, HP.1, by omega, HP.2.2, fun ad e hn => by have := HA.out.numsAt ad e hn; omega, ?_⟩
        · refine ⟨HA.out.nums.1, fun q hq => ?_⟩
          obtain ⟨ad, e, hl, hc⟩ := HA.out.nums.2 q hq
          have h1 := HA.out.numsAt ad e (by omega)
          refine ⟨ad, e, by omega, cell_as hc ?_⟩
          rw [blk_add]
          exact hoth _ (by omega)
        · rcases HA.out.row with h0 | ⟨g, rfl, hG, us, u0, u1, u2⟩
          · have : ks = [] := List.eq_nil_of_length_eq_zero (by rw [HML.out]; exact h0)
            subst this
            exact rdQL_nil
          · have hlg := World.ownsRow.lt u1 g rfl
            have ha : ∀ q, (⟨g, 0, none⟩ : Addr).add q = ⟨g, q, none⟩ := fun q => by unfold Addr.add; split <;> simp_all
            refine rdQL_of_row (by omega) (by omega) ks us 0 (by rw [u0, HML.out]) (fun q v hv => ?_) (fun q u T hu hT => ?_)
            · have := u1.cells (g := g) rfl q v hv
              rw [ha] at this
              rw [show 0 * 6 + q = q by omega]
              exact cell_as this (hoth g (by omega))
            · have hq : q < j := by rw [← u0]; exact (List.getElem?_eq_some_iff.1 hu).1
              refine ((u2 q u T hu hT).carry (by omega) (fun b hb => hoth b ?_)).le fun b hb => ?_
              · rcases hb with hb | hb
                · omega
                · omega
              · rcases hb with hb | hb
                · omega
                · omega
      obtain ⟨r0, r1, r2, r3, r4, r5⟩ := hZ6.six
      unfold put6 at hZ
      rw [← hZ] at r0 r1 r2 r3 r4 r5 ⊢
      refine bodyPost_ret (v := .agg #[.int .i64 k, .int .i64 f, .int .i64 a, .string s, .slice An na cn, .slice P j c']) (by simp [results, Try.results36, go_sem, r0, r1, r2, r3, r4, r5]) rfl ⟨_, rfl, hfin, hbZ⟩
end Go.Proofs.Ytbcnilkenkmabaa.tr
