/- Package parse: a parser in memory, and its small methods. Package parse: the functions of glyphs, axes. -/
import Derived.Test.YthgojbaindejjaaGreatDoorPsMath
import Derived.Test.YthgojbaindejjaaGreatDoorTokRow
import Derived.Test.YthgojbaindejjaaGreatDoorMem
import Derived.MapKept
import Derived.Carry
import Derived.Laws.EntriesVeiled
import Derived.WalkSmall
import Derived.Deep.RegionHeld
import Derived.RangeFuncRecord
import Derived.Deep.Cut
/- Package parse: a parser in memory, and its small methods. -/
namespace Go.Proofs.YthgojbaindejjaaGreatDoor.ps
open Go.ChangeShapes Go.WideShapes Go.ChangeAt Go.RowKit Go.Proofs.YthgojbaindejjaaGreatDoor.mem Go.Proofs.YthgojbaindejjaaGreatDoor.lx Go.Proofs.YthgojbaindejjaaGreatDoor.tr
set_option linter.unusedVariables false
set_option linter.unusedSimpArgs false

/-! ### What a method turns -/
/-- Of what was there only block b has turned. -/
structure Mv (b : Nat) (V V' : World) : Prop where
  os : V'.os = V.os
  tape : V'.tape = V.tape
  output : V'.output = V.output
  size : V.heap.size ≤ V'.heap.size
  block : ∀ k, k < V.heap.size → k ≠ b → V'.heap[k]? = V.heap[k]?
theorem Mv.refl (b : Nat) (V : World) : Mv b V V := ⟨rfl, rfl, rfl, Nat.le_refl _, fun _ _ _ => rfl⟩
theorem Mv.trans {b : Nat} {U V W : World} (h : Mv b U V) (k : Mv b V W) : Mv b U W :=
  ⟨k.os.trans h.os, k.tape.trans h.tape, k.output.trans h.output, Nat.le_trans h.size k.size, fun i hi hn => (k.block i (Nat.lt_of_lt_of_le hi h.size) hn).trans (h.block i hi hn)⟩
theorem Mv.of_below {b : Nat} {V V' : World} (h : Below V.heap.size V V') : Mv b V V' := ⟨h.os, h.tape, h.output, h.size, fun k hk _ => h.block k hk⟩
/-- .. from a world on: what was made since may turn as well. -/
structure Mvs (b B : Nat) (V V' : World) : Prop where
  os : V'.os = V.os
  tape : V'.tape = V.tape
  output : V'.output = V.output
  size : V.heap.size ≤ V'.heap.size
  block : ∀ k, k < B → k ≠ b → V'.heap[k]? = V.heap[k]?
theorem Mv.cell {b : Nat} {V V' : World} (h : Mv b V V') {g o : Nat} (h1 : g < V.heap.size) (h2 : g ≠ b) : V'.cell? ⟨g, o, none⟩ = V.cell? ⟨g, o, none⟩ := World.cell?_of_block (a := ⟨g, o, none⟩) (h.block g h1 h2)
theorem Mv.frozen {b : Nat} {V V' : World} (h : Mv b V V') {g o : Nat} (h1 : g < V.heap.size) (h2 : g ≠ b) : V'.frozen? ⟨g, o, none⟩ = V.frozen? ⟨g, o, none⟩ := World.frozen?_of_block (a := ⟨g, o, none⟩) (h.block g h1 h2)
theorem Mv.set_own {b B : Nat} {U V : World} (h : Mv b U V) {g j : Nat} (x : Value) (hg : U.heap.size ≤ g ∨ g = b) : Mv b U (V.setCell ⟨g, j, none⟩ x) :=
  ⟨h.os, h.tape, h.output, by have := h.size; simpa [World.setCell] using this, fun k hk hn => (Below.heap_setCell _ _ _ _ (fun e => by
    have e' : k = g := e
    rcases hg with hg | hg <;> omega)).trans (h.block k hk hn)⟩
theorem Mv.alloc {b : Nat} {U V : World} (h : Mv b U V) (o : Obj) : Mv b U (V.alloc o) := h.trans (Mv.of_below ((Below.refl _ _).alloc (Nat.le_refl _) o))

/-! ### The maps of functions -/
def fnV (F : Int) (m : Bool) : Value := .agg #[.int .i64 F, .bool m]
/-- Entries of a map from texts, as they were laid one behind the other. -/
def entL : Nat → List (List UInt8 × Value) → List MapEntry
  | _, [] => []
  | n, (g, v) :: r => { key := .string (txt.strOf g), val := v, born := n } :: entL (n + 1) r
def monL : List (List UInt8 × Value) := [(gRev, fnV 3 true), (gTrn, fnV 4 false), (gCom, fnV 6 false)]
def dyaL : List (List UInt8 × Value) := [(gUp, fnV 1 false), (gDn, fnV 2 false), (gRev, fnV 3 true), (gTrn, fnV 4 false), (gRho, fnV 5 false), (gCom, fnV 6 true)]
def mapL (dya : Bool) : List (List UInt8 × Value) := if dya then dyaL else monL
def fnM (dya : Bool) (t : List UInt8) : Int := if dya then fnT t else mnT t
def mayM (dya : Bool) (F : Int) : Bool := if dya then mayB F else decide (F = 3)

/-- A parser in block b with the tokens L, its maps in m1 and m2. -/
structure At (b m1 m2 : Nat) (w : World) (L : List Tk) : Prop where
  lt : b < w.heap.size
  tok : ∃ A n c, w.cell? ⟨b, 0, none⟩ = some (.slice A n c) ∧ RdK w A n L ∧ n ≤ c ∧ c ≤ maxLen ∧ (∀ ad, A = some ad → ad.block < b) ∧ (A = none → c = 0)
  mon : w.cell? ⟨b, 1, none⟩ = some (.map (some m1))
  dya : w.cell? ⟨b, 2, none⟩ = some (.map (some m2))
  wr : w.frozen? ⟨b, 0, none⟩ = false
  map1 : w.heap[m1]? = some (.map (entL 0 monL).toArray 3)
  map2 : w.heap[m2]? = some (.map (entL 0 dyaL).toArray 6)
  ne1 : m1 < b
  ne2 : m2 < b
  ok : okL L
  len : L.length ≤ 65536
theorem At.below {b m1 m2 : Nat} {w w' : World} {L : List Tk} (h : At b m1 m2 w L) (hb : Below w.heap.size w w') : At b m1 m2 w' L := by
  have l1 := (Array.getElem?_eq_some_iff.1 h.map1).1
  have l2 := (Array.getElem?_eq_some_iff.1 h.map2).1
  obtain ⟨A, n, c, t1, t2, t3⟩ := h.tok
  exact ⟨Nat.lt_of_lt_of_le h.lt hb.size, ⟨A, n, c, (hb.cell (p := ⟨b, 0, none⟩) h.lt).trans t1, t2.below hb, t3⟩, (hb.cell (p := ⟨b, 1, none⟩) h.lt).trans h.mon, (hb.cell (p := ⟨b, 2, none⟩) h.lt).trans h.dya,
    (World.frozen?_of_block (a := ⟨b, 0, none⟩) (hb.block b h.lt)).trans h.wr, (hb.block m1 l1).trans h.map1, (hb.block m2 l2).trans h.map2, h.ne1, h.ne2, h.ok, h.len⟩
/-- A panic that says that a text is not of the grammar. -/
def PCH : List PanicEntry := [{ v := .iface 34 (.int .i64 1), recovered := false }]

theorem fail_any (w : World) : Calls Tryz.prog 43 #[] w fun e w' => e = .panicked PCH ∧ w' = w := by
  go_enter Tryz.func43, Tryz.ntmps43
  go_wp2_with fail
  exact ⟨rfl, rfl, rfl⟩
def tkV (L : List Tk) : Value := .agg #[.int .i64 (hk L), .string (txt.strOf (hd L)), .int .i64 ((L.head?.map Tk.n).getD 0)]
theorem one_box3 {w W : World} {x0 x1 x2 : Value} {t : TypeId} (hW : W = w.alloc (.cells #[x0, x1, x2] t)) :
    Below w.heap.size w W ∧ W.heap.size = w.heap.size + 1 ∧ W.frozen? ⟨w.heap.size, 0, none⟩ = false ∧ ∀ V, Below W.heap.size W V →
      V.cell? ⟨w.heap.size, 0, none⟩ = some x0 ∧ V.cell? ⟨w.heap.size, 1, none⟩ = some x1 ∧ V.cell? ⟨w.heap.size, 2, none⟩ = some x2 := by
  have hs : W.heap.size = w.heap.size + 1 := by rw [hW]; simp
  have l0 : w.heap.size < W.heap.size := by omega
  refine ⟨by rw [hW]; exact (Below.refl _ w).alloc (Nat.le_refl _) _, hs, by rw [hW]; simp, fun V h => ?_⟩
  exact ⟨(h.cell (p := ⟨w.heap.size, 0, none⟩) l0).trans (by rw [hW]; simp), (h.cell (p := ⟨w.heap.size, 1, none⟩) l0).trans (by rw [hW]; simp), (h.cell (p := ⟨w.heap.size, 2, none⟩) l0).trans (by rw [hW]; simp)⟩
theorem rdK_head {w : World} {A : Option Addr} {n : Nat} {t : Tk} {R : List Tk} (h : RdK w A n (t :: R)) : ∃ ad, A = some ad ∧ ad.block < w.heap.size ∧ w.cell? ad = some (.int .i64 t.k) ∧ w.cell? ⟨ad.block, ad.off + 1, none⟩ = some (.string (txt.strOf t.t)) ∧ w.cell? ⟨ad.block, ad.off + 2, none⟩ = some (.int .i64 t.n) ∧ n = R.length + 1 := by
  obtain ⟨ad, e, hl, h1, h2, h3⟩ := h.2 0 t rfl
  refine ⟨ad, e, hl, by simpa [Addr.add] using h1, by simpa [Addr.add] using h2, by simpa [Addr.add] using h3, by have := h.1; simp at this; omega⟩
theorem peek_any {b m1 m2 : Nat} {w : World} {L : List Tk} (h : At b m1 m2 w L) : Calls Tryz.prog 70 #[.pointer (some ⟨b, 0, none⟩)] w fun e w' => e = .returned (tkV L) ∧ Below w.heap.size w w' := by
  have HB := fun x0 x1 x2 => Lib.hid ((Below.refl w.heap.size w).alloc (Nat.le_refl _) (.cells #[x0, x1, x2] 75))
  cases L with
  | nil =>
    obtain ⟨A, n, c, t1, t2, t3⟩ := h.tok
    obtain rfl : n = 0 := t2.1.symm
    have hl := h.lt
    clear h t2 t3
    go_enter Tryz.func70, Tryz.ntmps70
    go_wp2_with fail
    refine bodyPost_ret (v := tkV []) (by simp [results, Tryz.results70, go_sem]; rfl) rfl ⟨rfl, (HB _ _ _).out⟩
  | cons t R =>
    obtain ⟨A, n, c, t1, t2, t3⟩ := h.tok
    obtain ⟨ad, rfl, hl2, c0, c1, c2, hn⟩ := rdK_head t2
    subst hn
    have hl := h.lt
    have hlen := h.len
    simp only [List.length_cons] at hlen
    clear h t2 t3
    go_enter Tryz.func70, Tryz.ntmps70
    go_wp2_with fail
    refine bodyPost_ret (v := tkV (t :: R)) (by simp [results, Tryz.results70, go_sem]; rfl) rfl ⟨rfl, (HB _ _ _).out⟩
theorem at_set {b m1 m2 : Nat} {w : World} {t : Tk} {R : List Tk} (h : At b m1 m2 w (t :: R)) (ad : Addr) (c : Nat) (hA : ad.block < b) (hR : RdK w (some ad) R.length R) (h1 : R.length ≤ c) (h2 : c ≤ maxLen) : At b m1 m2 (w.setCell ⟨b, 0, none⟩ (.slice (some ad) R.length c)) R := by
  obtain ⟨A, n, c0, t1, t2, t3⟩ := h.tok
  refine ⟨by have := h.lt; simpa [World.setCell] using this, ⟨some ad, R.length, c, World.cell?_setCell_same _ _ _ t1, ⟨rfl, fun k x hk => ?_⟩, h1, h2, (fun a e => by injection e with e; subst e; exact hA), fun e => by cases e⟩, ?_, ?_, ?_, ?_, ?_, h.ne1, h.ne2, h.ok.cons.2, by have := h.len; simp at this; omega⟩
  · obtain ⟨a, e, hl, c1, c2, c3⟩ := hR.2 k x hk
    injection e with e
    subst e
    have hb : ∀ j, b ≠ (ad.add j).block := fun j => by rw [blk_add]; omega
    exact ⟨ad, rfl, by simpa [World.setCell] using hl, (World.cell?_setCell_far _ _ _ _ (hb _)).trans c1, (World.cell?_setCell_far _ _ _ _ (hb _)).trans c2, (World.cell?_setCell_far _ _ _ _ (hb _)).trans c3⟩
  · exact (World.cell?_setCell_other (a := ⟨b, 0, none⟩) _ _ _ (by simp)).trans h.mon
  · exact (World.cell?_setCell_other (a := ⟨b, 0, none⟩) _ _ _ (by simp)).trans h.dya
  · rw [World.frozen?_setCell]; exact h.wr
  · exact (Below.heap_setCell _ _ _ _ (Nat.ne_of_lt h.ne1)).trans h.map1
  · exact (Below.heap_setCell _ _ _ _ (Nat.ne_of_lt h.ne2)).trans h.map2
/-- A store into another block than the parser's, the tokens' and the maps' .. here: into a block that lies behind the parser's. -/
theorem At.set_far {b m1 m2 : Nat} {w : World} {L : List Tk} (h : At b m1 m2 w L) {g j : Nat} (hg : b < g) (x : Value) : At b m1 m2 (w.setCell ⟨g, j, none⟩ x) L := by
  obtain ⟨A, n, c, t1, t2, t3, t4, t5, t6⟩ := h.tok
  have far : ∀ a : Addr, a.block < g → (w.setCell ⟨g, j, none⟩ x).cell? a = w.cell? a := fun a ha => World.cell?_setCell_far _ _ _ _ (show g ≠ a.block by omega)
  refine ⟨by have := h.lt; simpa [World.setCell] using this, ⟨A, n, c, (far _ hg).trans t1, ⟨t2.1, fun k y hk => ?_⟩, t3, t4, t5, t6⟩, (far _ hg).trans h.mon, (far _ hg).trans h.dya, (World.frozen?_setCell _ _ _ _).trans h.wr, (Below.heap_setCell _ _ _ _ (show m1 ≠ g by have := h.ne1; omega)).trans h.map1, (Below.heap_setCell _ _ _ _ (show m2 ≠ g by have := h.ne2; omega)).trans h.map2, h.ne1, h.ne2, h.ok, h.len⟩
  obtain ⟨a, e, hl, c1, c2, c3⟩ := t2.2 k y hk
  have hb : ∀ i, (a.add i).block < g := fun i => by rw [blk_add]; have := t5 a e; omega
  exact ⟨a, e, by simpa [World.setCell] using hl, (far _ (hb _)).trans c1, (far _ (hb _)).trans c2, (far _ (hb _)).trans c3⟩
/-- A store into a block in front of all that a parser lies on. -/
theorem At.set_low {b m1 m2 lo : Nat} {w : World} {L : List Tk} (h : At b m1 m2 w L) (hl : ∃ A n c, w.cell? ⟨b, 0, none⟩ = some (.slice A n c) ∧ ∀ ad, A = some ad → lo ≤ ad.block) (h1 : lo ≤ m1) (h2 : lo ≤ m2) {g j : Nat} (hg : g < lo) (x : Value) : At b m1 m2 (w.setCell ⟨g, j, none⟩ x) L := by
  obtain ⟨A, n, c, t1, t2, t3, t4, t5, t6⟩ := h.tok
  obtain ⟨A', n', c', x1, x2⟩ := hl
  rw [t1] at x1
  injection x1 with x1
  injection x1 with x1
  subst x1
  have far : ∀ a : Addr, lo ≤ a.block → (w.setCell ⟨g, j, none⟩ x).cell? a = w.cell? a := fun a ha => World.cell?_setCell_far _ _ _ _ (show g ≠ a.block by omega)
  have hb : lo ≤ b := by have := h.ne1; omega
  refine ⟨by have := h.lt; simpa [World.setCell] using this, ⟨A, n, c, (far _ hb).trans t1, ⟨t2.1, fun k y hk => ?_⟩, t3, t4, t5, t6⟩, (far _ hb).trans h.mon, (far _ hb).trans h.dya, (World.frozen?_setCell _ _ _ _).trans h.wr, (Below.heap_setCell _ _ _ _ (show m1 ≠ g by omega)).trans h.map1, (Below.heap_setCell _ _ _ _ (show m2 ≠ g by omega)).trans h.map2, h.ne1, h.ne2, h.ok, h.len⟩
  obtain ⟨a, e, hl, c1, c2, c3⟩ := t2.2 k y hk
  have hbb : ∀ i, lo ≤ (a.add i).block := fun i => by rw [blk_add]; exact x2 a e
  exact ⟨a, e, by simpa [World.setCell] using hl, (far _ (hbb _)).trans c1, (far _ (hbb _)).trans c2, (far _ (hbb _)).trans c3⟩
theorem rdK_tail {w : World} {ad : Addr} {n : Nat} {t : Tk} {R : List Tk} (h : RdK w (some ad) n (t :: R)) : RdK w (some ⟨ad.block, ad.off + 3, none⟩) R.length R := by
  refine ⟨rfl, fun k x hk => ?_⟩
  obtain ⟨ad', e, hl, h1, h2, h3⟩ := h.2 (k + 1) x (by simpa using hk)
  obtain rfl := Option.some.inj e
  have ea : (⟨ad.block, ad.off + 3, none⟩ : Addr) = ad.add 3 := by unfold Addr.add; simp
  refine ⟨_, rfl, hl, ?_, ?_, ?_⟩ <;> rw [ea, adr_add]
  · rw [show 3 + k * 3 = (k + 1) * 3 by omega]; exact h1
  · rw [show 3 + (k * 3 + 1) = (k + 1) * 3 + 1 by omega]; exact h2
  · rw [show 3 + (k * 3 + 2) = (k + 1) * 3 + 2 by omega]; exact h3
/-- The tokens lie in a block from lo on. -/
def LowT (lo b : Nat) (w : World) : Prop := ∃ A n c, w.cell? ⟨b, 0, none⟩ = some (.slice A n c) ∧ ∀ ad, A = some ad → lo ≤ ad.block
set_option maxHeartbeats 1000000 in
theorem next_low {b m1 m2 : Nat} {w : World} {t : Tk} {R : List Tk} (h : At b m1 m2 w (t :: R)) : Calls Tryz.prog 44 #[.pointer (some ⟨b, 0, none⟩)] w fun e w' => (e = .returned (tkV (t :: R)) ∧ Mv b w w' ∧ At b m1 m2 w' R) ∧ ∀ lo, LowT lo b w → LowT lo b w' := by
  obtain ⟨A, n, c, t1, t2, t3, t4, t5, _⟩ := h.tok
  obtain ⟨ad, rfl, hl2, c0, c1, c2, hn⟩ := rdK_head t2
  subst hn
  have hl := h.lt
  have hlen := h.len
  have hwr := h.wr
  simp only [List.length_cons] at hlen
  have HE : Hid (∀ (ad' : Addr) (c' : Nat), ad'.block = ad.block → ad'.block < b → RdK w (some ad') R.length R → R.length ≤ c' → c' ≤ maxLen → ∀ o1 o2, Mv b w (((w.setCell ⟨b, 0, none⟩ (.slice (some ad') R.length c')).alloc o1).alloc o2) ∧ At b m1 m2 (((w.setCell ⟨b, 0, none⟩ (.slice (some ad') R.length c')).alloc o1).alloc o2) R ∧ ∀ lo, LowT lo b w → LowT lo b (((w.setCell ⟨b, 0, none⟩ (.slice (some ad') R.length c')).alloc o1).alloc o2)) :=
    Lib.hid fun ad' c' g0 g1 g2 g3 g4 o1 o2 => ⟨(((Mv.refl b w).set_own (B := 0) _ (.inr rfl)).alloc _).alloc _, (at_set h ad' c' g1 g2 g3 g4).below (Joins.below_alloc2 _ _ _), fun lo ⟨A0, n0, c0, x1, x2⟩ => ⟨some ad', R.length, c', ((Joins.below_alloc2 _ _ _).cell (p := ⟨b, 0, none⟩) (by simpa [World.setCell] using h.lt)).trans (World.cell?_setCell_same _ _ _ t1), fun a e => by
      injection e with e
      subst e
      rw [t1] at x1
      injection x1 with x1
      injection x1 with x1
      rw [g0]
      exact x2 ad x1.symm⟩⟩
  have HT := Lib.hid (rdK_tail t2)
  have HA := Lib.hid (t5 ad rfl)
  have HC := Lib.hid t4
  have HN : Hid (c = 1 → R = []) := Lib.hid fun e => List.eq_nil_of_length_eq_zero (by omega)
  by_cases hc : c = 1
  · subst hc
    obtain rfl := HN.out rfl
    clear h t2 t3 t4 t5
    go_enter Tryz.func44, Tryz.ntmps44
    go_wp2_with fail
    refine bodyPost_ret (v := tkV [t]) (by simp [results, Tryz.results44, go_sem]; rfl) rfl (let q := HE.out ad 0 rfl HA.out (rdK_nil _ _) (Nat.le_refl _) (by unfold maxLen; omega) _ _; ⟨⟨rfl, q.1, q.2.1⟩, q.2.2⟩)
  · clear h t2 t4 t5
    go_enter Tryz.func44, Tryz.ntmps44
    go_wp2_with fail
    refine bodyPost_ret (v := tkV (t :: R)) (by simp [results, Tryz.results44, go_sem]; rfl) rfl (let q := HE.out ⟨ad.block, ad.off + 3, none⟩ (c - 1) rfl HA.out HT.out (by omega) (by have := HC.out; omega) _ _; ⟨⟨rfl, q.1, q.2.1⟩, q.2.2⟩)

theorem next_any {b m1 m2 : Nat} {w : World} {t : Tk} {R : List Tk} (h : At b m1 m2 w (t :: R)) : Calls Tryz.prog 44 #[.pointer (some ⟨b, 0, none⟩)] w fun e w' => e = .returned (tkV (t :: R)) ∧ Mv b w w' ∧ At b m1 m2 w' R :=
  (next_low h).mono fun _ _ h => h.1

/-! ### accept, number, expect -/
theorem at_mv_lt {b : Nat} {V V' : World} (h : Mv b V V') {k : Nat} (hk : k < V.heap.size) : k < V'.heap.size := Nat.lt_of_lt_of_le hk h.size
theorem str_is (a b : List UInt8) : ((txt.strOf a).toList == (txt.strOf b).toList) = decide (a = b) := by
  have e : ∀ l : List UInt8, (txt.strOf l).toList = l := fun l => by rw [Lib.toList_data]; simp [txt.strOf]
  rw [e, e]
  by_cases h : a = b
  · subst h; simp
  · simp [h]
theorem tk_kind (x0 x1 x2 : Value) (w : World) : (Instr.field 75 (.agg #[x0, x1, x2]) 0).run Tryz.prog w = .ok x0 w := by kernel_rfl
theorem tk_text (x0 x1 x2 : Value) (w : World) : (Instr.field 75 (.agg #[x0, x1, x2]) 1).run Tryz.prog w = .ok x1 w := by kernel_rfl
theorem tk_num (x0 x1 x2 : Value) (w : World) : (Instr.field 75 (.agg #[x0, x1, x2]) 2).run Tryz.prog w = .ok x2 w := by kernel_rfl
attribute [local go_sem] tk_kind tk_text tk_num
set_option maxHeartbeats 1000000 in
theorem accept_any {b m1 m2 : Nat} {w : World} {L : List Tk} (g : List UInt8) (hg : g ≠ []) (h : At b m1 m2 w L) : Calls Tryz.prog 71 #[.pointer (some ⟨b, 0, none⟩), .string (txt.strOf g)] w fun e w' => e = .returned (.bool (decide (hd L = g))) ∧ Mv b w w' ∧ At b m1 m2 w' (if hd L = g then L.tail else L) := by
  have P := Lib.hid (peek_any h)
  have HA := Lib.hid h
  have PN := Lib.hid (fun V t R (h : At b m1 m2 V (t :: R)) => next_any h)
  unfold tkV at P PN
  clear h
  by_cases hc : hd L = g
  · obtain ⟨t, R, rfl, ht⟩ := hd_some hg hc
    rw [if_pos hc]
    have hs : (((txt.strOf (hd (t :: R))).toList == (txt.strOf g).toList) = true) := by rw [str_is]; exact decide_eq_true hc
    have hd' : decide (hd (t :: R) = g) = true := decide_eq_true hc
    rw [hd']
    have PN := Lib.hid (fun V h => PN.out V t R h)
    generalize hk (t :: R) = kk, hd (t :: R) = tt, ((t :: R).head?.map Tk.n).getD 0 = nn at *
    clear hc hd' ht hg
    go_enter Tryz.func71, Tryz.ntmps71
    go_wp2_with fail
    refine P.out.mono ?_
    rintro e w1 ⟨rfl, hb⟩
    have HB := Lib.hid hb
    have PN1 := Lib.hid (PN.out w1 (HA.out.below hb))
    clear hb
    go_wp2_with fail
    refine PN1.out.mono ?_
    rintro e w2 ⟨rfl, hm, ha⟩
    have HM := Lib.hid ((Mv.of_below (b := b) HB.out).trans hm)
    have HA2 := Lib.hid ha
    clear hm ha
    go_wp2_with fail
    go_ret
    exact ⟨rfl, HM.out, HA2.out⟩
  · rw [if_neg hc]
    have hd' : decide (hd L = g) = false := decide_eq_false hc
    have hs : (((txt.strOf (hd L)).toList == (txt.strOf g).toList) = false) := by rw [str_is]; exact hd'
    rw [hd']
    generalize hk L = kk, hd L = tt, (L.head?.map Tk.n).getD 0 = nn at *
    clear hc hd' hg PN
    go_enter Tryz.func71, Tryz.ntmps71
    go_wp2_with fail
    refine P.out.mono ?_
    rintro e w1 ⟨rfl, hb⟩
    have HB := Lib.hid hb
    clear hb
    go_wp2_with fail
    go_ret
    exact ⟨rfl, Mv.of_below HB.out, HA.out.below HB.out⟩
/-- A method's answer: what it answers where it finds something, and its panic where not. -/
def Ans (b m1 m2 : Nat) (w : World) (r : Option (Value × List Tk)) (e : Ending) (w' : World) : Prop := Mv b w w' ∧ match r with
  | none => e = .panicked PCH
  | some (v, R) => e = .returned v ∧ At b m1 m2 w' R
set_option maxHeartbeats 1000000 in
theorem number_any {b m1 m2 : Nat} {w : World} {L : List Tk} (h : At b m1 m2 w L) : Calls Tryz.prog 72 #[.pointer (some ⟨b, 0, none⟩)] w (Ans b m1 m2 w ((dNum L).map fun p => (.int .i64 p.1, p.2))) := by
  have P := Lib.hid (peek_any h)
  have HA := Lib.hid h
  have PN := Lib.hid (fun V t R (h : At b m1 m2 V (t :: R)) => next_any h)
  have PF := Lib.hid fail_any
  unfold tkV at P PN
  clear h
  by_cases hc : hk L = 2
  · obtain ⟨t, R, rfl, ht⟩ := hk_some (by decide) hc
    have e1 : dNum (t :: R) = some (t.n, R) := by unfold dNum; simp only []; rw [if_pos ht]
    rw [e1]
    have e2 : ((t :: R).head?.map Tk.n).getD 0 = t.n := rfl
    have PN := Lib.hid (fun V h => PN.out V t R h)
    rw [e2] at PN
    have hs : (hk (t :: R) != 2) = false := by rw [hc]; rfl
    generalize hk (t :: R) = kk, hd (t :: R) = tt, ((t :: R).head?.map Tk.n).getD 0 = nn at *
    clear hc ht e1 e2
    go_enter Tryz.func72, Tryz.ntmps72
    go_wp2_with fail
    refine P.out.mono ?_
    rintro e w1 ⟨rfl, hb⟩
    have HB := Lib.hid hb
    have PN1 := Lib.hid (PN.out w1 (HA.out.below hb))
    clear hb
    go_wp2_with fail
    refine PN1.out.mono ?_
    rintro e w2 ⟨rfl, hm, ha⟩
    have HM := Lib.hid ((Mv.of_below (b := b) HB.out).trans hm)
    have HA2 := Lib.hid ha
    clear hm ha
    go_wp2_with fail
    go_ret
    exact ⟨HM.out, rfl, HA2.out⟩
  · have e1 : dNum L = none := by
      cases L with
      | nil => rfl
      | cons t R => unfold dNum; simp only []; rw [if_neg (show ¬ t.k = 2 from hc)]
    rw [e1]
    have hs : (hk L != 2) = true := by simpa using hc
    have hs2 : (hk L == 2) = false := by simpa using hc
    generalize hk L = kk, hd L = tt, (L.head?.map Tk.n).getD 0 = nn at *
    clear hc e1 PN
    go_enter Tryz.func72, Tryz.ntmps72
    go_wp2_with fail
    refine P.out.mono ?_
    rintro e w1 ⟨rfl, hb⟩
    have HB := Lib.hid hb
    clear hb
    go_wp2_with fail
    refine (PF.out _).mono ?_
    rintro e w2 ⟨rfl, rfl⟩
    exact ⟨rfl, Mv.of_below HB.out, rfl⟩
set_option maxHeartbeats 1000000 in
theorem expect_any {b m1 m2 : Nat} {w : World} {L : List Tk} (g : List UInt8) (hg : g ≠ []) (h : At b m1 m2 w L) : Calls Tryz.prog 73 #[.pointer (some ⟨b, 0, none⟩), .string (txt.strOf g)] w
    (Ans b m1 m2 w (if hd L = g then some (.tuple #[], L.tail) else none)) := by
  have P := Lib.hid (accept_any g hg h)
  have PF := Lib.hid fail_any
  clear h
  by_cases hc : hd L = g
  · rw [if_pos hc]
    rw [decide_eq_true hc, if_pos hc] at P
    clear hc
    go_enter Tryz.func73, Tryz.ntmps73
    go_wp2_with fail
    refine P.out.mono ?_
    rintro e w1 ⟨rfl, hm, ha⟩
    have HM := Lib.hid hm
    have HA2 := Lib.hid ha
    clear hm ha
    go_wp2_with fail
    go_end0
    exact ⟨HM.out, rfl, HA2.out⟩
  · rw [if_neg hc]
    rw [decide_eq_false hc, if_neg hc] at P
    clear hc
    go_enter Tryz.func73, Tryz.ntmps73
    go_wp2_with fail
    refine P.out.mono ?_
    rintro e w1 ⟨rfl, hm, ha⟩
    have HM := Lib.hid hm
    clear hm ha
    go_wp2_with fail
    refine (PF.out _).mono ?_
    rintro e w2 ⟨rfl, rfl⟩
    exact ⟨rfl, HM.out, rfl⟩
end Go.Proofs.YthgojbaindejjaaGreatDoor.ps

/- Package parse: the functions of glyphs, axes. -/
namespace Go.Proofs.YthgojbaindejjaaGreatDoor.ps
open Go.ChangeShapes Go.WideShapes Go.ChangeAt Go.RowKit Go.Proofs.YthgojbaindejjaaGreatDoor.mem Go.Proofs.YthgojbaindejjaaGreatDoor.lx Go.Proofs.YthgojbaindejjaaGreatDoor.tr
set_option linter.unusedVariables false
set_option linter.unusedSimpArgs false

/-! ### Maps from texts -/
def seekL (t : List UInt8) : List (List UInt8 × Value) → Option Value
  | [] => none
  | (g, v) :: r => if t = g then some v else seekL t r
theorem strOf_ne {a b : List UInt8} (h : a ≠ b) : (txt.strOf a == txt.strOf b) = false := by
  cases h9 : (txt.strOf a == txt.strOf b)
  · rfl
  · have := (MapKept.bytes_beq _ _).1 h9
    have := congrArg (fun s : ByteArray => s.data.toList) this
    exact absurd (by simpa [txt.strOf] using this) h
theorem findNow_text (t : List UInt8) : ∀ (l : List (List UInt8 × Value)) (n i : Nat), match seekL t l with
    | some v => ∃ j, Instr.findNow .string (.string (txt.strOf t)) (entL n l) i = some (some (j, v))
    | none => Instr.findNow .string (.string (txt.strOf t)) (entL n l) i = some none
  | [], _, _ => rfl
  | (g, v) :: r, n, i => by
    have ih := findNow_text t r (n + 1) (i + 1)
    unfold seekL entL Instr.findNow
    simp only [Instr.sameNow]
    by_cases h : t = g
    · subst h
      have hb : (txt.strOf t == txt.strOf t) = true := (MapKept.bytes_beq _ _).2 rfl
      simp [hb]
    · simp only [h, strOf_ne h, ↓reduceIte]
      exact ih
theorem run_lookup_text {t kt et : TypeId} {w : World} {b clock : Nat} {l : List (List UInt8 × Value)} {z : Value} (hm : Tryz.prog.underlying t = some (.map kt et)) (hd : Tryz.prog.underlying kt = some .string) (hb : w.heap[b]? = some (.map (entL 0 l).toArray clock))
    (hz : (zeroValue et).run Tryz.prog w = .ok z w) (k : List UInt8) :
    (Instr.lookup t (.map (some b)) (.string (txt.strOf k)) true).run Tryz.prog w = .ok (match seekL k l with | some v => .tuple #[v, .bool true] | none => .tuple #[z, .bool false]) w := by
  have h := findNow_text k l 0 0
  have hk : MapKept.IsKey .string (.string (txt.strOf k)) := trivial
  cases he : seekL k l with
  | none =>
    rw [he] at h
    simp [Instr.lookup, run_underlying hm, MapKept.run_getObj_map hb, MapKept.run_checkKey hd hk, MapKept.run_findKey hd h, hz, Result.andThen]
  | some v =>
    rw [he] at h
    obtain ⟨j, h⟩ := h
    simp [Instr.lookup, run_underlying hm, MapKept.run_getObj_map hb, MapKept.run_checkKey hd hk, MapKept.run_findKey hd h, Result.andThen]
theorem entL_push : ∀ (l : List (List UInt8 × Value)) (n : Nat) (g : List UInt8) (v : Value), entL n (l ++ [(g, v)]) = entL n l ++ [{ key := .string (txt.strOf g), val := v, born := n + l.length }]
  | [], n, g, v => rfl
  | (x, y) :: r, n, g, v => by
    simp only [List.cons_append, entL, entL_push r (n + 1) g v, List.length_cons]
    rw [show n + 1 + r.length = n + (r.length + 1) by omega]
theorem run_insert_text {t kt et : TypeId} {w : World} {b : Nat} {l : List (List UInt8 × Value)} (hm : Tryz.prog.underlying t = some (.map kt et)) (hd : Tryz.prog.underlying kt = some .string) (hb : w.heap[b]? = some (.map (entL 0 l).toArray l.length))
    (k : List UInt8) (v : Value) (hne : seekL k l = none) :
    (Instr.mapUpdate t (.map (some b)) (.string (txt.strOf k)) v).run Tryz.prog w = .ok () (w.putObj b (.map (entL 0 (l ++ [(k, v)])).toArray (l.length + 1))) := by
  have h := findNow_text k l 0 0
  have hk : MapKept.IsKey .string (.string (txt.strOf k)) := trivial
  rw [hne] at h
  have e : (entL 0 (l ++ [(k, v)])).toArray = (entL 0 l).toArray.push { key := .string (txt.strOf k), val := v, born := l.length } := by rw [entL_push, Nat.zero_add]; simp
  rw [e]
  simp [Instr.mapUpdate, run_underlying hm, MapKept.run_getObj_map hb, MapKept.run_checkKey hd hk, MapKept.run_findKey hd h, MapKept.run_setObj_map _ hb, Result.andThen]
  rfl
theorem wpList_makeMapT {w : World} {ops : Array Oper} {rest : List Oper} {o : Oper} {a : Act} {Q : Exit → Act → World → Prop} (hgd : o.guard = none) (t : TypeId) (hop : o.op = Op.makeMap t none)
    (h : ∀ w', w'.heap[w.heap.size]? = some (.map (entL 0 []).toArray 0) → Below w.heap.size w w' → w'.heap.size = w.heap.size + 1 → wpList Tryz.prog ops Q rest (a.put o.dst (.map (some w.heap.size))) w') : wpList Tryz.prog ops Q (o :: rest) a w := by
  refine wpList_plain hgd fun K hK => ?_
  unfold Oper.wp
  simp [execOp, hop, run_makeMap, Result.andThen]
  exact hK _ _ (h _ (World.alloc_heap_new w _) ((Below.refl _ _).alloc (Nat.le_refl _) _) (by simp))
theorem wpList_insertT {B : Nat} {W w : World} {ops : Array Oper} {rest : List Oper} {o : Oper} {a : Act} {Q : Exit → Act → World → Prop} (hgd : o.guard = none) (m x v : Operand) (t : TypeId) (hop : o.op = Op.insert t m x v)
    {kt et : TypeId} (hm : Tryz.prog.underlying t = some (.map kt et)) (hd : Tryz.prog.underlying kt = some .string) {b : Nat} {l : List (List UInt8 × Value)} (hmv : a.eval m = .map (some b)) (hb : w.heap[b]? = some (.map (entL 0 l).toArray l.length))
    (k : List UInt8) (hx : a.eval x = .string (txt.strOf k)) (u : Value) (hv : a.eval v = u) (hne : seekL k l = none) (hB : B ≤ b) (hW : Below B W w)
    (h : ∀ w', w'.heap[b]? = some (.map (entL 0 (l ++ [(k, u)])).toArray (l.length + 1)) → Below B W w' → w'.heap.size = w.heap.size → (∀ q, q ≠ b → w'.heap[q]? = w.heap[q]?) → wpList Tryz.prog ops Q rest (a.put o.dst undef) w') :
    wpList Tryz.prog ops Q (o :: rest) a w := by
  have hrun := run_insert_text hm hd hb k u hne
  have hlt := (Array.getElem?_eq_some_iff.1 hb).1
  refine wpList_plain hgd fun K hK => ?_
  unfold Oper.wp
  simp [execOp, hop, hmv, hx, hv, hrun, Result.andThen]
  exact hK _ _ (h _ (World.putObj_heap_same hlt) ⟨hW.os, hW.tape, hW.output, by simpa using hW.size, fun q hq => (World.putObj_heap_other (by omega)).trans (hW.block q hq)⟩ (by simp) (fun q hq => World.putObj_heap_other hq))

/-! ### The functions of glyphs -/
theorem seek_map (dya : Bool) (t : List UInt8) : (match seekL t (mapL dya) with | some v => Value.tuple #[v, .bool true] | none => .tuple #[fnV 0 false, .bool false]) = .tuple #[fnV (fnM dya t) (mayM dya (fnM dya t)), .bool (decide (fnM dya t ≠ 0))] := by
  rcases fnT_cases t with ⟨h, h1, h2, h3, h4, h5, h6⟩ | ⟨_, rfl⟩ | ⟨_, rfl⟩ | ⟨_, rfl⟩ | ⟨_, rfl⟩ | ⟨_, rfl⟩ | ⟨_, rfl⟩
  · have e : fnM dya t = 0 := by
      cases dya
      · show mnT t = 0
        unfold mnT; rw [if_neg h3, if_neg h4, if_neg h6]
      · exact h
    have e2 : seekL t (mapL dya) = none := by cases dya <;> simp [mapL, monL, dyaL, seekL, h1, h2, h3, h4, h5, h6]
    rw [e, e2]
    cases dya <;> rfl
  all_goals cases dya <;> rfl
theorem fn_zero (w : World) : (zeroValue 91).run Tryz.prog w = .ok (fnV 0 false) w := by kernel_rfl
theorem lookup_fn (dya : Bool) {w : World} {m n : Nat} (h : w.heap[m]? = some (.map (entL 0 (mapL dya)).toArray n)) (k : List UInt8) :
    (Instr.lookup 71 (.map (some m)) (.string (txt.strOf k)) true).run Tryz.prog w = .ok (.tuple #[.agg #[.int .i64 (fnM dya k), .bool (mayM dya (fnM dya k))], .bool (decide (fnM dya k ≠ 0))]) w := by
  rw [run_lookup_text Tryz.underlying71 Tryz.underlying9 h (fn_zero w) k, seek_map]
  rfl
attribute [local go_sem] tk_kind tk_text tk_num
def mapN (dya : Bool) : Nat := if dya then 6 else 3
theorem At.map {b m1 m2 : Nat} {w : World} {L : List Tk} (h : At b m1 m2 w L) (dya : Bool) : w.heap[if dya then m2 else m1]? = some (.map (entL 0 (mapL dya)).toArray (mapN dya)) := by
  cases dya
  · exact h.map1
  · exact h.map2
theorem fnM_gls {dya : Bool} {t : List UInt8} (h : fnM dya t ≠ 0) : t ≠ [] := by
  rintro rfl
  cases dya <;> exact h (by decide)
theorem two_cells {w V : World} {x0 x1 : Value} {t : TypeId} (hV : V = w.alloc (.cells #[x0, x1] t)) : V.cell? ⟨w.heap.size, 0, none⟩ = some x0 ∧ V.cell? ⟨w.heap.size, 1, none⟩ = some x1 ∧ V.frozen? ⟨w.heap.size, 0, none⟩ = false ∧ V.frozen? ⟨w.heap.size, 1, none⟩ = false ∧ V.heap.size = w.heap.size + 1 ∧ Below w.heap.size w V := by
  subst hV
  exact ⟨by simp, by simp, by simp, by simp, by simp, Joins.below_alloc1 _ _⟩
set_option maxHeartbeats 2000000 in
set_option maxRecDepth 20000 in
theorem function_any {b m1 m2 : Nat} {w : World} {L : List Tk} (dya : Bool) (h : At b m1 m2 w L) :
    Calls Tryz.prog 54 #[.pointer (some ⟨b, 0, none⟩), .map (some (if dya then m2 else m1))] w fun e w' => e = .returned (.tuple #[.agg #[.int .i64 (fnM dya (hd L)), .bool (mayM dya (fnM dya (hd L)))], .bool (decide (fnM dya (hd L) ≠ 0))]) ∧ Mv b w w' ∧ At b m1 m2 w' (if fnM dya (hd L) ≠ 0 then L.tail else L) := by
  have P := Lib.hid (fun V (h : At b m1 m2 V L) => peek_any h)
  have HA := Lib.hid h
  have HL := Lib.hid (fun V (h : At b m1 m2 V L) => lookup_fn dya (h.map dya) (hd L))
  have PN := Lib.hid (fun V t R (h : At b m1 m2 V (t :: R)) => next_any h)
  unfold tkV at P PN
  obtain ⟨F, hF⟩ : ∃ F, F = fnM dya (hd L) := ⟨_, rfl⟩
  rw [← hF] at HL ⊢
  obtain ⟨mm, hmm⟩ : ∃ mm, mm = mayM dya F := ⟨_, rfl⟩
  obtain ⟨m, hm⟩ : ∃ m, m = if dya then m2 else m1 := ⟨_, rfl⟩
  rw [← hmm, ← hm] at HL ⊢
  clear hmm hm
  obtain ⟨W, hW⟩ : ∃ W, W = w.alloc (.cells #[.int .i64 0, .bool false] 91) := ⟨_, rfl⟩
  obtain ⟨c0, c1, f0, f1, hsz, hbW⟩ := two_cells hW
  have HAW := Lib.hid (HA.out.below hbW)
  have HBW := Lib.hid hbW
  have HSZ := Lib.hid hsz
  have HLT := Lib.hid h.lt
  have HNE := Lib.hid (show w.heap.size ≠ b from fun e => by have := HA.out.lt; omega)
  have HC := Lib.hid (And.intro c0 (And.intro c1 (And.intro f0 f1)))
  have PW := Lib.hid (P.out W HAW.out)
  have HW := Lib.hid hW
  clear h hW c0 c1 f0 f1 hsz hbW P
  by_cases hc : F = 0
  · rw [if_neg (by simpa using hc)]
    have hd' : decide (F ≠ 0) = false := by simpa using hc
    rw [hd'] at HL ⊢
    generalize hk L = kk, hd L = tt, (L.head?.map Tk.n).getD 0 = nn at *
    clear hc hd' PN hF
    go_enter Tryz.func54, Tryz.ntmps54
    go_upto_region 1 with fail
    rw [← HW.out]
    go_wp2_with fail
    refine PW.out.mono ?_
    rintro e w1 ⟨rfl, hb⟩
    have HB := Lib.hid hb
    have hlk := HL.out w1 (HAW.out.below hb)
    have hlt := HSZ.out
    have k0 := (hb.cell (p := ⟨w.heap.size, 0, none⟩) (show w.heap.size < W.heap.size by omega)).trans HC.out.1
    have k1 := (hb.cell (p := ⟨w.heap.size, 1, none⟩) (show w.heap.size < W.heap.size by omega)).trans HC.out.2.1
    have j0 := (hb.frozen (p := ⟨w.heap.size, 0, none⟩) (show w.heap.size < W.heap.size by omega)).trans HC.out.2.2.1
    have j1 := (hb.frozen (p := ⟨w.heap.size, 1, none⟩) (show w.heap.size < W.heap.size by omega)).trans HC.out.2.2.2
    have hq : w.heap.size < w1.heap.size := by have := hb.size; omega
    have HQ := Lib.hid (show ∀ o, Below w.heap.size w (w1.alloc o) from fun o => (HBW.out.trans (hb.mono HBW.out.size)).alloc (by omega) o)
    have hz0 : (w1.alloc (.cells #[.int .i64 F, .bool mm] 91)).cell? ⟨w.heap.size, 0, none⟩ = some (.int .i64 0) := (World.cell?_alloc_lt _ _ _ hq).trans k0
    have hz1 : (w1.alloc (.cells #[.int .i64 F, .bool mm] 91)).cell? ⟨w.heap.size, 1, none⟩ = some (.bool false) := (World.cell?_alloc_lt _ _ _ hq).trans k1
    have hy0 : (w1.alloc (.cells #[.int .i64 F, .bool mm] 91)).frozen? ⟨w.heap.size, 0, none⟩ = false := ((Joins.below_alloc1 w1 _).frozen (p := ⟨w.heap.size, 0, none⟩) hq).trans j0
    have hy1 : (w1.alloc (.cells #[.int .i64 F, .bool mm] 91)).frozen? ⟨w.heap.size, 1, none⟩ = false := ((Joins.below_alloc1 w1 _).frozen (p := ⟨w.heap.size, 1, none⟩) hq).trans j1
    clear hb hlt hq k0 k1 j0 j1
    go_wp2_with fail
    refine bodyPost_ret (v := .tuple #[.agg #[.int .i64 F, .bool mm], .bool false]) (by simp [results, Tryz.results54, go_sem, hz0, hz1]) rfl ⟨rfl, ?_⟩
    have hbb := ((HQ.out (.cells #[.int .i64 F, .bool mm] 91)).setCell (p := ⟨w.heap.size, 0, none⟩) (Nat.le_refl _) (.int .i64 F)).setCell (p := ⟨w.heap.size, 1, none⟩) (Nat.le_refl _) (.bool mm)
    exact ⟨Mv.of_below hbb, HA.out.below hbb⟩
  · rw [if_pos (by simpa using hc)]
    have hd' : decide (F ≠ 0) = true := by simpa using hc
    rw [hd'] at HL ⊢
    have hL : L ≠ [] := by
      rintro rfl
      exact fnM_gls (dya := dya) (t := []) (fun e => hc (hF.trans e)) rfl
    obtain ⟨t, R, rfl⟩ : ∃ t R, L = t :: R := by
      cases L with
      | nil => exact absurd rfl hL
      | cons t R => exact ⟨t, R, rfl⟩
    have PN := Lib.hid (fun V h => PN.out V t R h)
    rw [show (t :: R).tail = R from rfl]
    generalize hk (t :: R) = kk, hd (t :: R) = tt, ((t :: R).head?.map Tk.n).getD 0 = nn at *
    clear hc hd' hF hL
    go_enter Tryz.func54, Tryz.ntmps54
    go_upto_region 1 with fail
    rw [← HW.out]
    go_wp2_with fail
    refine PW.out.mono ?_
    rintro e w1 ⟨rfl, hb⟩
    have HB := Lib.hid hb
    have hlk := HL.out w1 (HAW.out.below hb)
    have hlt := HSZ.out
    have hq : w.heap.size < w1.heap.size := by have := hb.size; omega
    obtain ⟨V, hV⟩ : ∃ V, V = w1.alloc (.cells #[.int .i64 F, .bool mm] 91) := ⟨_, rfl⟩
    obtain ⟨e0, e1, e2, e3, e4, e5⟩ := two_cells hV
    have hbV : Below W.heap.size W V := hb.trans (e5.mono hb.size)
    have l0 : w.heap.size < W.heap.size := by omega
    have z0 := (hbV.cell (p := ⟨w.heap.size, 0, none⟩) l0).trans HC.out.1
    have z1 := (hbV.cell (p := ⟨w.heap.size, 1, none⟩) l0).trans HC.out.2.1
    have y0 := (hbV.frozen (p := ⟨w.heap.size, 0, none⟩) l0).trans HC.out.2.2.1
    have y1 := (hbV.frozen (p := ⟨w.heap.size, 1, none⟩) l0).trans HC.out.2.2.2
    have lb : w1.heap.size ≠ b := fun e => by have := HA.out.lt; omega
    have PV := Lib.hid (PN.out V (HAW.out.below hbV))
    have HV := Lib.hid hV
    have HF := Lib.hid (show ∀ V', Mv b V V' → Mv b w V' ∧ V'.cell? ⟨w.heap.size, 0, none⟩ = some (.int .i64 0) ∧ V'.cell? ⟨w.heap.size, 1, none⟩ = some (.bool false) ∧ V'.frozen? ⟨w.heap.size, 0, none⟩ = false ∧ V'.frozen? ⟨w.heap.size, 1, none⟩ = false ∧ V'.cell? ⟨w1.heap.size, 0, none⟩ = some (.int .i64 F) ∧ V'.cell? ⟨w1.heap.size, 1, none⟩ = some (.bool mm) from fun V' h =>
      ⟨(Mv.of_below ((HBW.out.trans (hbV.mono HBW.out.size)))).trans h, (h.cell (by omega) HNE.out).trans z0, (h.cell (by omega) HNE.out).trans z1, (h.frozen (by omega) HNE.out).trans y0, (h.frozen (by omega) HNE.out).trans y1, (h.cell (by omega) lb).trans e0, (h.cell (by omega) lb).trans e1⟩)
    clear hb hV hlt hq e0 e1 e2 e3 e4 e5 hbV l0 z0 z1 y0 y1 lb
    go_wp2_with fail
    rw [← HV.out]
    refine PV.out.mono ?_
    rintro e w2 ⟨rfl, hm, ha⟩
    obtain ⟨g0, g1, g2, g3, g4, g5, g6⟩ := HF.out _ hm
    have HG := Lib.hid g0
    have HA2 := Lib.hid ha
    clear hm ha g0
    go_wp2_with fail
    refine bodyPost_ret (v := .tuple #[.agg #[.int .i64 F, .bool mm], .bool true]) (by simp [results, Tryz.results54, go_sem, g1, g2]) rfl ⟨rfl, ?_⟩
    have hbb := ((Below.refl w.heap.size w2).setCell (p := ⟨w.heap.size, 0, none⟩) (Nat.le_refl _) (.int .i64 F)).setCell (p := ⟨w.heap.size, 1, none⟩) (Nat.le_refl _) (.bool mm)
    exact ⟨(HG.out.set_own (B := 0) _ (.inl (Nat.le_refl _))).set_own (B := 0) _ (.inl (Nat.le_refl _)), (HA2.out.set_far HLT.out _).set_far HLT.out _⟩
end Go.Proofs.YthgojbaindejjaaGreatDoor.ps
