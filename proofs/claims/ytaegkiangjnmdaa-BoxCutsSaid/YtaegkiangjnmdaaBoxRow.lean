/- Rows of boxes: slices of structs of two slices; append; package box's collect. -/
import Derived.Test.YtaegkiangjnmdaaBoxMake
import Derived.Test.YtaegkiangjnmdaaMatrix
namespace Go.Proofs.Ytaegkiangjnmdaa.bx
open Go.ChangeShapes Go.WideShapes Go.ChangeAt Go.RowKit Go.Proofs.Ytaegkiangjnmdaa.mem Go.Proofs.Ytaegkiangjnmdaa.prod Go.Proofs.Ytaegkiangjnmdaa.shp Go.Proofs.Ytaegkiangjnmdaa.strd Go.Proofs.Ytaegkiangjnmdaa.gam Go.Proofs.Ytaegkiangjnmdaa.sml Go.Proofs.Ytaegkiangjnmdaa.all Go.Proofs.Ytaegkiangjnmdaa.odo Go.Proofs.Ytaegkiangjnmdaa.eql Go.Proofs.Ytaegkiangjnmdaa.arr
set_option linter.unusedVariables false

def flat2 : List (Value × Value) → List Value
  | [] => []
  | u :: r => u.1 :: u.2 :: flat2 r
theorem flat2_len : ∀ (us : List (Value × Value)), (flat2 us).length = us.length * 2
  | [] => rfl
  | u :: r => by simp only [flat2, List.length_cons, flat2_len r]; omega
theorem flat2_at : ∀ {us : List (Value × Value)} {k : Nat} {u : Value × Value}, us[k]? = some u → (flat2 us)[k * 2]? = some u.1 ∧ (flat2 us)[k * 2 + 1]? = some u.2
  | [], k, u, h => by simp at h
  | x :: r, 0, u, h => by simp at h; subst h; exact ⟨rfl, rfl⟩
  | x :: r, k + 1, u, h => by
    have ih := flat2_at (us := r) (k := k) (by simpa using h)
    rw [show (k + 1) * 2 = k * 2 + 1 + 1 by omega]
    simpa [flat2] using ih
theorem flat2_append : ∀ (us vs : List (Value × Value)), flat2 (us ++ vs) = flat2 us ++ flat2 vs
  | [], _ => rfl
  | u :: r, vs => by simp [flat2, flat2_append r vs]

/-- The slice lies from block B on. -/
def Lies (B : Nat) (u : Value) : Prop := ∀ g, u.ownBlock = some g → B ≤ g
theorem Lies.le {B B' : Nat} {u : Value} (h : Lies B u) (hb : B' ≤ B) : Lies B' u := fun g hg => Nat.le_trans hb (h g hg)
theorem lies_own {w : World} {B : Nat} {u : Value} {xs : List Int} (h : Own w B u xs) : Lies B u := fun g hg => (World.ownsRow.lt h g hg).1
theorem lies_zero (u : Value) : Lies 0 u := fun g _ => Nat.zero_le g
/-- A row of boxes of the call's own (from block B on), each of which reads as its lists, lies from block B on and is apart from the row. -/
def OwnX (t : TypeId) (w : World) (B : Nat) (v : Value) (L : List Bx) : Prop :=
  ∃ us : List (Value × Value), us.length = L.length ∧ w.ownsRow B t 2 v L.length (flat2 us) ∧ ∀ (k : Nat) u p, us[k]? = some u → L[k]? = some p → El w v.ownBlock u.1 p.1 ∧ El w v.ownBlock u.2 p.2 ∧ Lies B u.1 ∧ Lies B u.2
theorem ownX_nil (t : TypeId) (w : World) (B : Nat) : OwnX t w B (.slice none 0 0) [] := ⟨[], rfl, World.ownsRow_nil w B _ 2, fun k u p h => by simp at h⟩
theorem OwnX.form {t : TypeId} {w : World} {B : Nat} {v : Value} {L : List Bx} (h : OwnX t w B v L) : ∃ A c, v = .slice A L.length c ∧ L.length ≤ c ∧ c ≤ maxLen ∧ (A = none → c = 0) := by
  obtain ⟨us, _, h, _⟩ := h
  rcases h.2 with ⟨rfl, h0⟩ | ⟨g, cap, cur, rfl, _, _, hc, hm, _⟩
  · exact ⟨none, 0, by rw [h0], by omega, by unfold maxLen; omega, fun _ => rfl⟩
  · exact ⟨_, _, rfl, hc, hm, fun h => by cases h⟩
theorem OwnX.below {t : TypeId} {w w' : World} {B : Nat} {v : Value} {L : List Bx} (h : OwnX t w B v L) (hb : Below w.heap.size w w') : OwnX t w' B v L := by
  obtain ⟨us, h0, h1, h2⟩ := h
  exact ⟨us, h0, World.ownsRow.kept (row := none) h1 ⟨hb.os, hb.tape, hb.output, hb.size, fun k hk _ => hb.block k hk⟩ (by cases hv : v.ownBlock <;> simp), fun k u p a b => ⟨(h2 k u p a b).1.below hb, (h2 k u p a b).2.1.below hb, (h2 k u p a b).2.2⟩⟩
theorem OwnX.le {t : TypeId} {w : World} {B B' : Nat} {v : Value} {L : List Bx} (h : OwnX t w B v L) (hb : B' ≤ B) : OwnX t w B' v L := by
  obtain ⟨us, h0, h1, h2⟩ := h
  exact ⟨us, h0, Go.Joins.ownsRow_le h1 hb, fun k u p a b => ⟨(h2 k u p a b).1, (h2 k u p a b).2.1, (h2 k u p a b).2.2.1.le hb, (h2 k u p a b).2.2.2.le hb⟩⟩
theorem OwnX.lt {t : TypeId} {w : World} {B : Nat} {v : Value} {L : List Bx} (h : OwnX t w B v L) : ∀ g, v.ownBlock = some g → B ≤ g ∧ g < w.heap.size := by
  obtain ⟨us, _, h1, _⟩ := h
  exact World.ownsRow.lt h1
theorem el_weak {w : World} {b : Option Nat} {u : Value} {xs : List Int} (h : El w b u xs) : El w none u xs := by
  obtain ⟨A, c, e, e1, e2, e3, e4⟩ := h
  exact ⟨A, c, e, e1, e2, e3, fun j hj => by obtain ⟨ad, q1, q2, q3, q4⟩ := e4 j hj; exact ⟨ad, q1, q2, by simp, q4⟩⟩

/-- The second cell of a struct, as the walk spells its address. -/
theorem cell_one {w : World} {a : Addr} {k : Nat} {x : Value} (h : w.cell? (a.add (k + 1)) = some x) : w.cell? ⟨(a.add k).block, (a.add k).off + 1, none⟩ = some x := by
  have e : ∀ b : Addr, (⟨b.block, b.off + 1, none⟩ : Addr) = b.add 1 := fun b => by unfold Addr.add; simp
  rw [e, adr_add]; exact h
/-- The slice value reads as the list of boxes, apart from block b. -/
def RdXs (w : World) (b : Option Nat) (Bl : Nat) (A : Option Addr) (n : Nat) (L : List Bx) : Prop :=
  L.length = n ∧ ∀ (k : Nat) p, L[k]? = some p → ∃ ad u v, A = some ad ∧ ad.block < w.heap.size ∧ some ad.block ≠ b ∧ w.cell? (ad.add (k * 2)) = some u ∧ w.cell? (ad.add (k * 2 + 1)) = some v ∧ El w b u p.1 ∧ El w b v p.2 ∧ Lies Bl u ∧ Lies Bl v
theorem RdXs.grown {w w' : World} {b b' : Option Nat} {Bl : Nat} {A : Option Addr} {n : Nat} {L : List Bx} (h : RdXs w b Bl A n L) (hg : w.grownBy w' b) (hb : b' = b ∨ ∃ g, b' = some g ∧ w.heap.size ≤ g) : RdXs w' b' Bl A n L :=
  ⟨h.1, fun k p hk => by
    obtain ⟨ad, u, v, ha, hl, hn, hc, hd, e1, e2, e3⟩ := h.2 k p hk
    refine ⟨ad, u, v, ha, Nat.lt_of_lt_of_le hl hg.size, ?_, ?_, ?_, e1.grown hg hb, e2.grown hg hb, e3⟩
    · rcases hb with rfl | ⟨g, rfl, hge⟩
      · exact hn
      · intro e; injection e with e; omega
    · rw [World.cell?_of_block (hg.block _ (by rw [blk_add]; exact hl) (by rw [blk_add]; exact hn))]; exact hc
    · rw [World.cell?_of_block (hg.block _ (by rw [blk_add]; exact hl) (by rw [blk_add]; exact hn))]; exact hd⟩
theorem RdXs.below {w w' : World} {b : Option Nat} {Bl : Nat} {A : Option Addr} {n : Nat} {L : List Bx} (h : RdXs w b Bl A n L) (hb : Below w.heap.size w w') : RdXs w' b Bl A n L :=
  ⟨h.1, fun k p hk => by
    obtain ⟨ad, u, v, ha, hl, hn, hc, hd, e1, e2, e3⟩ := h.2 k p hk
    exact ⟨ad, u, v, ha, Nat.lt_of_lt_of_le hl hb.size, hn, (hb.cell (by rw [blk_add]; exact hl)).trans hc, (hb.cell (by rw [blk_add]; exact hl)).trans hd, e1.below hb, e2.below hb, e3⟩⟩
theorem OwnX.rd {t : TypeId} {w : World} {B n c : Nat} {A : Option Addr} {L : List Bx} (h : OwnX t w B (.slice A n c) L) : RdXs w none B A n L := by
  have hn : n = L.length := by
    obtain ⟨_, _, e, _⟩ := h.form
    injection e
  subst hn
  obtain ⟨us, h0, h1, h2⟩ := h
  refine ⟨rfl, fun k p hk => ?_⟩
  obtain ⟨hl, _⟩ := List.getElem?_eq_some_iff.1 hk
  obtain ⟨g, cap, hv, _, hlt⟩ := World.ownsRow.form h1 (by omega)
  have hA : A = some ⟨g, 0, none⟩ := by injection hv
  subst hA
  have hu : us[k]? = some us[k] := List.getElem?_eq_getElem (by omega)
  have he := h2 k us[k] p hu hk
  have hf := flat2_at hu
  exact ⟨_, _, _, rfl, hlt, by simp, h1.cells (g := g) rfl _ _ hf.1, h1.cells (g := g) rfl _ _ hf.2, el_weak he.1, el_weak he.2.1, he.2.2⟩
theorem RdXs.at_ {w : World} {b : Option Nat} {Bl : Nat} {A : Option Addr} {n k : Nat} {L : List Bx} {p : Bx} (h : RdXs w b Bl A n L) (hk : L[k]? = some p) :
    ∃ ad P m c Q l d, A = some ad ∧ ad.block < w.heap.size ∧ w.cell? (ad.add (k * 2)) = some (.slice P m c) ∧ w.cell? (ad.add (k * 2 + 1)) = some (.slice Q l d) ∧ Rd w P m p.1 ∧ Rd w Q l p.2 ∧ m ≤ maxLen ∧ l ≤ maxLen ∧ (P = none → c = 0) ∧ (Q = none → d = 0) := by
  obtain ⟨ad, u, v, ha, hl, _, hc, hd, e1, e2, _⟩ := h.2 k p hk
  obtain ⟨P, c, rfl, h1, h2, h3, h4⟩ := e1.rd
  obtain ⟨Q, d, rfl, g1, g2, g3, g4⟩ := e2.rd
  exact ⟨ad, P, _, c, Q, _, d, ha, hl, hc, hd, h1, g1, Nat.le_trans h2 h3, Nat.le_trans g2 g3, h4, g4⟩

/-- A store below what the row owns. -/
theorem el_set {w : World} {b : Option Nat} {u : Value} {xs : List Int} {B : Nat} (h : El w b u xs) (hl : Lies B u) {p : Addr} (hp : p.block < B) (x : Value) : El (w.setCell p x) b u xs := by
  obtain ⟨A, c, rfl, e1, e2, e3, e4⟩ := h
  refine ⟨A, c, rfl, e1, e2, e3, fun j hj => ?_⟩
  obtain ⟨ad, rfl, q2, q3, q4⟩ := e4 j hj
  have := hl ad.block rfl
  exact ⟨ad, rfl, by simpa [World.setCell] using q2, q3, set_other q4 (by rw [blk_add]; omega)⟩
theorem OwnX.set_ {t : TypeId} {w : World} {B : Nat} {v : Value} {L : List Bx} (h : OwnX t w B v L) {p : Addr} (hp : p.block < B) (x : Value) : OwnX t (w.setCell p x) B v L := by
  obtain ⟨us, h0, h1, h2⟩ := h
  exact ⟨us, h0, ownsRow_setCell_below h1 hp x, fun k u q a b => ⟨el_set (h2 k u q a b).1 (h2 k u q a b).2.2.1 hp x, el_set (h2 k u q a b).2.1 (h2 k u q a b).2.2.2 hp x, (h2 k u q a b).2.2⟩⟩

/-- What has grown by pushes: one row, or new ones. -/
theorem grown_two {w w1 w2 : World} {r r1 : Option Nat} (h : w.grownBy w1 r) (k : w1.grownBy w2 r1) (hr : r1 = r ∨ ∃ g, r1 = some g ∧ w.heap.size ≤ g) : w.grownBy w2 r :=
  ⟨k.os.trans h.os, k.tape.trans h.tape, k.output.trans h.output, Nat.le_trans h.size k.size, fun i hi hn => (k.block i (Nat.lt_of_lt_of_le hi h.size) (by
    rcases hr with rfl | ⟨g, rfl, hg⟩
    · exact hn
    · intro e; injection e with e; omega)).trans (h.block i hi hn)⟩
theorem grown_later {w w1 w2 : World} {r : Option Nat} (h : w.grownBy w1 r) (hb : Below w1.heap.size w1 w2) : w.grownBy w2 r :=
  ⟨hb.os.trans h.os, hb.tape.trans h.tape, hb.output.trans h.output, Nat.le_trans h.size hb.size, fun i hi hn => (hb.block i (Nat.lt_of_lt_of_le hi h.size)).trans (h.block i hi hn)⟩

/-- append(rows, x): one box, laid in a block of its own first. -/
theorem wpList_pushX {st t : TypeId} (hu : Try.prog.underlying st = some (.slice t)) (hinfo : (Try.prog.info? t).map (fun i => (i.zero, i.size, i.bytes)) = some (some (.agg #[.slice none 0 0, .slice none 0 0]), 2, 48))
    {w : World} {B : Nat} {ops : Array Oper} {rest : List Oper} {o : Oper} {a : Act} {Q : Exit → Act → World → Prop} (hgd : o.guard = none) (s x : Operand)
    (ho : o.op = .call { callee := .builtin .append, args := #[s, x], argTypes := #[st, st] })
    (v : Value) (L : List Bx) (hs : a.eval s = v) (hown : OwnX t w B v L) (hB : B ≤ w.heap.size) (u u' : Value) (p : Bx) (h1 : El w v.ownBlock u p.1) (h2 : El w v.ownBlock u' p.2) (h3 : Lies B u) (h4 : Lies B u') (ty : TypeId) (hx : a.eval x = .slice (some ⟨w.heap.size, 0, none⟩) 1 1)
    (l : Nat) (hl : L.length = l) (h40 : l < 1099511627776)
    (h : ∀ P c w', OwnX t w' B (.slice P (l + 1) c) (L ++ [p]) → w.grownBy w' v.ownBlock → ((Value.slice P (l + 1) c).ownBlock = v.ownBlock ∨ ∃ g, (Value.slice P (l + 1) c).ownBlock = some g ∧ w.heap.size ≤ g) → wpList Try.prog ops Q rest (a.put o.dst (.slice P (l + 1) c)) w') :
    wpList Try.prog ops Q (o :: rest) a (w.alloc (.cells #[u, u'] ty)) := by
  subst hl
  obtain ⟨i0, hi0, hz0, hz1, hz2⟩ := info_parts hinfo
  have hone : u.oneCell' = true := by obtain ⟨A, c, rfl, _⟩ := h1; rfl
  have hone' : u'.oneCell' = true := by obtain ⟨A, c, rfl, _⟩ := h2; rfl
  have hba : Below w.heap.size w (w.alloc (.cells #[u, u'] ty)) := (Below.refl _ _).alloc (Nat.le_refl _) _
  have hB' : B ≤ (w.alloc (.cells #[u, u'] ty)).heap.size := by simp; omega
  have hown2 := hown.below hba
  have e1 := h1.below hba
  have e2 := h2.below hba
  obtain ⟨us, f0, f1, f2⟩ := hown2
  have hcells : ∀ j z, [u, u'][j]? = some z → (w.alloc (.cells #[u, u'] ty)).cell? ((⟨w.heap.size, 0, none⟩ : Addr).add j) = some z := by
    intro j z hj
    rw [add_at, cell_of_row _ _ _ _ ty (0, 0) (heap_alloc_new w _)]
    rcases j with _ | _ | j
    · simp at hj; subst hj; simp
    · simp at hj; subst hj; simp
    · simp at hj
  obtain ⟨v', w', hrun, g1, g2, _, g4⟩ := run_append_own_at (P := Try.prog) (w.alloc (.cells #[u, u'] ty)) B st o.type t i0 _ 2 48 hu hi0 hz0 hz1 hz2 rfl (by omega) v _ _ f1 ⟨w.heap.size, 0, none⟩ 1 1 [u, u'] (by simp) hcells (by simpa using ⟨hone, hone'⟩)
    (by unfold maxLen; omega) (by omega) hB'
  have hnew : v'.ownBlock = v.ownBlock ∨ ∃ g, v'.ownBlock = some g ∧ (w.alloc (.cells #[u, u'] ty)).heap.size ≤ g := by
    rcases g4 with e | e
    · exact .inl e
    · exact .inr ⟨_, e, Nat.le_refl _⟩
  have hsz : (w.alloc (.cells #[u, u'] ty)).heap.size = w.heap.size + 1 := by simp
  have hO : OwnX t w' B v' (L ++ [p]) := by
    refine ⟨us ++ [(u, u')], by simp [f0], by rw [List.length_append, flat2_append]; exact g1, fun k z q hz hq => ?_⟩
    rcases Nat.lt_or_ge k us.length with hk | hk
    · rw [List.getElem?_append_left hk] at hz
      rw [List.getElem?_append_left (by omega)] at hq
      exact ⟨(f2 k z q hz hq).1.grown g2 hnew, (f2 k z q hz hq).2.1.grown g2 hnew, (f2 k z q hz hq).2.2⟩
    · rw [List.getElem?_append_right hk] at hz
      rw [List.getElem?_append_right (by omega)] at hq
      rcases hj : k - us.length with _ | j
      · rw [hj] at hz
        rw [show k - L.length = 0 by omega] at hq
        simp at hz hq
        subst hz
        subst hq
        exact ⟨e1.grown g2 hnew, e2.grown g2 hnew, h3, h4⟩
      · rw [hj] at hz
        simp at hz
  obtain ⟨P, c, e, _⟩ := hO.form
  rw [List.length_append] at e
  have e0 : L.length + [p].length = L.length + 1 := rfl
  rw [e0] at e
  subst e
  refine wpList_plain hgd fun K hK => ?_
  unfold Oper.wp execOp
  simp only [ho, resolve, invoke, builtin, Sem.run_bind, Sem.run_pure, Result.andThen_ok, List.map_toArray, List.map_cons, List.map_nil, hs, hx, hrun]
  refine hK _ _ (h P c w' hO ?_ ?_)
  · exact ⟨g2.os, g2.tape, g2.output, by have := g2.size; omega, fun i hi hn => (g2.block i (by omega) hn).trans (hba.block i hi)⟩
  · rcases hnew with e | ⟨g, e, hg⟩
    · exact .inl e
    · exact .inr ⟨g, e, by omega⟩

theorem box_info : (Try.prog.info? 27).map (fun i => (i.zero, i.size, i.bytes)) = some (some (.agg #[.slice none 0 0, .slice none 0 0]), 2, 48) := by kernel_rfl
/-- What collect answers: the parts with cells behind the elder ones. -/
def Collects (w : World) (B : Nat) (v : Value) (L : List Bx) (e : Ending) (w' : World) : Prop :=
  ∃ P c, e = .returned (.slice P L.length c) ∧ OwnX 27 w' B (.slice P L.length c) L ∧ w.grownBy w' v.ownBlock ∧ ((Value.slice P L.length c).ownBlock = v.ownBlock ∨ ∃ g, (Value.slice P L.length c).ownBlock = some g ∧ w.heap.size ≤ g)
set_option maxHeartbeats 4000000 in
theorem collect_any (P A : Option Addr) (n c m d B : Nat) (L Lp : List Bx) (w : World) (hB : B ≤ w.heap.size) (hn : n ≤ 1048576) (hm : m ≤ 1048576) (hown : OwnX 27 w B (.slice P n c) L) (hp : RdXs w (Value.slice P n c).ownBlock B A m Lp) (hr : ∀ p ∈ Lp, rgtB p.1 p.2 = true) :
    Calls Try.prog 30 #[.slice P n c, .slice A m d] w (Collects w B (.slice P n c) (L ++ Lp.filter neB)) := by
  have hnl : L.length = n := by obtain ⟨_, _, e, _⟩ := hown.form; injection e with e1 e2; exact e2.symm
  obtain ⟨v0, hv0⟩ : ∃ v0, v0 = Value.slice P n c := ⟨_, rfl⟩
  obtain ⟨b0, hb0⟩ : ∃ b0, b0 = v0.ownBlock := ⟨_, rfl⟩
  have HPP := Lib.hid (show RdXs w b0 B A m Lp by rw [hb0, hv0]; exact hp)
  have HR := Lib.hid hr; have HBB := Lib.hid hB; have HNL := Lib.hid hnl
  have HST := Lib.hid (show OwnX 27 w B (.slice P n c) (L ++ (Lp.take 0).filter neB) by simpa using hown)
  have HLEN := Lib.hid (show (L ++ (Lp.take 0).filter neB).length = n by simpa using hnl)
  have hQ : ∀ e w', Collects w B v0 (L ++ Lp.filter neB) e w' → Collects w B (.slice P n c) (L ++ Lp.filter neB) e w' := fun e w' h => hv0 ▸ h
  refine Calls.mono (R := Collects w B v0 (L ++ Lp.filter neB)) ?_ hQ
  have HB0 := Lib.hid (show (Value.slice P n c).ownBlock = b0 ∨ ∃ g, (Value.slice P n c).ownBlock = some g ∧ w.heap.size ≤ g from .inl (by rw [hb0, hv0]))
  have HBV := Lib.hid hb0
  clear hown hp hr hB hQ hv0 hb0 hnl
  go_enter Try.func30, Try.ntmps30
  go_wp2_with fail
  go_loopw [0, 9] (fun v i wr => ∃ k : Nat, k ≤ m ∧ i = .int .i64 k ∧ ∃ P' n' c', v = .slice P' n' c' ∧ n' ≤ 1048576 + k ∧ Hid ((L ++ (Lp.take k).filter neB).length = n') ∧ Hid (OwnX 27 wr B (.slice P' n' c') (L ++ (Lp.take k).filter neB)) ∧ Hid (w.grownBy wr b0) ∧ Hid ((Value.slice P' n' c').ownBlock = b0 ∨ ∃ g, (Value.slice P' n' c').ownBlock = some g ∧ w.heap.size ≤ g)) (fun _ i _ => m - (intOf i).toNat)
  case atStart => exact ⟨0, Nat.zero_le _, rfl, P, n, c, rfl, by omega, HLEN, HST, Lib.hid (World.grownBy.refl w _), HB0⟩
  case round =>
    obtain ⟨k, hk, rfl, P', n', c', rfl, hn', HL', HO, HG, HN⟩ := hrel
    by_cases hlt : k < m
    · obtain ⟨p, hp⟩ : ∃ p, Lp[k]? = some p := ⟨_, List.getElem?_eq_getElem (by rw [HPP.out.1]; exact hlt)⟩
      obtain ⟨ad, u, v, rfl, hal, _, hc1, hd2, he1, he2, hli1, hli2⟩ := (HPP.out.grown HG.out HN.out).2 k p hp
      obtain ⟨P1, d1, rfl, hr1, hl1, hm1, hz1⟩ := he1.rd
      obtain ⟨P2, d2, rfl, hr2, hl2, hm2, hz2⟩ := he2.rd
      have hrt := HR.out p (mem_at hp)
      obtain ⟨q1, q2, q3⟩ := rgt_out hrt
      rw [← q1] at hd2 hr2 hl2 he2 hli2
      have hc2' := cell_one hd2
      have hbx := one_below wr #[.slice P1 p.1.length d1, .slice P2 p.1.length d2] 27
      have PE := Lib.hid (show Calls Try.prog 26 #[.agg #[.slice P1 p.1.length d1, .slice P2 p.1.length d2]] (wr.alloc (.cells #[.slice P1 p.1.length d1, .slice P2 p.1.length d2] 27)) (Says (wr.alloc (.cells #[.slice P1 p.1.length d1, .slice P2 p.1.length d2] 27)) (!neB p)) from
        empty_any P1 P2 _ d1 d2 p.1 p.2 _ (by unfold maxLen; omega) hrt (hr1.below hbx) (hr2.below hbx))
      have HE1 := Lib.hid he1; have HE2 := Lib.hid he2; have HI1 := Lib.hid hli1; have HI2 := Lib.hid hli2
      have HBX := Lib.hid hbx
      have HK := Lib.hid (box2_new wr (.slice P1 p.1.length d1) (.slice P2 p.1.length d2) 27)
      have HTS := Lib.hid (show (Lp.take (k + 1)).filter neB = (Lp.take k).filter neB ++ [p].filter neB by rw [take_snoc hp, List.filter_append])
      obtain ⟨l1, hl1'⟩ : ∃ l1, l1 = p.1.length := ⟨_, rfl⟩
      rw [← hl1'] at hl1 hc1 hc2' PE HE1 HE2 HBX HK HI1 HI2
      obtain ⟨r, hr⟩ : ∃ r, r = neB p := ⟨_, rfl⟩
      rw [← hr] at PE
      have HRR := Lib.hid hr
      clear hr hp hd2 he1 he2 hli1 hli2 hr1 hr2 hrt q1 q2 q3 hbx hl1' hz1 hz2 hl2
      go_wp2_with fail
      refine PE.out.mono ?_
      rintro e w1 ⟨rfl, hb⟩
      have HB1 := Lib.hid (HBX.out.trans (hb.mono HBX.out.size))
      obtain ⟨j1, j2, _⟩ := HK.out.below hb
      clear hb hc1 hc2'
      cases r
      · have HTN := Lib.hid (show (Lp.take (k + 1)).filter neB = (Lp.take k).filter neB by rw [HTS.out, List.filter_cons, ← HRR.out]; simp)
        go_wp2_with fail
        go_roundw
        case rel => exact ⟨k + 1, by omega, by go_num, P', n', c', rfl, by omega, by rw [HTN.out]; exact HL', by rw [HTN.out]; exact Lib.hid (HO.out.below HB1.out), Lib.hid (grown_later HG.out HB1.out), HN⟩
        case measure => first | (simp [intOf]; done) | (simp [intOf]; omega)
      · have HTN := Lib.hid (show L ++ (Lp.take (k + 1)).filter neB = (L ++ (Lp.take k).filter neB) ++ [p] by rw [HTS.out, List.filter_cons, ← HRR.out]; simp)
        have HO1 := Lib.hid (HO.out.below HB1.out)
        have HG1 := Lib.hid (grown_later HG.out HB1.out)
        have HS1 := Lib.hid (show B ≤ w1.heap.size from Nat.le_trans HBB.out HG1.out.size)
        have HF1 := Lib.hid (HE1.out.below HB1.out); have HF2 := Lib.hid (HE2.out.below HB1.out)
        go_wp2_with (at_builtin; refine wpList_pushX (L := L ++ (Lp.take k).filter neB) (u := .slice P1 l1 d1) (u' := .slice P2 l1 d2) (v := .slice P' n' c') (B := B) Try.underlying41 box_info (by rfl) (.tmp 16) (.tmp 18) (by rfl) (by rfl) HO1.out HS1.out p HF1.out HF2.out HI1.out HI2.out _ (by rfl) n' HL'.out (by omega) ?_; intro P3 c3 w3 ho3 hg3 hn3; have HO3 := Lib.hid ho3; have HG3 := Lib.hid hg3; have HN3 := Lib.hid hn3; clear ho3 hg3 hn3)
        have HN4 := Lib.hid (show (Value.slice P3 (n' + 1) c3).ownBlock = b0 ∨ ∃ g, (Value.slice P3 (n' + 1) c3).ownBlock = some g ∧ w.heap.size ≤ g by
          rcases HN3.out with e | ⟨g, e, hg⟩
          · rcases HN.out with e' | ⟨g, e', hg⟩
            · exact .inl (e.trans e')
            · exact .inr ⟨g, e.trans e', hg⟩
          · exact .inr ⟨g, e, Nat.le_trans HG1.out.size hg⟩)
        have HG4 := Lib.hid (grown_two HG1.out HG3.out HN.out)
        go_roundw
        case rel => exact ⟨k + 1, by omega, by go_num, P3, n' + 1, c3, rfl, by omega, Lib.hid (by rw [HTN.out, List.length_append, HL'.out]; rfl), Lib.hid (by rw [HTN.out]; exact HO3.out), HG4, HN4⟩
        case measure => first | (simp [intOf]; done) | (simp [intOf]; omega)
    · obtain rfl : k = m := by omega
      have HE : Hid (L ++ (Lp.take k).filter neB = L ++ Lp.filter neB) := Lib.hid (by rw [List.take_of_length_le (by rw [HPP.out.1]; omega)])
      have HF := Lib.hid (show Collects w B v0 (L ++ Lp.filter neB) (.returned (.slice P' n' c')) wr by
        have h1 := HL'.out
        have h2 := HO.out
        rw [HE.out] at h1 h2
        subst h1
        exact ⟨_, _, rfl, h2, HBV.out ▸ HG.out, HBV.out ▸ HN.out⟩)
      go_wp2_with fail
      go_ret
      exact HF.out
end Go.Proofs.Ytaegkiangjnmdaa.bx
