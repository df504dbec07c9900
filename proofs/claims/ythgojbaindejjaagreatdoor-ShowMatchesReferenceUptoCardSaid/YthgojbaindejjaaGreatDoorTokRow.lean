/- Rows of tokens: slices of structs of a number, a text and a number; append. -/
import Derived.Test.YthgojbaindejjaaGreatDoorLexTok
import Derived.Test.YthgojbaindejjaaGreatDoorDecimal
namespace Go.Proofs.YthgojbaindejjaaGreatDoor.lx
open Go.ChangeShapes Go.WideShapes Go.ChangeAt Go.RowKit Go.Proofs.YthgojbaindejjaaGreatDoor.mem Go.Proofs.YthgojbaindejjaaGreatDoor.txt
set_option linter.unusedVariables false

def cellsK (x : Tk) : List Value := [.int .i64 x.k, .string (txt.strOf x.t), .int .i64 x.n]
def flatK : List Tk → List Value
  | [] => []
  | x :: r => .int .i64 x.k :: .string (txt.strOf x.t) :: .int .i64 x.n :: flatK r
theorem flatK_len : ∀ L : List Tk, (flatK L).length = L.length * 3
  | [] => rfl
  | x :: r => by simp only [flatK, List.length_cons, flatK_len r]; omega
theorem flatK_at : ∀ {L : List Tk} {k : Nat} {x : Tk}, L[k]? = some x → (flatK L)[k * 3]? = some (.int .i64 x.k) ∧ (flatK L)[k * 3 + 1]? = some (.string (txt.strOf x.t)) ∧ (flatK L)[k * 3 + 2]? = some (.int .i64 x.n)
  | [], k, x, h => by simp at h
  | y :: r, 0, x, h => by simp at h; subst h; exact ⟨rfl, rfl, rfl⟩
  | y :: r, k + 1, x, h => by
    have ih := flatK_at (L := r) (k := k) (by simpa using h)
    rw [show (k + 1) * 3 = k * 3 + 1 + 1 + 1 by omega]
    simpa [flatK] using ih
theorem flatK_append : ∀ (a b : List Tk), flatK (a ++ b) = flatK a ++ flatK b
  | [], _ => rfl
  | x :: r, b => by simp [flatK, flatK_append r b]
theorem flatK_one : ∀ (L : List Tk), ∀ v ∈ flatK L, v.oneCell' = true
  | [], v, h => by cases h
  | x :: r, v, h => by
    simp only [flatK, List.mem_cons] at h
    rcases h with rfl | rfl | rfl | h
    · rfl
    · rfl
    · rfl
    · exact flatK_one r v h

/-- The slice value reads as the list of tokens. -/
def RdK (w : World) (A : Option Addr) (n : Nat) (L : List Tk) : Prop :=
  L.length = n ∧ ∀ (k : Nat) x, L[k]? = some x → ∃ ad, A = some ad ∧ ad.block < w.heap.size ∧ w.cell? (ad.add (k * 3)) = some (.int .i64 x.k) ∧ w.cell? (ad.add (k * 3 + 1)) = some (.string (txt.strOf x.t)) ∧ w.cell? (ad.add (k * 3 + 2)) = some (.int .i64 x.n)
theorem RdK.below {w w' : World} {A : Option Addr} {n : Nat} {L : List Tk} (h : RdK w A n L) (hb : Below w.heap.size w w') : RdK w' A n L :=
  ⟨h.1, fun k x hk => by
    obtain ⟨ad, ha, hl, h1, h2, h3⟩ := h.2 k x hk
    exact ⟨ad, ha, Nat.lt_of_lt_of_le hl hb.size, (hb.cell (by rw [blk_add]; exact hl)).trans h1, (hb.cell (by rw [blk_add]; exact hl)).trans h2, (hb.cell (by rw [blk_add]; exact hl)).trans h3⟩⟩
theorem rdK_nil (w : World) (A : Option Addr) : RdK w A 0 [] := ⟨rfl, fun k x h => by simp at h⟩
/-- A row of tokens of the call's own (from block B on). -/
def OwnK (t : TypeId) (w : World) (B : Nat) (v : Value) (L : List Tk) : Prop := w.ownsRow B t 3 v L.length (flatK L)
theorem ownK_nil (t : TypeId) (w : World) (B : Nat) : OwnK t w B (.slice none 0 0) [] := World.ownsRow_nil w B _ 3
theorem OwnK.form {t : TypeId} {w : World} {B : Nat} {v : Value} {L : List Tk} (h : OwnK t w B v L) : ∃ A c, v = .slice A L.length c ∧ L.length ≤ c ∧ c ≤ maxLen ∧ (A = none → c = 0) := by
  rcases h.2 with ⟨rfl, h0⟩ | ⟨g, cap, cur, rfl, _, _, hc, hm, _⟩
  · exact ⟨none, 0, by rw [h0], by omega, by unfold maxLen; omega, fun _ => rfl⟩
  · exact ⟨_, _, rfl, hc, hm, fun h => by cases h⟩
theorem OwnK.below {t : TypeId} {w w' : World} {B : Nat} {v : Value} {L : List Tk} (h : OwnK t w B v L) (hb : Below w.heap.size w w') : OwnK t w' B v L :=
  World.ownsRow.kept (row := none) h ⟨hb.os, hb.tape, hb.output, hb.size, fun k hk _ => hb.block k hk⟩ (by cases hv : v.ownBlock <;> simp)
theorem OwnK.le {t : TypeId} {w : World} {B B' : Nat} {v : Value} {L : List Tk} (h : OwnK t w B v L) (hb : B' ≤ B) : OwnK t w B' v L := Go.Joins.ownsRow_le h hb
theorem OwnK.rd {t : TypeId} {w : World} {B n c : Nat} {A : Option Addr} {L : List Tk} (h : OwnK t w B (.slice A n c) L) : RdK w A n L := by
  have hn : n = L.length := by
    obtain ⟨_, _, e, _⟩ := h.form
    injection e
  subst hn
  refine ⟨rfl, fun k x hk => ?_⟩
  obtain ⟨hl, _⟩ := List.getElem?_eq_some_iff.1 hk
  obtain ⟨g, cap, hv, _, hlt⟩ := World.ownsRow.form h (by omega)
  have hA : A = some ⟨g, 0, none⟩ := by injection hv
  subst hA
  obtain ⟨e1, e2, e3⟩ := flatK_at hk
  exact ⟨_, rfl, hlt, h.cells (g := g) rfl _ _ e1, h.cells (g := g) rfl _ _ e2, h.cells (g := g) rfl _ _ e3⟩
theorem OwnK.below_grown {t : TypeId} {B : Nat} {w wr w' : World} {v : Value} {L : List Tk} (hb : Below B w wr) (ho : OwnK t wr B v L) (hg : wr.grownBy w' v.ownBlock) (hB : B ≤ wr.heap.size) : Below B w w' :=
  hb.grown hg hB fun k hk => (World.ownsRow.lt ho k hk).1

/-- append onto a row of the call's own; the source nil, empty or not. -/
theorem run_appendK {st t : TypeId} (hu : Tryz.prog.underlying st = some (.slice t)) (hinfo : (Tryz.prog.info? t).map (fun i => (i.zero, i.size, i.bytes)) = some (some (.agg #[.int .i64 0, .string ⟨#[]⟩, .int .i64 0]), 3, 32))
    (w : World) (ty : TypeId) (B : Nat) (v : Value) (L : List Tk) (hown : OwnK t w B v L) (A : Option Addr) (m c : Nat) (M : List Tk) (hr : RdK w A m M)
    (hc : A = none → c = 0) (h40 : L.length + m ≤ 10995116277) (hB : B ≤ w.heap.size) :
    ∃ v' w', (Builtin.append_ #[st, st] ty #[v, .slice A m c]).run Tryz.prog w = .ok v' w' ∧ OwnK t w' B v' (L ++ M) ∧ w.grownBy w' v.ownBlock ∧ (v'.ownBlock = v.ownBlock ∨ v'.ownBlock = some w.heap.size) := by
  obtain ⟨i0, hi0, hz0, hz1, hz2⟩ := info_parts hinfo
  cases A with
  | none =>
    have hm : M = [] := by
      cases M with
      | nil => rfl
      | cons x r => obtain ⟨ad, e, _⟩ := hr.2 0 x rfl; cases e
    subst hm
    have h0 : m = 0 := hr.1.symm
    subst h0
    obtain rfl := hc rfl
    exact ⟨v, w, run_append_owned_none (P := Tryz.prog) (w := w) B st ty t i0 3 hu hi0 v _ _ hown, by simpa using hown, World.grownBy.refl w _, .inl rfl⟩
  | some ad =>
    have hcells : ∀ j u, (flatK M)[j]? = some u → w.cell? (ad.add j) = some u := by
      intro j u hju
      have hl : j < M.length * 3 := by
        have := (List.getElem?_eq_some_iff.1 hju).1
        rwa [flatK_len] at this
      have hk : j / 3 < M.length := by omega
      obtain ⟨q, hq⟩ : ∃ q, q = j / 3 := ⟨_, rfl⟩
      rw [← hq] at hk
      obtain ⟨x, hx⟩ : ∃ x, M[q]? = some x := ⟨_, List.getElem?_eq_getElem hk⟩
      obtain ⟨ad', e, _, h1, h2, h3⟩ := hr.2 q x hx
      obtain rfl := Option.some.inj e
      obtain ⟨e1, e2, e3⟩ := flatK_at hx
      rcases (by omega : j = q * 3 ∨ j = q * 3 + 1 ∨ j = q * 3 + 2) with h | h | h
      · rw [h] at hju ⊢; rw [e1] at hju; rw [← Option.some.inj hju]; exact h1
      · rw [h] at hju ⊢; rw [e2] at hju; rw [← Option.some.inj hju]; exact h2
      · rw [h] at hju ⊢; rw [e3] at hju; rw [← Option.some.inj hju]; exact h3
    obtain ⟨v', w', hrun, h2, h3, _, h5⟩ := run_append_own_at (P := Tryz.prog) w B st ty t i0 _ 3 32 hu hi0 hz0 hz1 hz2 rfl (by omega) v _ _ hown ad m c (flatK M) (by rw [flatK_len, hr.1]) hcells (flatK_one M)
      (by unfold maxLen; omega) (by omega) hB
    refine ⟨v', w', hrun, ?_, h3, h5⟩
    unfold OwnK
    rw [List.length_append, flatK_append, hr.1]
    exact h2

theorem wpList_appendK {st t : TypeId} (hu : Tryz.prog.underlying st = some (.slice t)) (hinfo : (Tryz.prog.info? t).map (fun i => (i.zero, i.size, i.bytes)) = some (some (.agg #[.int .i64 0, .string ⟨#[]⟩, .int .i64 0]), 3, 32))
    {w : World} {ops : Array Oper} {rest : List Oper} {o : Oper} {a : Act} {Q : Exit → Act → World → Prop} (hgd : o.guard = none) (s x : Operand)
    (ho : o.op = .call { callee := .builtin .append, args := #[s, x], argTypes := #[st, st] })
    (B : Nat) (v : Value) (L : List Tk) (hs : a.eval s = v) (hown : OwnK t w B v L) (A : Option Addr) (m c : Nat) (M : List Tk) (hx : a.eval x = .slice A m c) (hr : RdK w A m M)
    (hc : A = none → c = 0) (h40 : L.length + m ≤ 10995116277) (hB : B ≤ w.heap.size)
    (h : ∀ v' w', OwnK t w' B v' (L ++ M) → w.grownBy w' v.ownBlock → (v'.ownBlock = v.ownBlock ∨ v'.ownBlock = some w.heap.size) → wpList Tryz.prog ops Q rest (a.put o.dst v') w') : wpList Tryz.prog ops Q (o :: rest) a w := by
  obtain ⟨v', w', hrun, h2, h3, h4⟩ := run_appendK hu hinfo w o.type B v L hown A m c M hr hc h40 hB
  refine wpList_plain hgd fun K hK => ?_
  unfold Oper.wp execOp
  simp only [ho, resolve, invoke, builtin, Sem.run_bind, Sem.run_pure, Result.andThen_ok, List.map_toArray, List.map_cons, List.map_nil, hs, hx, hrun]
  exact hK _ _ (h v' w' h2 h3 h4)

/-- As wpList_plain, of an operation behind a guard that is met. -/
theorem wpList_taken {w : World} {ops : Array Oper} {rest : List Oper} {o : Oper} {a : Act} {Q : Exit → Act → World → Prop} (hg : Region.wanted o (yielded ops a.tmps) = true)
    (h : ∀ K : Act → World → Prop, (∀ a w, wpList Tryz.prog ops Q rest a w → K a w) → o.wp Tryz.prog a w K Q) : wpList Tryz.prog ops Q (o :: rest) a w :=
  wpList_step fun K hK => by rw [if_pos hg]; exact h K hK
theorem wpList_appendK_w {st t : TypeId} (hu : Tryz.prog.underlying st = some (.slice t)) (hinfo : (Tryz.prog.info? t).map (fun i => (i.zero, i.size, i.bytes)) = some (some (.agg #[.int .i64 0, .string ⟨#[]⟩, .int .i64 0]), 3, 32))
    {w : World} {ops : Array Oper} {rest : List Oper} {o : Oper} {a : Act} {Q : Exit → Act → World → Prop} (hgd : Region.wanted o (yielded ops a.tmps) = true) (s x : Operand)
    (ho : o.op = .call { callee := .builtin .append, args := #[s, x], argTypes := #[st, st] })
    (B : Nat) (v : Value) (L : List Tk) (hs : a.eval s = v) (hown : OwnK t w B v L) (A : Option Addr) (m c : Nat) (M : List Tk) (hx : a.eval x = .slice A m c) (hr : RdK w A m M)
    (hc : A = none → c = 0) (h40 : L.length + m ≤ 10995116277) (hB : B ≤ w.heap.size)
    (h : ∀ v' w', OwnK t w' B v' (L ++ M) → w.grownBy w' v.ownBlock → (v'.ownBlock = v.ownBlock ∨ v'.ownBlock = some w.heap.size) → wpList Tryz.prog ops Q rest (a.put o.dst v') w') : wpList Tryz.prog ops Q (o :: rest) a w := by
  obtain ⟨v', w', hrun, h2, h3, h4⟩ := run_appendK hu hinfo w o.type B v L hown A m c M hr hc h40 hB
  refine wpList_taken hgd fun K hK => ?_
  unfold Oper.wp execOp
  simp only [ho, resolve, invoke, builtin, Sem.run_bind, Sem.run_pure, Result.andThen_ok, List.map_toArray, List.map_cons, List.map_nil, hs, hx, hrun]
  exact hK _ _ (h v' w' h2 h3 h4)

theorem rdK_one (W : World) (t : TypeId) (x : Tk) : RdK (W.alloc (.cells #[.int .i64 x.k, .string (txt.strOf x.t), .int .i64 x.n] t)) (some ⟨W.heap.size, 0, none⟩) 1 [x] := by
  refine ⟨rfl, fun k y hk => ?_⟩
  cases k with
  | succ k => simp at hk
  | zero =>
    simp at hk
    subst hk
    refine ⟨_, rfl, by simp, ?_, ?_, ?_⟩ <;> rw [add_at, cell_of_row _ _ _ _ t (0, 0) (heap_alloc_new W _)] <;> rfl
/-- append(out, x): one token, laid in a block of its own first. -/
theorem wpList_pushK {st t : TypeId} (hu : Tryz.prog.underlying st = some (.slice t)) (hinfo : (Tryz.prog.info? t).map (fun i => (i.zero, i.size, i.bytes)) = some (some (.agg #[.int .i64 0, .string ⟨#[]⟩, .int .i64 0]), 3, 32))
    {w : World} {ops : Array Oper} {rest : List Oper} {o : Oper} {a : Act} {Q : Exit → Act → World → Prop} (hgd : o.guard = none) (s x : Operand)
    (ho : o.op = .call { callee := .builtin .append, args := #[s, x], argTypes := #[st, st] })
    (B : Nat) (v : Value) (L : List Tk) (hs : a.eval s = v) (hown : OwnK t w B v L) (hB : B ≤ w.heap.size) (k n : Int) (u : List UInt8) (ty : TypeId) (q : Nat) (hx : a.eval x = .slice (some ⟨q, 0, none⟩) 1 1) (hq : q = w.heap.size)
    (l : Nat) (hl : L.length = l) (h40 : l < 10000000)
    (h : ∀ P c w', OwnK t w' B (.slice P (l + 1) c) (L ++ [⟨k, u, n⟩]) → w.grownBy w' v.ownBlock → wpList Tryz.prog ops Q rest (a.put o.dst (.slice P (l + 1) c)) w') : wpList Tryz.prog ops Q (o :: rest) a (w.alloc (.cells #[.int .i64 k, .string (txt.strOf u), .int .i64 n] ty)) := by
  subst hq
  have hba : Below w.heap.size w (w.alloc (.cells #[.int .i64 k, .string (txt.strOf u), .int .i64 n] ty)) := (Below.refl _ _).alloc (Nat.le_refl _) _
  have hsz : (w.alloc (.cells #[.int .i64 k, .string (txt.strOf u), .int .i64 n] ty)).heap.size = w.heap.size + 1 := by simp
  refine wpList_appendK hu hinfo hgd s x ho B v L hs (hown.below hba) _ 1 1 [⟨k, u, n⟩] hx (rdK_one w ty ⟨k, u, n⟩) (fun h => by cases h) (by omega) (by omega) fun v' w' h1 h2 _ => ?_
  obtain ⟨P, c, e, _⟩ := h1.form
  have e0 : (L ++ [(⟨k, u, n⟩ : Tk)]).length = l + 1 := by rw [List.length_append, hl]; rfl
  rw [e0] at e
  subst e
  exact h P c w' h1 ⟨h2.os, h2.tape, h2.output, by have := h2.size; omega, fun i hi hn => (h2.block i (by omega) hn).trans (hba.block i hi)⟩
/-- .. behind a guard that is met: append(out, x): one token, laid in a block of its own first. -/
theorem wpList_pushK_w {st t : TypeId} (hu : Tryz.prog.underlying st = some (.slice t)) (hinfo : (Tryz.prog.info? t).map (fun i => (i.zero, i.size, i.bytes)) = some (some (.agg #[.int .i64 0, .string ⟨#[]⟩, .int .i64 0]), 3, 32))
    {w : World} {ops : Array Oper} {rest : List Oper} {o : Oper} {a : Act} {Q : Exit → Act → World → Prop} (hgd : Region.wanted o (yielded ops a.tmps) = true) (s x : Operand)
    (ho : o.op = .call { callee := .builtin .append, args := #[s, x], argTypes := #[st, st] })
    (B : Nat) (v : Value) (L : List Tk) (hs : a.eval s = v) (hown : OwnK t w B v L) (hB : B ≤ w.heap.size) (k n : Int) (u : List UInt8) (ty : TypeId) (q : Nat) (hx : a.eval x = .slice (some ⟨q, 0, none⟩) 1 1) (hq : q = w.heap.size)
    (l : Nat) (hl : L.length = l) (h40 : l < 10000000)
    (h : ∀ P c w', OwnK t w' B (.slice P (l + 1) c) (L ++ [⟨k, u, n⟩]) → w.grownBy w' v.ownBlock → wpList Tryz.prog ops Q rest (a.put o.dst (.slice P (l + 1) c)) w') : wpList Tryz.prog ops Q (o :: rest) a (w.alloc (.cells #[.int .i64 k, .string (txt.strOf u), .int .i64 n] ty)) := by
  subst hq
  have hba : Below w.heap.size w (w.alloc (.cells #[.int .i64 k, .string (txt.strOf u), .int .i64 n] ty)) := (Below.refl _ _).alloc (Nat.le_refl _) _
  have hsz : (w.alloc (.cells #[.int .i64 k, .string (txt.strOf u), .int .i64 n] ty)).heap.size = w.heap.size + 1 := by simp
  refine wpList_appendK_w hu hinfo hgd s x ho B v L hs (hown.below hba) _ 1 1 [⟨k, u, n⟩] hx (rdK_one w ty ⟨k, u, n⟩) (fun h => by cases h) (by omega) (by omega) fun v' w' h1 h2 _ => ?_
  obtain ⟨P, c, e, _⟩ := h1.form
  have e0 : (L ++ [(⟨k, u, n⟩ : Tk)]).length = l + 1 := by rw [List.length_append, hl]; rfl
  rw [e0] at e
  subst e
  exact h P c w' h1 ⟨h2.os, h2.tape, h2.output, by have := h2.size; omega, fun i hi hn => (h2.block i (by omega) hn).trans (hba.block i hi)⟩
/-- The literal without elements is a row of the call's own. -/
theorem ownK_empty (t : TypeId) (w : World) : OwnK t (w.alloc (.cells #[] t)) w.heap.size (.slice (some ⟨w.heap.size, 0, none⟩) 0 0) [] := by
  have h := World.ownsRow_nil (w.alloc (.cells #[] t)) w.heap.size t 3
  refine ⟨h.1, .inr ⟨w.heap.size, 0, #[], rfl, Nat.le_refl _, heap_alloc_new w _, Nat.le_refl _, by unfold maxLen; omega, rfl, rfl⟩⟩
/-- A cell in another block than the row's own is as it was. -/
theorem grown_cell {w w' : World} {r : Option Nat} (h : w.grownBy w' r) {b o : Nat} {x : Value} (hl : b < w.heap.size) (hn : some b ≠ r) (hc : w.cell? ⟨b, o, none⟩ = some x) : w'.cell? ⟨b, o, none⟩ = some x :=
  (World.cell?_of_block (h.block b hl hn)).trans hc
theorem ownK_nilcap {t : TypeId} {w : World} {B n d : Nat} {A : Option Addr} {L : List Tk} (h : OwnK t w B (.slice A n d) L) : A = none → d = 0 := by
  obtain ⟨A', c', e, _, _, e3⟩ := h.form
  injection e with e1 e2 e4
  subst e1; subst e4
  exact e3
def lenOf : Value → Nat
  | .string s => s.size
  | _ => 0
theorem lenOf_str (l : List UInt8) : lenOf (.string (txt.strOf l)) = l.length := txt.strOf_size l
/-- Tokens and a word on them are answered. -/
def Toks (t : TypeId) (w : World) (L : List Tk) (r : Value) (e : Ending) (w' : World) : Prop := ∃ A c, e = .returned (.tuple #[.slice A L.length c, r]) ∧ OwnK t w' w.heap.size (.slice A L.length c) L ∧ Below w.heap.size w w'
theorem toks_none (t : TypeId) {w w' : World} (r : Value) (hb : Below w.heap.size w w') : Toks t w [] r (.returned (.tuple #[.slice none 0 0, r])) w' := ⟨none, 0, rfl, ownK_nil _ _ _, hb⟩
theorem toks_some {t : TypeId} {w w' : World} {L : List Tk} {A : Option Addr} {n c : Nat} (r : Value) (ho : OwnK t w' w.heap.size (.slice A n c) L) (hb : Below w.heap.size w w') : Toks t w L r (.returned (.tuple #[.slice A n c, r])) w' := by
  have hn : n = L.length := by
    obtain ⟨_, _, e, _⟩ := ho.form
    injection e
  subst hn
  exact ⟨A, c, rfl, ho, hb⟩
/-- The tokens of a text that is not too long. -/
def toks (l : List UInt8) : Option (List Tk) := if 65536 < l.length then none else tok l
def tokL (l : List UInt8) : List Tk := (toks l).getD []
def okI (l : List UInt8) : Int := if (toks l).isSome then 0 else 1
end Go.Proofs.YthgojbaindejjaaGreatDoor.lx
