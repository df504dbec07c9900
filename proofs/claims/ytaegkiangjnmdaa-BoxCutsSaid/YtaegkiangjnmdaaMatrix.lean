/- Words for memory over slices of slices of integers: one that reads as a list of lists; a row of the call's own, its elements apart from it; append. -/
import Derived.Test.YtaegkiangjnmdaaMem
namespace Go.Proofs.Ytaegkiangjnmdaa.mem
open Go.ChangeShapes Go.WideShapes Go.ChangeAt Go.RowKit
set_option linter.unusedVariables false

theorem list_info : (Try.prog.info? 22).map (fun i => (i.zero, i.size, i.bytes)) = some (some (.slice none 0 0), 1, 24) := by kernel_rfl

/-- The value is a slice that reads as the list; its cells are not in block b. -/
def El (w : World) (b : Option Nat) (u : Value) (xs : List Int) : Prop :=
  ∃ A c, u = .slice A xs.length c ∧ xs.length ≤ c ∧ c ≤ maxLen ∧ (A = none → c = 0) ∧ ∀ k, k < xs.length → ∃ ad, A = some ad ∧ ad.block < w.heap.size ∧ some ad.block ≠ b ∧ w.cell? (ad.add k) = some (.int .i64 (xs.getD k 0))
theorem El.rd {w : World} {b : Option Nat} {u : Value} {xs : List Int} (h : El w b u xs) : ∃ A c, u = .slice A xs.length c ∧ Rd w A xs.length xs ∧ xs.length ≤ c ∧ c ≤ maxLen ∧ (A = none → c = 0) := by
  obtain ⟨A, c, rfl, h1, h2, h3, h4⟩ := h
  exact ⟨A, c, rfl, ⟨rfl, fun k hk => by obtain ⟨ad, ha, hl, _, hc⟩ := h4 k hk; exact ⟨ad, ha, hl, hc⟩⟩, h1, h2, h3⟩
theorem El.grown {w w' : World} {b b' : Option Nat} {u : Value} {xs : List Int} (h : El w b u xs) (hg : w.grownBy w' b) (hb : b' = b ∨ ∃ g, b' = some g ∧ w.heap.size ≤ g) : El w' b' u xs := by
  obtain ⟨A, c, rfl, h1, h2, h3, h4⟩ := h
  refine ⟨A, c, rfl, h1, h2, h3, fun k hk => ?_⟩
  obtain ⟨ad, ha, hl, hne, hc⟩ := h4 k hk
  refine ⟨ad, ha, Nat.lt_of_lt_of_le hl hg.size, ?_, ?_⟩
  · rcases hb with rfl | ⟨g, rfl, hge⟩
    · exact hne
    · intro e; injection e with e; omega
  · rw [World.cell?_of_block (hg.block _ (by rw [blk_add]; exact hl) (by rw [blk_add]; exact hne))]
    exact hc
theorem El.below {w w' : World} {b : Option Nat} {u : Value} {xs : List Int} (h : El w b u xs) (hb : Below w.heap.size w w') : El w' b u xs := by
  obtain ⟨A, c, rfl, h1, h2, h3, h4⟩ := h
  refine ⟨A, c, rfl, h1, h2, h3, fun k hk => ?_⟩
  obtain ⟨ad, ha, hl, hne, hc⟩ := h4 k hk
  exact ⟨ad, ha, Nat.lt_of_lt_of_le hl hb.size, hne, (hb.cell (by rw [blk_add]; exact hl)).trans hc⟩
/-- A row of the call's own from block B on is apart from each block below B. -/
theorem El.own {w : World} {B : Nat} {b : Option Nat} {u : Value} {xs : List Int} (h : Own w B u xs) (hb : ∀ g, b = some g → g < B) : El w b u xs := by
  obtain ⟨A, c, rfl, h1, h2, h3⟩ := h.form
  refine ⟨A, c, rfl, h1, h2, h3, fun k hk => ?_⟩
  obtain ⟨ad, ha, hl, hc⟩ := h.rd.2 k hk
  obtain ⟨g, cap, hv, hge, hlt⟩ := World.ownsRow.form h (by omega)
  have hA : A = some ⟨g, 0, none⟩ := by injection hv
  rw [hA] at ha
  injection ha with ha
  subst ha
  refine ⟨_, hA, hl, ?_, hc⟩
  intro e
  have := hb g e.symm
  omega

/-- The slice value reads as the list of lists. -/
def RdM (w : World) (A : Option Addr) (n : Nat) (xss : List (List Int)) : Prop :=
  xss.length = n ∧ ∀ k xs, xss[k]? = some xs → ∃ ad u, A = some ad ∧ ad.block < w.heap.size ∧ w.cell? (ad.add k) = some u ∧ El w none u xs
theorem RdM.below {w w' : World} {A : Option Addr} {n : Nat} {xss : List (List Int)} (h : RdM w A n xss) (hb : Below w.heap.size w w') : RdM w' A n xss :=
  ⟨h.1, fun k xs hk => by
    obtain ⟨ad, u, ha, hl, hc, he⟩ := h.2 k xs hk
    exact ⟨ad, u, ha, Nat.lt_of_lt_of_le hl hb.size, (hb.cell (by rw [blk_add]; exact hl)).trans hc, he.below hb⟩⟩
theorem RdM.at_ {w : World} {A : Option Addr} {n : Nat} {xss : List (List Int)} (h : RdM w A n xss) {k : Nat} {xs : List Int} (hx : xss[k]? = some xs) :
    ∃ ad P c, A = some ad ∧ ad.block < w.heap.size ∧ w.cell? (ad.add k) = some (.slice P xs.length c) ∧ Rd w P xs.length xs ∧ xs.length ≤ c ∧ c ≤ maxLen ∧ (P = none → c = 0) := by
  obtain ⟨ad, u, ha, hl, hc, he⟩ := h.2 k xs hx
  obtain ⟨P, c, rfl, h1, h2, h3, h4⟩ := he.rd
  exact ⟨ad, P, c, ha, hl, hc, h1, h2, h3, h4⟩
theorem Own.shape {w : World} {B : Nat} {v : Value} {xs : List Int} (h : Own w B v xs) : ∃ A m c, v = .slice A m c := by
  obtain ⟨A, c, e, _⟩ := h.form
  exact ⟨A, _, c, e⟩
theorem own_empty (w : World) : Own (w.alloc (.cells #[] 3)) w.heap.size (.slice (some ⟨w.heap.size, 0, none⟩) 0 0) [] :=
  World.ownsRow_made w #[] 0 (Nat.le_refl _) (by unfold maxLen; omega) rfl
theorem rdM_one {w : World} {A : Option Addr} {ad : Addr} {u : Value} {xs : List Int} (ha : A = some ad) (hl : ad.block < w.heap.size) (hc : w.cell? ad = some u) (he : El w none u xs) : RdM w A 1 [xs] :=
  ⟨rfl, fun k ys hk => by
    rcases k with _ | k
    · simp at hk
      subst hk
      exact ⟨ad, u, ha, hl, by unfold Addr.add; simpa using hc, he⟩
    · simp at hk⟩

/-- A row of slices of the call's own (from block B on), each of which reads as its list and is apart from the row. -/
def OwnL (w : World) (B : Nat) (v : Value) (xss : List (List Int)) : Prop :=
  ∃ us : List Value, w.ownsRow B 22 1 v xss.length us ∧ ∀ (k : Nat) (u : Value) (xs : List Int), us[k]? = some u → xss[k]? = some xs → El w v.ownBlock u xs
theorem ownL_nil (w : World) (B : Nat) : OwnL w B (.slice none 0 0) [] := ⟨[], World.ownsRow_nil w B _ 1, fun k u xs h => by simp at h⟩
theorem OwnL.form {w : World} {B : Nat} {v : Value} {xss : List (List Int)} (h : OwnL w B v xss) : ∃ A c, v = .slice A xss.length c ∧ xss.length ≤ c ∧ c ≤ maxLen ∧ (A = none → c = 0) := by
  obtain ⟨us, h, _⟩ := h
  rcases h.2 with ⟨rfl, h0⟩ | ⟨g, cap, cur, rfl, _, _, hc, hm, _⟩
  · exact ⟨none, 0, by rw [h0], by omega, by unfold maxLen; omega, fun _ => rfl⟩
  · exact ⟨_, _, rfl, hc, hm, fun h => by cases h⟩
theorem OwnL.below {w w' : World} {B : Nat} {v : Value} {xss : List (List Int)} (h : OwnL w B v xss) (hb : Below w.heap.size w w') : OwnL w' B v xss := by
  obtain ⟨us, h1, h2⟩ := h
  exact ⟨us, World.ownsRow.kept (row := none) h1 ⟨hb.os, hb.tape, hb.output, hb.size, fun k hk _ => hb.block k hk⟩ (by cases hv : v.ownBlock <;> simp), fun k u xs a b => (h2 k u xs a b).below hb⟩
theorem OwnL.lt {w : World} {B : Nat} {v : Value} {xss : List (List Int)} (h : OwnL w B v xss) : ∀ g, v.ownBlock = some g → g < w.heap.size := by
  obtain ⟨us, h1, _⟩ := h
  exact fun g hg => (h1.lt g hg).2
theorem OwnL.le {w : World} {B B' : Nat} {v : Value} {xss : List (List Int)} (h : OwnL w B v xss) (hb : B' ≤ B) : OwnL w B' v xss := by
  obtain ⟨us, h1, h2⟩ := h
  exact ⟨us, Go.Joins.ownsRow_le h1 hb, h2⟩
theorem OwnL.rdM {w : World} {B : Nat} {A : Option Addr} {n c : Nat} {xss : List (List Int)} (h : OwnL w B (.slice A n c) xss) : RdM w A n xss := by
  have hn : n = xss.length := by
    obtain ⟨_, _, e, _⟩ := h.form
    injection e
  subst hn
  obtain ⟨us, h1, h2⟩ := h
  refine ⟨rfl, fun k xs hk => ?_⟩
  obtain ⟨hl, _⟩ := List.getElem?_eq_some_iff.1 hk
  obtain ⟨g, cap, hv, _, hlt⟩ := World.ownsRow.form h1 (by omega)
  have hA : A = some ⟨g, 0, none⟩ := by injection hv
  subst hA
  have hu : k < us.length := by rw [h1.1]; omega
  have he := h2 k us[k] xs (List.getElem?_eq_getElem hu) hk
  refine ⟨_, us[k], rfl, hlt, h1.cells (g := g) rfl k _ (List.getElem?_eq_getElem hu), ?_⟩
  obtain ⟨P, d, e, e1, e2, e3, e4⟩ := he
  exact ⟨P, d, e, e1, e2, e3, fun j hj => by obtain ⟨ad, q1, q2, q3, q4⟩ := e4 j hj; exact ⟨ad, q1, q2, by simp, q4⟩⟩

/-- append(rows, row): one slice, laid in a block of its own first. -/
theorem wpList_pushL {W w : World} {ops : Array Oper} {rest : List Oper} {o : Oper} {a : Act} {Q : Exit → Act → World → Prop} (hgd : o.guard = none) (s x : Operand)
    (ho : o.op = .call { callee := .builtin .append, args := #[s, x], argTypes := #[36, 36] })
    (v : Value) (xss : List (List Int)) (hs : a.eval s = v) (hown : OwnL w W.heap.size v xss) (hb : Below W.heap.size W w) (u : Value) (ys : List Int) (hel : El w v.ownBlock u ys) (t : TypeId) (hx : a.eval x = .slice (some ⟨w.heap.size, 0, none⟩) 1 1)
    (h40 : xss.length < 1099511627776)
    (h : ∀ v' w', OwnL w' W.heap.size v' (xss ++ [ys]) → Below W.heap.size W w' → wpList Try.prog ops Q rest (a.put o.dst v') w') : wpList Try.prog ops Q (o :: rest) a (w.alloc (.cells #[u] t)) := by
  obtain ⟨i0, hi0, hz0, hz1, hz2⟩ := info_parts list_info
  have hone : u.oneCell' = true := by obtain ⟨A, c, rfl, _⟩ := hel; rfl
  have hba : Below w.heap.size w (w.alloc (.cells #[u] t)) := (Below.refl _ _).alloc (Nat.le_refl _) _
  have hB : W.heap.size ≤ (w.alloc (.cells #[u] t)).heap.size := by have := hb.size; simp; omega
  have hown2 := hown.below hba
  have hel2 := hel.below hba
  obtain ⟨us, h1, h2⟩ := hown2
  have hcells : ∀ j z, [u][j]? = some z → (w.alloc (.cells #[u] t)).cell? ((⟨w.heap.size, 0, none⟩ : Addr).add j) = some z := by
    intro j z hj
    rcases j with _ | j
    · simp at hj
      subst hj
      rw [add_at, cell_of_row _ _ _ _ t (0, 0) (heap_alloc_new w _)]
      simp
    · simp at hj
  obtain ⟨v', w', hrun, g1, g2, _, g4⟩ := run_append_own_at (P := Try.prog) (w.alloc (.cells #[u] t)) W.heap.size 36 o.type 22 i0 _ 1 24 Try.underlying36 hi0 hz0 hz1 hz2 rfl (by omega) v _ _ h1 ⟨w.heap.size, 0, none⟩ 1 1 [u] (by simp) hcells (by simpa using hone)
    (by unfold maxLen; omega) (by omega) hB
  refine wpList_plain hgd fun K hK => ?_
  unfold Oper.wp execOp
  simp only [ho, resolve, invoke, builtin, Sem.run_bind, Sem.run_pure, Result.andThen_ok, List.map_toArray, List.map_cons, List.map_nil, hs, hx, hrun]
  have hnew : v'.ownBlock = v.ownBlock ∨ ∃ g, v'.ownBlock = some g ∧ (w.alloc (.cells #[u] t)).heap.size ≤ g := by
    rcases g4 with e | e
    · exact .inl e
    · exact .inr ⟨_, e, Nat.le_refl _⟩
  refine hK _ _ (h v' w' ⟨us ++ [u], by rw [List.length_append]; exact g1, fun k z xs hz hxs => ?_⟩ ((hb.alloc hb.size _).grown g2 hB fun k hk => (h1.lt k hk).1))
  have hul : us.length = xss.length := by rw [h1.1]; omega
  rcases Nat.lt_or_ge k us.length with hk | hk
  · rw [List.getElem?_append_left hk] at hz
    rw [List.getElem?_append_left (by omega)] at hxs
    exact (h2 k z xs hz hxs).grown g2 hnew
  · rw [List.getElem?_append_right hk] at hz
    rw [List.getElem?_append_right (by omega)] at hxs
    rcases hj : k - us.length with _ | j
    · rw [hj] at hz
      rw [show k - xss.length = 0 by omega] at hxs
      simp at hz hxs
      subst hz
      subst hxs
      exact hel2.grown g2 hnew
    · rw [hj] at hz
      simp at hz

/-- What a call answers that makes a slice of slices. -/
def MakesM (w : World) (xss : List (List Int)) (e : Ending) (w' : World) : Prop := ∃ A c, e = .returned (.slice A xss.length c) ∧ RdM w' A xss.length xss ∧ xss.length ≤ c ∧ c ≤ maxLen ∧ (A = none → c = 0) ∧ Below w.heap.size w w'

/-- A row of slices of the call's own (from block B on), each of which is a row of its own: no two of them, nor one of them and the row, lie in one block. -/
def OwnM (w : World) (B : Nat) (v : Value) (xss : List (List Int)) : Prop :=
  ∃ us : List Value, w.ownsRow B 22 1 v xss.length us ∧ (∀ (k : Nat) (u : Value) (xs : List Int), us[k]? = some u → xss[k]? = some xs → Own w B u xs ∧ ∀ g, u.ownBlock = some g → v.ownBlock ≠ some g) ∧
    ∀ (j k : Nat) (a b : Value), us[j]? = some a → us[k]? = some b → j ≠ k → ∀ g, a.ownBlock = some g → b.ownBlock ≠ some g
theorem Own.lt_ {w : World} {B : Nat} {v : Value} {xs : List Int} (h : Own w B v xs) : ∀ g, v.ownBlock = some g → B ≤ g ∧ g < w.heap.size := World.ownsRow.lt h
theorem Own.grown_ {w w' : World} {B : Nat} {v : Value} {xs : List Int} {row : Option Nat} (h : Own w B v xs) (hg : w.grownBy w' row) (hr : ∀ g, v.ownBlock = some g → row ≠ some g) : Own w' B v xs :=
  World.ownsRow.kept (row := row) h hg (by
    cases hv : v.ownBlock with
    | none => exact .inl rfl
    | some g => exact .inr fun e => hr g hv e.symm)
theorem El.of_own {w : World} {B : Nat} {b : Option Nat} {u : Value} {xs : List Int} (h : Own w B u xs) (hb : ∀ g, u.ownBlock = some g → b ≠ some g) : El w b u xs := by
  obtain ⟨A, c, rfl, h1, h2, h3⟩ := h.form
  refine ⟨A, c, rfl, h1, h2, h3, fun k hk => ?_⟩
  obtain ⟨ad, ha, hl, hc⟩ := h.rd.2 k hk
  exact ⟨ad, ha, hl, fun e => hb ad.block (by rw [ha]; rfl) e.symm, hc⟩
theorem OwnM.ownL {w : World} {B : Nat} {v : Value} {xss : List (List Int)} (h : OwnM w B v xss) : OwnL w B v xss := by
  obtain ⟨us, h1, h2, _⟩ := h
  exact ⟨us, h1, fun k u xs hu hx => El.of_own (h2 k u xs hu hx).1 (h2 k u xs hu hx).2⟩
theorem ownM_nil (w : World) (B : Nat) : OwnM w B (.slice none 0 0) [] := ⟨[], World.ownsRow_nil w B _ 1, fun k u xs h => by simp at h, fun j k a b h => by simp at h⟩
theorem OwnM.form {w : World} {B : Nat} {v : Value} {xss : List (List Int)} (h : OwnM w B v xss) : ∃ A c, v = .slice A xss.length c ∧ xss.length ≤ c ∧ c ≤ maxLen ∧ (A = none → c = 0) := h.ownL.form
theorem OwnM.below {w w' : World} {B : Nat} {v : Value} {xss : List (List Int)} (h : OwnM w B v xss) (hb : Below w.heap.size w w') : OwnM w' B v xss := by
  obtain ⟨us, h1, h2, h3⟩ := h
  exact ⟨us, World.ownsRow.kept (row := none) h1 ⟨hb.os, hb.tape, hb.output, hb.size, fun k hk _ => hb.block k hk⟩ (by cases hv : v.ownBlock <;> simp), fun k u xs a b => ⟨(h2 k u xs a b).1.below hb, (h2 k u xs a b).2⟩, h3⟩
theorem OwnM.le {w : World} {B B' : Nat} {v : Value} {xss : List (List Int)} (h : OwnM w B v xss) (hb : B' ≤ B) : OwnM w B' v xss := by
  obtain ⟨us, h1, h2, h3⟩ := h
  exact ⟨us, Go.Joins.ownsRow_le h1 hb, fun k u xs a b => ⟨(h2 k u xs a b).1.le hb, (h2 k u xs a b).2⟩, h3⟩
theorem OwnM.rdM {w : World} {B : Nat} {A : Option Addr} {n c : Nat} {xss : List (List Int)} (h : OwnM w B (.slice A n c) xss) : RdM w A n xss := h.ownL.rdM
theorem OwnM.lt_ {w : World} {B : Nat} {v : Value} {xss : List (List Int)} (h : OwnM w B v xss) : ∀ g, v.ownBlock = some g → B ≤ g ∧ g < w.heap.size := by
  obtain ⟨us, h1, _⟩ := h
  exact World.ownsRow.lt h1
/-- One row, laid by a literal. -/
theorem ownM_one {w : World} {B : Nat} {u : Value} {xs : List Int} (h : Own w B u xs) (hone : u.oneCell' = true) (hB : B ≤ w.heap.size) : OwnM (w.alloc (.cells #[u] 22)) B (.slice (some ⟨w.heap.size, 0, none⟩) 1 1) [xs] := by
  have hb : Below w.heap.size w (w.alloc (.cells #[u] 22)) := (Below.refl _ _).alloc (Nat.le_refl _) _
  refine ⟨[u], ⟨by simp, .inr ⟨w.heap.size, 1, #[u], rfl, hB, heap_alloc_new w _, Nat.le_refl _, by unfold maxLen; omega, by simp, by simp⟩⟩, fun k z ys hz hy => ?_, fun j k a b ha hb' hne => ?_⟩
  · rcases k with _ | k
    · simp at hz hy
      subst hz
      subst hy
      refine ⟨h.below hb, fun g hg e => ?_⟩
      have h1 := (h.lt_ g hg).2
      simp [Value.ownBlock] at e
      omega
    · simp at hz
  · rcases j with _ | j <;> rcases k with _ | k <;> simp at ha hb' hne

/-- append(rows, row): a row that was made since. -/
theorem wpList_pushM {W wp w : World} {ops : Array Oper} {rest : List Oper} {o : Oper} {a : Act} {Q : Exit → Act → World → Prop} (hgd : o.guard = none) (s x : Operand)
    (ho : o.op = .call { callee := .builtin .append, args := #[s, x], argTypes := #[36, 36] })
    (v : Value) (xss : List (List Int)) (hs : a.eval s = v) (hown0 : OwnM wp W.heap.size v xss) (hpw : Below wp.heap.size wp w) (hb : Below W.heap.size W w) (u : Value) (ys : List Int) (hel : Own w wp.heap.size u ys) (hWp : W.heap.size ≤ wp.heap.size) (t : TypeId) (hx : a.eval x = .slice (some ⟨w.heap.size, 0, none⟩) 1 1)
    (h40 : xss.length < 1099511627776)
    (h : ∀ v' w', OwnM w' W.heap.size v' (xss ++ [ys]) → Below W.heap.size W w' → wpList Try.prog ops Q rest (a.put o.dst v') w') : wpList Try.prog ops Q (o :: rest) a (w.alloc (.cells #[u] t)) := by
  obtain ⟨i0, hi0, hz0, hz1, hz2⟩ := info_parts list_info
  have hone : u.oneCell' = true := by obtain ⟨A, c, rfl, _⟩ := hel.form; rfl
  have hba : Below w.heap.size w (w.alloc (.cells #[u] t)) := (Below.refl _ _).alloc (Nat.le_refl _) _
  have hB : W.heap.size ≤ (w.alloc (.cells #[u] t)).heap.size := by have := hb.size; simp; omega
  have hel2 := hel.below hba
  have hpa : Below wp.heap.size wp (w.alloc (.cells #[u] t)) := hpw.trans (hba.mono hpw.size)
  obtain ⟨us, g1, g2, h3⟩ := hown0
  have h1 := World.ownsRow.kept (row := none) g1 ⟨hpa.os, hpa.tape, hpa.output, hpa.size, fun k hk _ => hpa.block k hk⟩ (by cases hv : v.ownBlock <;> simp)
  have h2 : ∀ (k : Nat) (z : Value) (xs : List Int), us[k]? = some z → xss[k]? = some xs → Own (w.alloc (.cells #[u] t)) W.heap.size z xs ∧ ∀ g, z.ownBlock = some g → v.ownBlock ≠ some g := fun k z xs a b => ⟨(g2 k z xs a b).1.below hpa, (g2 k z xs a b).2⟩
  have hvp : ∀ g, v.ownBlock = some g → g < wp.heap.size := fun g hg => (World.ownsRow.lt g1 g hg).2
  have hcells : ∀ j z, [u][j]? = some z → (w.alloc (.cells #[u] t)).cell? ((⟨w.heap.size, 0, none⟩ : Addr).add j) = some z := by
    intro j z hj
    rcases j with _ | j
    · simp at hj
      subst hj
      rw [add_at, cell_of_row _ _ _ _ t (0, 0) (heap_alloc_new w _)]
      simp
    · simp at hj
  obtain ⟨v', w', hrun, q1, q2, _, q4⟩ := run_append_own_at (P := Try.prog) (w.alloc (.cells #[u] t)) W.heap.size 36 o.type 22 i0 _ 1 24 Try.underlying36 hi0 hz0 hz1 hz2 rfl (by omega) v _ _ h1 ⟨w.heap.size, 0, none⟩ 1 1 [u] (by simp) hcells (by simpa using hone)
    (by unfold maxLen; omega) (by omega) hB
  refine wpList_plain hgd fun K hK => ?_
  unfold Oper.wp execOp
  simp only [ho, resolve, invoke, builtin, Sem.run_bind, Sem.run_pure, Result.andThen_ok, List.map_toArray, List.map_cons, List.map_nil, hs, hx, hrun]
  have hul : us.length = xss.length := by rw [h1.1]; omega
  -- the row's new block is its old one, or a new one
  have hvn : ∀ g, v'.ownBlock = some g → v.ownBlock = some g ∨ (w.alloc (.cells #[u] t)).heap.size ≤ g := by
    intro g hg
    rcases q4 with e | e
    · exact .inl (e ▸ hg)
    · rw [e] at hg; injection hg with hg; exact .inr (by omega)
  have hold : ∀ (k : Nat) (z : Value) (xs : List Int), us[k]? = some z → xss[k]? = some xs → Own w' W.heap.size z xs ∧ ∀ g, z.ownBlock = some g → v'.ownBlock ≠ some g := by
    intro k z xs hz hxs
    obtain ⟨e1, e2⟩ := h2 k z xs hz hxs
    refine ⟨e1.grown_ q2 fun g hg => e2 g hg, fun g hg e => ?_⟩
    rcases hvn g e with e3 | e3
    · exact e2 g hg e3
    · have := (e1.lt_ g hg).2; omega
  have hnew : Own w' W.heap.size u ys ∧ ∀ g, u.ownBlock = some g → v'.ownBlock ≠ some g := by
    have e0 := hel2.lt_
    refine ⟨(hel2.grown_ q2 fun g hg e => ?_).le hWp, fun g hg e => ?_⟩
    · have := hvp g e; have := (e0 g hg).1; omega
    · rcases hvn g e with e3 | e3
      · have := hvp g e3; have := (e0 g hg).1; omega
      · have := (e0 g hg).2; omega
  -- an element that was there lies below wp's size
  have hlow : ∀ (k : Nat) (z : Value), us[k]? = some z → ∀ g, z.ownBlock = some g → g < wp.heap.size := by
    intro k z hz g hg
    have hk : k < us.length := by
      rcases Nat.lt_or_ge k us.length with h' | h'
      · exact h'
      · rw [List.getElem?_eq_none h'] at hz; cases hz
    obtain ⟨xs, hxs⟩ : ∃ xs, xss[k]? = some xs := ⟨_, List.getElem?_eq_getElem (by omega)⟩
    exact ((g2 k z xs hz hxs).1.lt_ g hg).2
  refine hK _ _ (h v' w' ⟨us ++ [u], by rw [List.length_append]; exact q1, fun k z xs hz hxs => ?_, fun j k a b ha hb' hne g hg hgb => ?_⟩ ((hb.alloc hb.size _).grown q2 hB fun k hk => (h1.lt k hk).1))
  · rcases Nat.lt_or_ge k us.length with hk | hk
    · rw [List.getElem?_append_left hk] at hz
      rw [List.getElem?_append_left (by omega)] at hxs
      exact hold k z xs hz hxs
    · rw [List.getElem?_append_right hk] at hz
      rw [List.getElem?_append_right (by omega)] at hxs
      rcases hj : k - us.length with _ | j
      · rw [hj] at hz
        rw [show k - xss.length = 0 by omega] at hxs
        simp at hz hxs
        subst hz
        subst hxs
        exact hnew
      · rw [hj] at hz
        simp at hz
  · have part : ∀ (i : Nat) (z : Value), (us ++ [u])[i]? = some z → (us[i]? = some z ∧ i < us.length) ∨ (z = u ∧ i = us.length) := by
      intro i z hz
      rcases Nat.lt_or_ge i us.length with hk | hk
      · rw [List.getElem?_append_left hk] at hz
        exact .inl ⟨hz, hk⟩
      · rw [List.getElem?_append_right hk] at hz
        rcases hj : i - us.length with _ | j
        · rw [hj] at hz
          simp at hz
          exact .inr ⟨hz.symm, by omega⟩
        · rw [hj] at hz
          simp at hz
    rcases part j a ha with ⟨e1, l1⟩ | ⟨rfl, l1⟩ <;> rcases part k b hb' with ⟨e2, l2⟩ | ⟨rfl, l2⟩
    · exact h3 j k a b e1 e2 hne g hg hgb
    · have := hlow j a e1 g hg; have := (hel2.lt_ g hgb).1; omega
    · have := hlow k b e2 g hgb; have := (hel2.lt_ g hg).1; omega
    · omega

/-- What a call answers that makes a slice of slices of its own. -/
def MakesO (w : World) (xss : List (List Int)) (e : Ending) (w' : World) : Prop := ∃ A c, e = .returned (.slice A xss.length c) ∧ OwnM w' w.heap.size (.slice A xss.length c) xss ∧ xss.length ≤ c ∧ c ≤ maxLen ∧ (A = none → c = 0) ∧ Below w.heap.size w w'
theorem MakesO.makesM {w : World} {xss : List (List Int)} {e : Ending} {w' : World} (h : MakesO w xss e w') : MakesM w xss e w' := by
  obtain ⟨A, c, rfl, h1, h2, h3, h4, h5⟩ := h
  exact ⟨A, c, rfl, h1.rdM, h2, h3, h4, h5⟩
end Go.Proofs.Ytaegkiangjnmdaa.mem
