/- append onto a row of boxes leaves the elder slice readable. -/
import Derived.Test.YtaegkiangjnmdaaBoxRow
namespace Go.Proofs.Ytaegkiangjnmdaa.bx
open Go.ChangeShapes Go.WideShapes Go.ChangeAt Go.RowKit Go.Proofs.Ytaegkiangjnmdaa.mem Go.Proofs.Ytaegkiangjnmdaa.prod Go.Proofs.Ytaegkiangjnmdaa.shp Go.Proofs.Ytaegkiangjnmdaa.strd Go.Proofs.Ytaegkiangjnmdaa.gam Go.Proofs.Ytaegkiangjnmdaa.sml Go.Proofs.Ytaegkiangjnmdaa.all Go.Proofs.Ytaegkiangjnmdaa.odo Go.Proofs.Ytaegkiangjnmdaa.eql Go.Proofs.Ytaegkiangjnmdaa.arr
set_option linter.unusedVariables false

/-- A slice of boxes at block g: its cells, and its elements apart from the block. -/
structure Row2 (w : World) (g : Nat) (us : List (Value × Value)) (L : List Bx) : Prop where
  len : us.length = L.length
  lt : g < w.heap.size
  cells : ∀ (k : Nat) u, us[k]? = some u → w.cell? ⟨g, k * 2, none⟩ = some u.1 ∧ w.cell? ⟨g, k * 2 + 1, none⟩ = some u.2
  els : ∀ (k : Nat) u p, us[k]? = some u → L[k]? = some p → El w (some g) u.1 p.1 ∧ El w (some g) u.2 p.2
theorem OwnX.row2 {t : TypeId} {w : World} {B g n c : Nat} {L : List Bx} (h : OwnX t w B (.slice (some ⟨g, 0, none⟩) n c) L) : ∃ us, Row2 w g us L := by
  obtain ⟨us, h0, h1, h2⟩ := h
  refine ⟨us, h0, (World.ownsRow.lt h1 g rfl).2, fun k u hu => ?_, fun k u p hu hp => ⟨(h2 k u p hu hp).1, (h2 k u p hu hp).2.1⟩⟩
  have hf := flat2_at hu
  have c1 := h1.cells (g := g) rfl _ _ hf.1
  have c2 := h1.cells (g := g) rfl _ _ hf.2
  rw [add_at] at c1 c2
  exact ⟨c1, c2⟩
theorem Row2.below {w w' : World} {g : Nat} {us : List (Value × Value)} {L : List Bx} (h : Row2 w g us L) (hb : Below w.heap.size w w') : Row2 w' g us L :=
  ⟨h.len, Nat.lt_of_lt_of_le h.lt hb.size, fun k u hu => ⟨(hb.cell (p := ⟨g, k * 2, none⟩) h.lt).trans (h.cells k u hu).1, (hb.cell (p := ⟨g, k * 2 + 1, none⟩) h.lt).trans (h.cells k u hu).2⟩, fun k u p hu hp => ⟨(h.els k u p hu hp).1.below hb, (h.els k u p hu hp).2.below hb⟩⟩
theorem Row2.rdXs {w : World} {g : Nat} {us : List (Value × Value)} {L : List Bx} (h : Row2 w g us L) : RdXs w none 0 (some ⟨g, 0, none⟩) L.length L :=
  ⟨rfl, fun k p hp => by
    obtain ⟨hk, _⟩ := List.getElem?_eq_some_iff.1 hp
    have hu : us[k]? = some (us[k]'(by rw [h.len]; exact hk)) := List.getElem?_eq_getElem _
    have hc := h.cells k _ hu
    have he := h.els k _ p hu hp
    exact ⟨_, _, _, rfl, h.lt, by simp, by rw [add_at]; exact hc.1, by rw [add_at]; exact hc.2, el_weak he.1, el_weak he.2, lies_zero _, lies_zero _⟩⟩

/-- .. and what was read stays so. -/
theorem run_append_keeps {P : Program} (w : World) (base : Nat) (t ty e : TypeId) (i : TypeInfo) (z : Value) (size bytes : Nat) (ht : P.underlying t = some (.slice e)) (hi : P.info? e = some i) (hz : i.zero = some z)
    (hsize : i.size = size) (hby : i.bytes = bytes) (hzs : z.cells.size = size) (hsz : 0 < size)
    (g n cap : Nat) (xs : List Value) (hown : w.ownsRow base e size (.slice (some ⟨g, 0, none⟩) n cap) n xs)
    (a : Addr) (m c : Nat) (news : List Value) (hl : news.length = m * size) (hnews : ∀ j u, news[j]? = some u → w.cell? (a.add j) = some u) (h1 : ∀ u ∈ news, u.oneCell' = true)
    (h63 : n + m ≤ maxLen) (hbytes : (n + m) * bytes ≤ 140737488355328) (hbase : base ≤ w.heap.size) :
    ∃ v' w', (Builtin.append_ #[t, t] ty #[.slice (some ⟨g, 0, none⟩) n cap, .slice (some a) m c]).run P w = .ok v' w' ∧ w'.ownsRow base e size v' (n + m) (xs ++ news) ∧ w.grownBy w' (some g) ∧ (v'.ownBlock = some g ∨ v'.ownBlock = some w.heap.size) ∧
      ∀ j, j < n * size → w'.cell? ⟨g, j, none⟩ = w.cell? ⟨g, j, none⟩ := by
  obtain ⟨v', w', hrun, g1, g2, _, g4⟩ := run_append_own_at (P := P) w base t ty e i z size bytes ht hi hz hsize hby hzs hsz _ n xs hown a m c news hl hnews h1 h63 hbytes hbase
  refine ⟨v', w', hrun, g1, g2, g4, fun j hj => ?_⟩
  subst hsize
  subst hby
  have hxl := hown.1
  have hcell : ∀ j u, xs[j]? = some u → w.cell? ((⟨g, 0, none⟩ : Addr).add j) = some u := World.ownsRow.cells hown rfl
  rcases hown.2 with ⟨h0, _⟩ | ⟨g', cap', cur, hv, hbg, hg, hnc, hcm, hcs, htake⟩
  · cases h0
  · injection hv with e1 e2 e3
    injection e1 with e1; injection e1 with e1
    subst e1; subst e3
    by_cases hroom : n + m ≤ cap
    · have hfit : n * i.size + news.length ≤ cur.size := by rw [hl, hcs, ← Nat.add_mul]; exact Nat.mul_le_mul_right _ hroom
      have hr := run_append_room (P := P) w t ty e i ht hi g n cap cur hg a m c news hl hnews h1 hroom hfit
      rw [hrun] at hr
      injection hr with hr1 hr2
      subst hr2
      rw [cell_of_row _ _ _ _ e (0, 0) (setRow_heap w g cur _ e _ hg), cell_of_row _ _ _ _ e (0, 0) hg]
      have hsz2 : n * i.size ≤ cur.size := by rw [hcs]; exact Nat.mul_le_mul_right _ hnc
      simp only [List.getElem?_toArray]
      rw [List.append_assoc, List.getElem?_append_left (by simp; omega), List.getElem?_take, if_pos hj, Array.getElem?_toList]
    · have hr := run_append_grow (P := P) w t ty e i z ht hi hz ⟨g, 0, none⟩ n cap xs hxl hcell a m c news hl hnews (by omega) (by unfold maxLen at h63; omega) (growslice_fits (by omega) hbytes)
      rw [hrun] at hr
      injection hr with hr1 hr2
      subst hr2
      exact World.cell?_of_block (a := ⟨g, j, none⟩) (Below.heap_alloc _ _ _ (Array.getElem?_eq_some_iff.1 hg).1)
theorem Row2.pushed {w w' : World} {g : Nat} {us : List (Value × Value)} {L : List Bx} (h : Row2 w g us L) (hg : w.grownBy w' (some g)) (hk : ∀ j, j < L.length * 2 → w'.cell? ⟨g, j, none⟩ = w.cell? ⟨g, j, none⟩) : Row2 w' g us L :=
  ⟨h.len, Nat.lt_of_lt_of_le h.lt hg.size, fun k u hu => by
    have hl : k < us.length := (List.getElem?_eq_some_iff.1 hu).1
    have := h.len
    rw [hk _ (by omega), hk _ (by omega)]
    exact h.cells k u hu, fun k u p hu hp => ⟨(h.els k u p hu hp).1.grown hg (.inl rfl), (h.els k u p hu hp).2.grown hg (.inl rfl)⟩⟩

theorem box_info2 : (Try.prog.info? 27).map (fun i => (i.zero, i.size, i.bytes)) = some (some (.agg #[.slice none 0 0, .slice none 0 0]), 2, 48) := by kernel_rfl
/-- append(l, x) as a step of a region that draws its order; l stays readable. -/
theorem step_pushXK {w : World} {B g n cap : Nat} {ops : Array Oper} {o : Oper} {a : Act} {K : Act → World → Prop} {Q : Exit → Act → World → Prop} {E : Prop} (hgd : o.guard = none ∨ Region.wanted o (yielded ops a.tmps) = true) (s x : Operand)
    (ho : o.op = .call { callee := .builtin .append, args := #[s, x], argTypes := #[41, 41] })
    (L : List Bx) (hs : a.eval s = .slice (some ⟨g, 0, none⟩) n cap) (hown : OwnX 27 w B (.slice (some ⟨g, 0, none⟩) n cap) L) (hB : B ≤ w.heap.size) (u u' : Value) (p : Bx) (h1 : El w (some g) u p.1) (h2 : El w (some g) u' p.2) (h3 : Lies B u) (h4 : Lies B u') (ty : TypeId) (hx : a.eval x = .slice (some ⟨w.heap.size, 0, none⟩) 1 1)
    (hn : L.length = n) (h40 : n ≤ 1000)
    (h : ∀ P c w', OwnX 27 w' B (.slice P (n + 1) c) (L ++ [p]) → w.grownBy w' (some g) → (∀ j, j < n * 2 → w'.cell? ⟨g, j, none⟩ = w.cell? ⟨g, j, none⟩) → K (a.put o.dst (.slice P (n + 1) c)) w') :
    if Region.wanted o (yielded ops a.tmps) = true then Oper.wp Try.prog o a (w.alloc (.cells #[u, u'] ty)) K Q else E := by
  have hw : Region.wanted o (yielded ops a.tmps) = true := by
    rcases hgd with e | e
    · simp [Region.wanted, e]
    · exact e
  rw [if_pos hw]
  subst hn
  obtain ⟨i0, hi0, hz0, hz1, hz2⟩ := info_parts box_info2
  have hone : u.oneCell' = true := by obtain ⟨A, c, rfl, _⟩ := h1; rfl
  have hone' : u'.oneCell' = true := by obtain ⟨A, c, rfl, _⟩ := h2; rfl
  have hba : Below w.heap.size w (w.alloc (.cells #[u, u'] ty)) := (Below.refl _ _).alloc (Nat.le_refl _) _
  have hB' : B ≤ (w.alloc (.cells #[u, u'] ty)).heap.size := by simp; omega
  have hgl : g < w.heap.size := (hown.lt g rfl).2
  have hown2 := hown.below hba
  have e1 := h1.below hba
  have e2 := h2.below hba
  obtain ⟨us, f0, f1, f2⟩ := hown2
  have hcells : ∀ j z, [u, u'][j]? = some z → (w.alloc (.cells #[u, u'] ty)).cell? ((⟨w.heap.size, 0, none⟩ : Addr).add j) = some z := by
    intro j z hj
    rw [add_at, cell_of_row _ _ _ _ ty (0, 0) (heap_alloc_new w _)]
    rcases j with _ | _ | j
    · simp at hj; subst hj; simp
    · simp at hj; subst hj; simp
    · simp at hj
  obtain ⟨v', w', hrun, g1, g2, g4, g5⟩ := run_append_keeps (P := Try.prog) (w.alloc (.cells #[u, u'] ty)) B 41 o.type 27 i0 _ 2 48 Try.underlying41 hi0 hz0 hz1 hz2 rfl (by omega) g L.length cap _ f1 ⟨w.heap.size, 0, none⟩ 1 1 [u, u'] (by simp) hcells (by simpa using ⟨hone, hone'⟩)
    (by unfold maxLen; omega) (by omega) hB'
  have hnew : v'.ownBlock = some g ∨ ∃ q, v'.ownBlock = some q ∧ (w.alloc (.cells #[u, u'] ty)).heap.size ≤ q := by
    rcases g4 with e | e
    · exact .inl e
    · exact .inr ⟨_, e, Nat.le_refl _⟩
  have hO : OwnX 27 w' B v' (L ++ [p]) := by
    refine ⟨us ++ [(u, u')], by simp [f0], by rw [List.length_append, flat2_append]; exact g1, fun k z q hz hq => ?_⟩
    rcases Nat.lt_or_ge k us.length with hk | hk
    · rw [List.getElem?_append_left hk] at hz
      rw [List.getElem?_append_left (by omega)] at hq
      exact ⟨(f2 k z q hz hq).1.grown g2 hnew, (f2 k z q hz hq).2.1.grown g2 hnew, (f2 k z q hz hq).2.2⟩
    · rw [List.getElem?_append_right hk] at hz
      rw [List.getElem?_append_right (by omega)] at hq
      rcases hj : k - us.length with _ | j
      · rw [hj] at hz
        rw [show k - L.length = 0 by omega] at hq
        simp at hz hq
        subst hz
        subst hq
        exact ⟨e1.grown g2 hnew, e2.grown g2 hnew, h3, h4⟩
      · rw [hj] at hz
        simp at hz
  obtain ⟨P, c, e, _⟩ := hO.form
  rw [List.length_append] at e
  have e0 : L.length + [p].length = L.length + 1 := rfl
  rw [e0] at e
  subst e
  unfold Oper.wp execOp
  simp only [ho, resolve, invoke, builtin, Sem.run_bind, Sem.run_pure, Result.andThen_ok, List.map_toArray, List.map_cons, List.map_nil, hs, hx, hrun]
  refine h P c w' hO ?_ (fun j hj => (g5 j hj).trans (hba.cell (p := ⟨g, j, none⟩) hgl))
  exact ⟨g2.os, g2.tape, g2.output, Nat.le_trans hba.size g2.size, fun i hi hn => (g2.block i (Nat.lt_of_lt_of_le hi hba.size) hn).trans (hba.block i hi)⟩
end Go.Proofs.Ytaegkiangjnmdaa.bx
