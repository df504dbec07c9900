/- The walk of OdometerShapes. -/
import Derived.Test.YtcdjmcjoknibkaaLawSplits
import Derived.Test.YtcdjmcjoknibkaaRefGamma
import Derived.Test.YtcdjmcjoknibkaaSmall
import Derived.Deep.RegionWith
import Derived.Deep.RegionHeld3
import Derived.Shelf.RegionOpen
namespace Go.Proofs.Ytcdjmcjoknibkaa.laws
open Go.ChangeShapes Go.WideShapes Go.ChangeAt Go.RowKit Go.Shelf Go.Proofs.Ytcdjmcjoknibkaa.mem Go.Proofs.Ytcdjmcjoknibkaa.prod Go.Proofs.Ytcdjmcjoknibkaa.shp Go.Proofs.Ytcdjmcjoknibkaa.eql Go.Proofs.Ytcdjmcjoknibkaa.strd Go.Proofs.Ytcdjmcjoknibkaa.gam Go.Proofs.Ytcdjmcjoknibkaa.sml Go.Proofs.Ytcdjmcjoknibkaa.all Go.Proofs.Ytcdjmcjoknibkaa.odo Go.Proofs.Ytcdjmcjoknibkaa.iter
set_option linter.unusedVariables false
attribute [local go_sem] Oper.semAt_some

theorem boxed_below {W W' : World} {B : Nat} {t : TypeId} {v : Value} (h : Boxed W B t v) (hb : Below W.heap.size W W') : Boxed W' B t v := (hb.block B h.lt).trans h

theorem dims_zeros : ∀ {xs : List Int}, (∀ x ∈ xs, 0 ≤ x) → dimsL (List.replicate xs.length 0) xs = xs
  | [], _ => rfl
  | x :: xs, h => by
    show max (x - 0) 0 :: dimsL (List.replicate xs.length 0) xs = x :: xs
    rw [dims_zeros fun z hz => h z (by simp [hz])]
    have := h x (by simp)
    congr 1
    omega
theorem add_zeros : ∀ {p : List Int} {n : Nat}, p.length = n → addL (List.replicate n 0) p = p
  | [], n, _ => by simp [addL]
  | y :: p, 0, h => by simp at h
  | y :: p, n + 1, h => by
    show (y + 0) :: addL (List.replicate n 0) p = y :: p
    rw [add_zeros (by simpa using h)]
    simp
theorem rng_zeros {xs : List Int} {n : Nat} (hn : xs.length = n) (h : ∀ x ∈ xs, 0 ≤ x) : rngs (List.replicate n 0) xs = idxs xs := by
  subst hn
  rw [rng_idxs (by simp), dims_zeros h]
  apply List.ext_getElem
  · simp
  · intro k h1 h2
    simp only [List.getElem_map]
    refine add_zeros ?_
    unfold idxs
    simp [idx_len]
theorem cel_prod {xs : List Int} (h0 : chkE xs = 0) : celN xs = prodL xs := by
  by_cases hc : celN xs = 0
  · by_cases hp : prodL xs = 0
    · omega
    · have := right_ones h0 (prodL_ones (fun x hx => (chk_all h0 x hx).1) hp)
      omega
  · exact (right_some h0 hc).2.1.symm
theorem rof_idx {xs : List Int} {k : Nat} (h0 : chkE xs = 0) (hk : k < (prodL xs).toNat) : rofN xs (idxL xs (k : Int)) = (k : Int) := by
  have hin : inB xs (k : Int) = true := decide_eq_true ⟨by omega, by rw [cel_prod h0]; omega⟩
  obtain ⟨g1, g2, g3, _⟩ := in_ones h0 hin
  have er := idx_right g1 g2 g3
  unfold rofN
  rw [if_pos er.1, er.2]

set_option maxHeartbeats 1000000 in
theorem shapes_wrong (A : Option Addr) (n c : Nat) (xs : List Int) (w : World) (hx : In w A n c xs) (h : smlB xs 300 = false) :
    Calls Try.prog 4 #[.slice A n c] w (Holds w) := by
  have PS := fun W h => small_any A n c xs 300 W hx.len h (by omega) (by omega)
  rw [h] at PS
  have PS := fun W h => Lib.hid (PS W h)
  have HX := Lib.hid hx.rd
  rename_i q1; clear q1 hx h
  refine (callsIn_wide (n := 3)).1 ?_
  refine callsIn_of_wp_marks Try.func4 rfl trivial ?_ rfl
  simp only [Try.ntmps4, List.size_toArray, List.length_cons, List.length_nil, Nat.reduceAdd, Nat.reduceSub, Array.replicate_succ, Array.replicate_zero, List.push_toArray, List.append_toArray, List.nil_append, List.cons_append]
  refine wpIn_wide.2 ?_
  have T0 := Lib.hid (((Aft.refl w).alloc (.cells #[.slice A n c] 22)).alloc (.cells #[.bool false] 4))
  have B1 := Lib.hid ((Boxed.new w 22 (.slice A n c)).alloc (.cells #[.bool false] 4))
  have B2 := Lib.hid (show Boxed ((w.alloc (.cells #[.slice A n c] 22)).alloc (.cells #[.bool false] 4)) (w.heap.size + 1) 4 (.bool false) by have := Boxed.new (w.alloc (.cells #[.slice A n c] 22)) 4 (.bool false); rwa [World.size_alloc] at this)
  go_wp2_with fail
  refine (awake_true _).mono ?_
  rintro e w1 ⟨rfl, hb⟩
  have T1 := Lib.hid (T0.out.call hb)
  have B11 := Lib.hid (boxed_below B1.out hb)
  have B12 := Lib.hid (boxed_below B2.out hb)
  have hc1 := B11.out.cell
  clear hb T0 B1 B2
  go_wp2_with fail
  refine (PS _ (T1.out.rd HX.out)).out.mono ?_
  rintro e w' ⟨rfl, rfl⟩
  clear hc1
  go_wp2_with fail
  refine (awake_true _).mono ?_
  rintro e w2 ⟨rfl, hb⟩
  have T2 := Lib.hid (T1.out.call hb)
  have B22 := Lib.hid (boxed_below B12.out hb)
  have hc2 := B22.out.cell
  have hf2 := B22.out.frozen
  clear hb T1 B11 B12
  go_wp2_with fail
  have hc3 : (w2.setCell ⟨w.heap.size + 1, 0, none⟩ (.bool true)).cell? ⟨w.heap.size + 1, 0, none⟩ = some (.bool true) := set_same hc2
  exact ⟨_, by simp [results, Try.results4, go_sem, hc3], rfl, Below.setCell T2.out (p := ⟨w.heap.size + 1, 0, none⟩) (by simp) _⟩

set_option maxHeartbeats 4000000 in
theorem shapes_right (A : Option Addr) (n c : Nat) (xs : List Int) (w : World) (hx : In w A n c xs) (h : smlB xs 300 = true) :
    Calls Try.prog 4 #[.slice A n c] w (Holds w) := by
  have PS := fun W h => small_any A n c xs 300 W hx.len h (by omega) (by omega)
  rw [h] at PS
  have PS := fun W h => Lib.hid (PS W h)
  obtain ⟨hl6, h0, hc300, _⟩ := of_decide_eq_true h
  have hn6 : n ≤ 6 := by rw [← hx.rd.1]; exact hl6
  have ha := chk_all h0
  have hge : ∀ x ∈ xs, 0 ≤ x := fun x hx => (ha x hx).1
  have hcp := cel_prod h0
  have hp0 := (prodL_max hge).1
  obtain ⟨N, hN⟩ := Int.eq_ofNat_of_zero_le hp0
  have hN300 : N ≤ 300 := by omega
  have hR := rng_zeros hx.rd.1 hge
  have hRL : (idxs xs).length = N := by rw [idxs_len, hN]; simp
  have PA := fun W h => all_any A n c xs W (by omega) h hx.none_
  have PC := fun W h => refCells_any A n c xs W hx.len h
  rw [hcp, hN] at PC
  have PO : ∀ (k : Nat), k < N → ∀ (W : World) (P : Option Addr) (m l : Nat), Rd W A n xs → Rd W P l (idxL xs (k : Int)) → l ≤ maxLen → Hid (Calls Try.prog 17 #[.slice A n c, .slice P l m] W (Num W (k : Int))) := by
    intro k hk W P m l h1 h2 hl
    have h3 := refOffset_any A P n c l m xs (idxL xs (k : Int)) W hx.len hl h1 h2 h0
    rw [rof_idx h0 (by rw [hN]; simpa using hk)] at h3
    exact Lib.hid h3
  have PQ := fun (v1 v2 : Value) (w' : World) b h1 h2 h3 h4 h5 => between_seq (3 - 1) b n v1 v2 (List.replicate n 0) xs w' h1 h2 h3 h4 h5 (by simp) hx.rd.1 (by omega) (fun x hx => by have := List.eq_of_mem_replicate hx; omega) (fun x hx => by have := ha x hx; omega)
  rw [hR] at PQ
  have HX := Lib.hid hx.rd; have HPO := Lib.hid PO; have HPQ := Lib.hid PQ; have HRL := Lib.hid hRL
  have PA := fun W h => Lib.hid (PA W h)
  have PC := fun W h => Lib.hid (PC W h)
  have HAT := Lib.hid (fun (k : Nat) (p : List Int) (h : (idxs xs)[k]? = some p) => show k < N ∧ p = idxL xs (k : Int) by
    have hk : k < N := by
      rw [← hRL]
      exact (List.getElem?_eq_some_iff.1 h).1
    rw [idxs_at (by rw [hN]; simpa using hk)] at h
    exact ⟨hk, by injection h with h; exact h.symm⟩)
  rename_i q1 q2 q3
  clear q1 q2 q3 hx h hl6 h0 hc300 ha hge hcp hp0 hN hR hRL PO PQ
  refine (callsIn_wide (n := 3)).1 ?_
  refine callsIn_of_wp_marks Try.func4 rfl trivial ?_ rfl
  simp only [Try.ntmps4, List.size_toArray, List.length_cons, List.length_nil, Nat.reduceAdd, Nat.reduceSub, Array.replicate_succ, Array.replicate_zero, List.push_toArray, List.append_toArray, List.nil_append, List.cons_append]
  refine wpIn_wide.2 ?_
  have T0 := Lib.hid (((Aft.refl w).alloc (.cells #[.slice A n c] 22)).alloc (.cells #[.bool false] 4))
  have B1 := Lib.hid ((Boxed.new w 22 (.slice A n c)).alloc (.cells #[.bool false] 4))
  have B2 := Lib.hid (show Boxed ((w.alloc (.cells #[.slice A n c] 22)).alloc (.cells #[.bool false] 4)) (w.heap.size + 1) 4 (.bool false) by have := Boxed.new (w.alloc (.cells #[.slice A n c] 22)) 4 (.bool false); rwa [World.size_alloc] at this)
  go_wp2_with fail
  refine (awake_true _).mono ?_
  rintro e w1 ⟨rfl, hb⟩
  have T1 := Lib.hid (T0.out.call hb)
  have B11 := Lib.hid (boxed_below B1.out hb)
  have B12 := Lib.hid (boxed_below B2.out hb)
  have hc1 := B11.out.cell
  have hsz : w.heap.size + 2 ≤ w1.heap.size := by have := hb.size; simp at this; omega
  have HSZ := Lib.hid hsz
  clear hb T0 B1 B2 hsz
  go_wp2_with fail
  refine (PS _ (T1.out.rd HX.out)).out.mono ?_
  rintro e w' ⟨rfl, rfl⟩
  have B3 := Lib.hid (Boxed.new w1 3 (.int .i64 0))
  have hc2 := (B11.out.alloc (.cells #[.int .i64 0] 3)).cell
  go_wp2_with fail
  refine (PA _ ((T1.out.alloc _).rd HX.out)).out.mono ?_
  rintro e w3 ⟨w2, hb2, v1, v2, rfl, hq1, hq2, ho1, ho2, hb3⟩
  have T3 := Lib.hid (((T1.out.alloc (.cells #[.int .i64 0] 3)).call hb2).call hb3)
  have B31 := Lib.hid (boxed_below (boxed_below (B11.out.alloc (.cells #[.int .i64 0] 3)) hb2) hb3)
  have B32 := Lib.hid (boxed_below (boxed_below (B12.out.alloc (.cells #[.int .i64 0] 3)) hb2) hb3)
  have B33 := Lib.hid (boxed_below (boxed_below B3.out hb2) hb3)
  have hs2 : w1.heap.size + 1 ≤ w2.heap.size := by have := hb2.size; simp at this; omega
  have hs3 : w2.heap.size + 2 ≤ w3.heap.size := by have := World.block_lt_of_cell? _ _ hq2; simp at this; omega
  have HSEQ := Lib.hid (HPQ.out v1 v2 w3 w2.heap.size hs3 hq1 hq2 ho1 ho2)
  have HS2 := Lib.hid hs2; have HS3 := Lib.hid hs3
  have hfe := func_eql
  clear hc1 hc2 hb2 hb3 hq1 hq2 ho1 ho2 hs2 hs3
  go_wp2_with fail
  clear hfe
  refine (wpIn_wide (n := 3)).1 ?_
  refine wpIn_iterate rfl (fun h => by cases h) (gf := 24) rfl trivial (Hand := mem.Own) (enters_of Try.func24 (by kernel_rfl) rfl) (fun _ _ _ _ _ _ h1 h2 h3 => own_put h1 h2 h3) HSEQ.out (Below.refl _ _) (Nat.le_refl _) rfl
    (fun r pre W => (Boxed W w.heap.size 22 (.slice A n c) ∧ Boxed W (w.heap.size + 1) 4 (.bool false) ∧ Boxed W w1.heap.size 3 (.int .i64 (pre.length : Int))) ∧ (∀ k, r = some k → w3.heap.size ≤ k) ∧ Below w.heap.size w W)
    (fun _ _ _ _ => False) ?hI (fun _ _ _ _ _ _ h _ _ => h) ?h0 ?round ?done ?stop
  case hI =>
    rintro r s A C row ⟨⟨h1, h2, h3⟩, h4, h5⟩ hg hm
    have e1 := HSZ.out; have e2 := HS2.out; have e3 := HS3.out
    exact ⟨⟨mild_boxed h1 hg hm (fun e => by have := h4 _ e; omega), mild_boxed h2 hg hm (fun e => by have := h4 _ e; omega), mild_boxed h3 hg hm (fun e => by have := h4 _ e; omega)⟩, h4, mild_below h5 hg hm (by omega) (Nat.le_refl _)⟩
  case h0 =>
    intro r hr
    exact ⟨⟨B31.out, B32.out, B33.out⟩, hr, T3.out⟩
  case round =>
    rintro l r pre x v A' C W hBl hlA hlo hr _ ⟨⟨b1, b2, b3⟩, hrB, hbel⟩ hpre hAW hh
    obtain ⟨hk, hxe⟩ := HAT.out pre.length x (by
      obtain ⟨t, ht⟩ := hpre
      rw [← ht]
      simp)
    obtain ⟨P, m, rfl, hm1, hm2, _⟩ := hh.form
    have hlx : x.length ≤ maxLen := by omega
    have hrx := hh.rd
    have hrs : Rd W A n xs := (show Aft w W from hbel).rd HX.out
    have PO := HPO.out pre.length hk W.drew P m x.length (rd_drewN hrs 1) (by rw [← hxe]; exact rd_drewN hrx 1) hlx
    have hc1 := b1.cell
    have hc3 := b3.cell
    have hf3 := b3.frozen
    have HBEL := Lib.hid hbel; have HRB := Lib.hid hrB; have HR := Lib.hid hr; have HAW := Lib.hid hAW
    have HB1 := Lib.hid b1; have HB2 := Lib.hid b2; have HB3 := Lib.hid b3
    have hmx : Try.prog.follows .mixedOrders = true := by kernel_rfl
    clear hh hrx hrs hlx hm1 hm2 hxe hpre b1 b2 b3 hbel hrB hr hAW
    gi_wp2_with fail
    refine ⟨trivial, ?_⟩
    gi_wp2_with fail
    gi_region_with_o ((refine ⟨trivial, ?_⟩; gi_at_call 17; refine (CallsIn.inRound l (callsIn_wide.2 PO.out)).mono ?_; rintro e w' ⟨rfl, q, rfl⟩))
    all_goals
      gi_wp2_with fail
      have hch := (Chg.refl (fun k => k = w1.heap.size) W).set (p := ⟨w1.heap.size, 0, none⟩) (.int .i64 ((pre.length : Int) + 1)) rfl
      have hbx := HB3.out.set (.int .i64 ((pre.length : Int) + 1))
      have h1 := hch.boxed HB1.out (by have := HSZ.out; omega)
      have h2 := hch.boxed HB2.out (by have := HSZ.out; omega)
      have h3 := hch.keeps (Bs := w3.heap.size) (fun k e => .inl (by have := HS2.out; have := HS3.out; omega))
      have h4 := hch.spares (Bi := w2.heap.size) (Be := w3.heap.size) (r := r) (Nat.le_trans (by omega) HAW.out.size) (fun k e => Nat.lt_of_lt_of_le (HR.out k e).2 HAW.out.size) (fun k e => ⟨by have := HS2.out; omega, fun e' => by have := HRB.out _ e'; have := HS2.out; have := HS3.out; omega⟩)
      have h5 := HBEL.out.trans (hch.below HBEL.out.size (fun k e => by have := HSZ.out; omega))
      refine ⟨⟨h3.size, h3.same⟩, ⟨h4.size, h4.own, h4.kept⟩, ⟨h1, h2, ?_⟩, HRB.out, ⟨h5.os, h5.tape, h5.output, h5.size, h5.block⟩⟩
      rw [List.length_append]
      exact hbx
  case done =>
    rintro D r W hD ⟨⟨b1, b2, b3⟩, hrB, hbel⟩ hK
    rw [HRL.out] at b3
    have hrs : Rd W A n xs := (show Aft w W from hbel).rd HX.out
    have PCW := (PC W.drew (rd_drewN hrs 1)).out
    have hc1 := b1.cell
    have hc2 := b2.cell
    have hc3 := b3.cell
    have hf2 := b2.frozen
    have HK := Lib.hid hK; have HB2 := Lib.hid b2; have HBEL := Lib.hid hbel
    have PCW := Lib.hid PCW
    rename_i q1
    clear q1 b1 b2 b3 hrB hK hrs hbel
    go_wp2_with fail
    refine wp_region_noPanic ?_
    go_region_with (go_at_call 18; refine PCW.out.mono ?_; rintro e w' ⟨rfl, rfl⟩)
    all_goals
      refine NoPanic.normal ?_
      go_wp2_with fail
      obtain ⟨W2, hW2⟩ : ∃ W2, W2 = (W.setCell ⟨w.heap.size + 1, 0, none⟩ (.bool true)).drew := ⟨_, rfl⟩
      have hk2 : W2.heap[D]? = some (.deferred (some [])) := by rw [hW2]; exact (Below.heap_setCell W ⟨w.heap.size + 1, 0, none⟩ (.bool true) D (by have := HSZ.out; have := HS2.out; have := HS3.out; simp; omega)).trans HK.out
      have hb2 : Boxed W2 (w.heap.size + 1) 4 (.bool true) := by rw [hW2]; exact HB2.out.set _
      have hbl : Below w.heap.size w W2 := by rw [hW2]; exact Below.drew (HBEL.out.setCell (p := ⟨w.heap.size + 1, 0, none⟩) (by simp) _)
      rw [← hW2]
      have hcell : (W2.putObj D (.deferred none)).cell? ⟨w.heap.size + 1, 0, none⟩ = some (.bool true) := cell_kept hb2.cell (grownBy_putObj' _ D (.deferred none)) (fun r e => by cases e; exact ⟨_, hk2, rfl⟩)
      refine ⟨by simp, .inl ⟨_, _, rfl, run_takeDeferred hk2, ?_⟩⟩
      exact ⟨_, by simp [results, Try.results4, go_sem, hcell], rfl, hbl.grown (grownBy_putObj' W2 D (.deferred none)) hbl.size (fun k e => by cases e; have := HSZ.out; have := HS2.out; have := HS3.out; omega)⟩
  case stop =>
    rintro D c r pre W _ _ h _
    exact h.elim

theorem walk_OdometerShapes (A : Option Addr) (n c : Nat) (xs : List Int) (w : World) (hx : In w A n c xs) :
    Calls Try.prog 4 #[.slice A n c] w (Holds w) := by
  cases h : smlB xs 300
  · exact shapes_wrong A n c xs w hx h
  · exact shapes_right A n c xs w hx h
end Go.Proofs.Ytcdjmcjoknibkaa.laws
