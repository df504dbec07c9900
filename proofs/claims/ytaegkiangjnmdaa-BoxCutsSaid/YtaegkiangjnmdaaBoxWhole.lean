/- Package box: Whole. -/
import Derived.Test.YtaegkiangjnmdaaBoxGrow
import Derived.Deep.RegionHeld3
import Derived.BigRegion
namespace Go.Proofs.Ytaegkiangjnmdaa.bx
open Go.ChangeShapes Go.WideShapes Go.ChangeAt Go.RowKit Go.Proofs.Ytaegkiangjnmdaa.mem Go.Proofs.Ytaegkiangjnmdaa.prod Go.Proofs.Ytaegkiangjnmdaa.shp Go.Proofs.Ytaegkiangjnmdaa.strd Go.Proofs.Ytaegkiangjnmdaa.gam Go.Proofs.Ytaegkiangjnmdaa.sml Go.Proofs.Ytaegkiangjnmdaa.all Go.Proofs.Ytaegkiangjnmdaa.odo Go.Proofs.Ytaegkiangjnmdaa.eql Go.Proofs.Ytaegkiangjnmdaa.arr
set_option linter.unusedVariables false

/-- make([]int, n) as a step of a region that draws its order. -/
theorem step_zeros {w : World} {ops : Array Oper} {o : Oper} {a : Act} {K : Act → World → Prop} {Q : Exit → Act → World → Prop} {E : Prop} (hgd : o.guard = none) (l c : Operand) (ho : o.op = Op.makeSlice 22 l c)
    (n : Nat) (hl : a.eval l = .int .i64 (n : Int)) (hc : a.eval c = .int .i64 (n : Int)) (h40 : n ≤ 1099511627776)
    (h : ∀ w', Own w' w.heap.size (.slice (some ⟨w.heap.size, 0, none⟩) n n) (List.replicate n 0) → Below w.heap.size w w' → K (a.put o.dst (.slice (some ⟨w.heap.size, 0, none⟩) n n)) w') :
    if Region.wanted o (yielded ops a.tmps) = true then Oper.wp Try.prog o a w K Q else E := by
  have hw : Region.wanted o (yielded ops a.tmps) = true := by simp [Region.wanted, hgd]
  rw [if_pos hw]
  obtain ⟨i0, hi0, hz0, hz1, hz2⟩ := info_parts int_info
  obtain ⟨w', hrun, r1, r2⟩ := run_make_full (P := Try.prog) w w.heap.size 22 3 i0 _ 1 Try.underlying22 hi0 hz0 hz1 .i64 .i64 n (by rw [hz2]; omega) (by unfold maxLen; omega) (Nat.le_refl _)
  unfold Oper.wp
  simp [execOp, ho, hl, hc, hrun, Result.andThen]
  refine h w' ?_ ((Below.refl _ _).grown r2 (Nat.le_refl _) (fun k hk => by cases hk))
  unfold Own
  rw [List.length_replicate, List.map_replicate, ← toList_madeCells_one]
  have e : Value.cells (.int .i64 0) = #[.int .i64 0] := rfl
  rw [e] at r1
  simpa using r1

set_option maxHeartbeats 2000000 in
theorem whole_any (A : Option Addr) (n c : Nat) (s : List Int) (w : World) (hn : n ≤ 65536) (hx : Rd w A n s) (hA : A = none → c = 0) :
    Calls Try.prog 21 #[.slice A n c] w (MakesX w n n (List.replicate n 0) s) := by
  obtain ⟨W, hW⟩ : ∃ W, W = w.alloc (.cells #[.slice none 0 0, .slice none 0 0] 27) := ⟨_, rfl⟩
  have hbl : Below w.heap.size w W := by rw [hW]; exact one_below _ _ _
  have hsz : W.heap.size = w.heap.size + 1 := by rw [hW]; simp
  have hv : Var2 W w.heap.size (.slice none 0 0) (.slice none 0 0) := by rw [hW]; exact var2_new _ _ _ _
  have PC := fun V h => Lib.hid (clone_any A n c s V (by omega) h hA)
  have HX := Lib.hid (hx.below hbl)
  have HLS := Lib.hid hx.1
  have HKC := Lib.hid (show ∀ V, Below W.heap.size W V → V.cell? ⟨w.heap.size, 0, none⟩ = some (.slice none 0 0) ∧ V.cell? ⟨w.heap.size, 1, none⟩ = some (.slice none 0 0) ∧ V.frozen? ⟨w.heap.size, 0, none⟩ = false ∧ V.frozen? ⟨w.heap.size, 1, none⟩ = false from fun V h => by
    have := hv.below h (by omega)
    exact ⟨this.1.1, this.1.2.1, this.2.1, this.2.2⟩)
  have HB := Lib.hid hbl; have HSZ := Lib.hid hsz; have HW := Lib.hid hW
  clear hx hA hbl hsz hW hv
  go_enter Try.func21, Try.ntmps21
  go_wp2_with fail
  rw [← HW.out]
  refine wp_region_noPanic ?_
  refine wp_region_held_drew (S := fun _ => True) (by kernel_rfl) trivial (fun hHeld => ?_)
  refine wpAnyH_take (i := 0) (oi := ⟨some 3, _, _, _, _, _⟩) (v := ?_) rfl (by kernel_rfl) (by kernel_rfl) (by kernel_rfl) (fun _ _ _ h => h) (Or.inl ⟨by rfl, ?_⟩) (by assumption) ?_
  rotate_left
  · (intro w hSw; (try dsimp only at hSw); first | (go_simp; done) | (go_simp; with_reducible rfl))
  try simp only [Act.put, List.setIfInBounds_toArray, List.set_cons_zero, List.set_cons_succ]
  refine wpAnyH_take (i := 1) (oi := ⟨some 4, _, _, _, _, _⟩) (v := ?_) rfl (by kernel_rfl) (by kernel_rfl) (by kernel_rfl) (fun _ _ _ h => h) (Or.inl ⟨by rfl, ?_⟩) (by assumption) ?_
  rotate_left
  · (intro w hSw; (try dsimp only at hSw); first | (go_simp; done) | (go_simp; with_reducible rfl))
  try simp only [Act.put, List.setIfInBounds_toArray, List.set_cons_zero, List.set_cons_succ]
  refine wpAnyH_take (i := 3) (oi := ⟨some 6, _, _, _, _, _⟩) (v := ?_) rfl (by kernel_rfl) (by kernel_rfl) (by kernel_rfl) (fun _ _ _ h => h) (Or.inl ⟨by rfl, ?_⟩) (by assumption) ?_
  rotate_left
  · (intro w hSw; (try dsimp only at hSw); first | (go_simp; done) | (go_simp; with_reducible rfl))
  try simp only [Act.put, List.setIfInBounds_toArray, List.set_cons_zero, List.set_cons_succ]
  refine wpAnyH_ready (rs := [2, 4]) (by kernel_rfl) (by simp) ?_
  refine (AllReadyH.cons (o := ⟨some 5, _, _, _, _, _⟩) rfl (fun K hK => ?_) (AllReadyH.cons (o := ⟨some 7, _, _, _, _, _⟩) rfl (fun K hK => ?_) AllReadyH.nil))
  refine step_zeros (by rfl) _ _ (by rfl) n (by rfl) (by rfl) (by omega) ?_
  intro w4 ho4 hb4
  have HO4 := Lib.hid ho4; have HB4 := Lib.hid hb4
  refine hK.out _ _ ?_ (fun hHeld => ?_)
  · trivial
  clear hK K
  try simp only [Act.put, List.setIfInBounds_toArray, List.set_cons_zero, List.set_cons_succ]
  refine wpAnyH_ready (rs := [4]) (by kernel_rfl) (by simp) ?_
  refine (AllReadyH.cons (o := ⟨some 7, _, _, _, _, _⟩) rfl (fun K hK => ?_) AllReadyH.nil)
  go_simp
  go_at_call 36
  refine (PC _ ((HX.out.below (Below.drew (Below.refl _ _))).below HB4.out)).out.mono ?_
  intro e wz hm
  obtain ⟨P, p, rfl, ho5, hb5, _, _, hpz⟩ := hm.out
  rw [HLS.out] at ho5
  simp only [HLS.out]
  clear hm
  have HG := Lib.hid (show Two wz W.heap.size (.slice (some ⟨W.drew.heap.size, 0, none⟩) n n) (.slice P n p) (List.replicate n 0) s ∧ Below W.heap.size W wz from ⟨two_of HO4.out hb5 ho5 HB4.out.size, ((Below.drew (Below.refl W.heap.size W)).trans HB4.out).trans (hb5.mono (show W.heap.size ≤ w4.heap.size from HB4.out.size))⟩)
  clear ho5 hb5
  refine hK.out _ _ ?_ (fun hHeld => ?_)
  · trivial
  clear hK K
  try simp only [Act.put, List.setIfInBounds_toArray, List.set_cons_zero, List.set_cons_succ]
  rotate_left
  go_simp
  go_at_call 36
  refine (PC _ (HX.out.below (Below.drew (Below.refl _ _)))).out.mono ?_
  intro e w5 hm
  obtain ⟨P, p, rfl, ho5, hb5, _, _, hpz⟩ := hm.out
  rw [HLS.out] at ho5
  simp only [HLS.out]
  clear hm
  have HO5 := Lib.hid ho5; have HB5 := Lib.hid hb5
  clear ho5 hb5
  refine hK.out _ _ ?_ (fun hHeld => ?_)
  · trivial
  clear hK K
  try simp only [Act.put, List.setIfInBounds_toArray, List.set_cons_zero, List.set_cons_succ]
  refine wpAnyH_ready (rs := [2]) (by kernel_rfl) (by simp) ?_
  refine (AllReadyH.cons (o := ⟨some 5, _, _, _, _, _⟩) rfl (fun K hK => ?_) AllReadyH.nil)
  refine step_zeros (by rfl) _ _ (by rfl) n (by rfl) (by rfl) (by omega) ?_
  intro wz ho4 hb4
  have HG := Lib.hid (show Two wz W.heap.size (.slice (some ⟨w5.heap.size, 0, none⟩) n n) (.slice P n p) (List.replicate n 0) s ∧ Below W.heap.size W wz from ⟨(two_of HO5.out hb4 ho4 HB5.out.size).symm, ((Below.drew (Below.refl W.heap.size W)).trans HB5.out).trans (hb4.mono (show W.heap.size ≤ w5.heap.size from HB5.out.size))⟩)
  clear ho4 hb4
  refine hK.out _ _ ?_ (fun hHeld => ?_)
  · trivial
  clear hK K
  try simp only [Act.put, List.setIfInBounds_toArray, List.set_cons_zero, List.set_cons_succ]
  all_goals
    refine wpAnyH_take (i := 5) (oi := ⟨some 8, _, _, _, _, _⟩) (v := ?_) rfl (by kernel_rfl) (by kernel_rfl) (by kernel_rfl) (fun _ _ _ h => h) (Or.inl ⟨by rfl, ?_⟩) (by assumption) ?_
    rotate_left
    · (intro w hSw; (try dsimp only at hSw); first | (go_simp; done) | (go_simp; with_reducible rfl))
    try simp only [Act.put, List.setIfInBounds_toArray, List.set_cons_zero, List.set_cons_succ]
    obtain ⟨k1, k2, k3, k4⟩ := HKC.out _ HG.out.2
    refine wpAnyH_ready (rs := [6]) (by kernel_rfl) (by simp) ?_
    refine (AllReadyH.cons (o := ⟨none, _, _, _, _, _⟩) rfl (fun K hK => ?_) AllReadyH.nil)
    go_simp
    refine hK.out _ _ ?_ (fun hHeld => ?_)
    · trivial
    clear hK K
    try simp only [Act.put, List.setIfInBounds_toArray, List.set_cons_zero, List.set_cons_succ]
    refine wpAnyH_done (by kernel_rfl) ?_ _
    refine NoPanic.normal ?_
  all_goals
    obtain ⟨hT, hB⟩ := HG.out
    have HT := Lib.hid hT; have HB2 := Lib.hid hB
    clear HG hT hB
    go_wp2_with fail
    have hs := HSZ.out
    refine bodyPost_ret (v := .agg #[.slice _ n n, .slice P n p]) (by simp [results, Try.results21, go_sem, *]) rfl ⟨_, _, _, _, rfl, (HT.out.put (p := w.heap.size) (by omega)).le (by omega), two_below (HB.out.trans (HB2.out.mono HB.out.size)) (by omega)⟩
end Go.Proofs.Ytaegkiangjnmdaa.bx
