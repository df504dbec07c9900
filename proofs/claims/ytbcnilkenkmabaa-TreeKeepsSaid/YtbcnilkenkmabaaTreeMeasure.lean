/- Package tree: measure, within, Size, Depth. -/
import Derived.Test.YtbcnilkenkmabaaTreeNodes
import Derived.Deep.RegionWith
import Derived.RegionTactic
namespace Go.Proofs.Ytbcnilkenkmabaa.tr
open Go.ChangeShapes Go.WideShapes Go.ChangeAt Go.RowKit Go.Proofs.Ytbcnilkenkmabaa.mem Go.Proofs.Ytbcnilkenkmabaa.sq
set_option linter.unusedVariables false
attribute [local go_sem] Oper.semAt_some

theorem pre_last {α : Type} {xs p : List α} {x : α} (h : p ++ [x] <+: xs) : xs[p.length]? = some x := by
  obtain ⟨t, ht⟩ := h; rw [← ht]; simp
theorem topN_pre {xs p : List (Nat × Tr)} (h : p <+: xs) : topN p ≤ topN xs := by
  obtain ⟨t, ht⟩ := h; rw [← ht, topN_append]; omega
theorem topN_mem {xs : List (Nat × Tr)} {x : Nat × Tr} (h : x ∈ xs) : x.1 ≤ topN xs := by
  induction xs with
  | nil => simp at h
  | cons y r ih =>
    simp only [topN]
    rcases List.mem_cons.1 h with rfl | h
    · omega
    · have := ih h; omega

def MI (w0 w1 : World) (s : Nat) : (Nat → Prop) → List (Nat × Tr) → World → Prop := fun _ p X =>
  Boxed X (s + 1) 3 (.int .i64 (p.length : Int)) ∧ Boxed X (s + 1 + 1) 3 (.int .i64 (topN p : Int)) ∧ Below s w0 X ∧ w1.heap.size ≤ X.heap.size
theorem mi_bides {w0 w1 : World} {s : Nat} (hs : s = w0.heap.size) (h : s + 1 + 1 < w1.heap.size) : Bides w1.heap.size (MI w0 w1 s) := by
  rintro R R' p A C ⟨h1, h2, h3, h4⟩ ht _
  have old : ∀ k, k < w1.heap.size → C.heap[k]? = A.heap[k]? := fun k hk => by
    rcases ht.block k (by omega) with e | ⟨e, _⟩
    · exact e
    · omega
  exact ⟨boxed_as h1 (old _ (by omega)), boxed_as h2 (old _ (by omega)), ⟨ht.os.trans h3.os, ht.tape.trans h3.tape, ht.output.trans h3.output, Nat.le_trans h3.size ht.size, fun k hk => (old k (by omega)).trans (h3.block k hk)⟩, Nat.le_trans h4 ht.size⟩

set_option maxHeartbeats 4000000 in
theorem measure_any (T : Tr) (v : Value) (w : World) (hT : RdT w T v) (hd : deepT T ≤ 999) (hz : sizeT T ≤ 1000000) :
    Calls Try.prog 29 #[v] w fun e w' => e = .returned (.tuple #[.int .i64 (sizeT T : Int), .int .i64 (deepT T : Int)]) ∧ Below w.heap.size w w' := by
  obtain ⟨k, f, a, s, ns, ks⟩ := T
  obtain ⟨Aa, na, ca, B, mm, d, rfl, -⟩ := rdT_node.1 hT
  obtain ⟨w0, hw0⟩ : ∃ w0, w0 = ((w.alloc (.cells #[.int .i64 k, .int .i64 f, .int .i64 a, .string s, .slice Aa na ca, .slice B mm d] 25)).alloc (.cells #[.int .i64 0] 3)).alloc (.cells #[.int .i64 0] 3) := ⟨_, rfl⟩
  have hs0 : w0.heap.size = w.heap.size + 3 := by rw [hw0]; simp
  have hb0 : Below w.heap.size w w0 := by rw [hw0]; exact (((Below.refl _ _).alloc (Nat.le_refl _) _).alloc (by simp) _).alloc (by simp; omega) _
  have hB1 : Boxed w0 (w.heap.size + 1) 3 (.int .i64 0) := by
    have := (Boxed.new (w.alloc (.cells #[.int .i64 k, .int .i64 f, .int .i64 a, .string s, .slice Aa na ca, .slice B mm d] 25)) 3 (.int .i64 0)).alloc (.cells #[.int .i64 0] 3)
    rw [World.size_alloc] at this
    rw [hw0]; exact this
  have hB2 : Boxed w0 (w.heap.size + 1 + 1) 3 (.int .i64 0) := by
    have := Boxed.new ((w.alloc (.cells #[.int .i64 k, .int .i64 f, .int .i64 a, .string s, .slice Aa na ca, .slice B mm d] 25)).alloc (.cells #[.int .i64 0] 3)) 3 (.int .i64 0)
    rw [World.size_alloc, World.size_alloc] at this
    rw [hw0]; exact this
  have hN0 : w0.cell? ⟨w.heap.size, 0, none⟩ = some (.int .i64 k) := by rw [hw0]; exact cell_old (cell_old (cell_new _ _ _ _ rfl))
  have hN1 : w0.cell? ⟨w.heap.size, 1, none⟩ = some (.int .i64 f) := by rw [hw0]; exact cell_old (cell_old (cell_new _ _ _ _ rfl))
  have hN2 : w0.cell? ⟨w.heap.size, 2, none⟩ = some (.int .i64 a) := by rw [hw0]; exact cell_old (cell_old (cell_new _ _ _ _ rfl))
  have hN3 : w0.cell? ⟨w.heap.size, 3, none⟩ = some (.string s) := by rw [hw0]; exact cell_old (cell_old (cell_new _ _ _ _ rfl))
  have hN4 : w0.cell? ⟨w.heap.size, 4, none⟩ = some (.slice Aa na ca) := by rw [hw0]; exact cell_old (cell_old (cell_new _ _ _ _ rfl))
  have hN5 : w0.cell? ⟨w.heap.size, 5, none⟩ = some (.slice B mm d) := by rw [hw0]; exact cell_old (cell_old (cell_new _ _ _ _ rfl))
  have HT := Lib.hid (RdQ.old hT |>.le (fun q e => e.2))
  have HD := Lib.hid hd; have HZ := Lib.hid hz; have HS0 := Lib.hid hs0; have HB0 := Lib.hid hb0; have HB1 := Lib.hid hB1; have HB2 := Lib.hid hB2
  clear hT hd hz hs0 hb0 hB1 hB2
  refine (callsIn_wide (n := 3)).1 ?_
  refine callsIn_of_wp_marks Try.func29 rfl trivial ?_ rfl
  simp only [Try.ntmps29, List.size_toArray, List.length_cons, List.length_nil, Nat.reduceAdd, Nat.reduceSub, Array.replicate_succ, Array.replicate_zero, List.push_toArray, List.append_toArray, List.nil_append, List.cons_append]
  refine wpIn_wide.2 ?_
  go_upto_region 1 with fail
  rw [← hw0]
  clear hw0
  go_wp2_with fail
  refine (nodes_any _ _ _ _ _ _ _).mono ?_
  rintro e w1 ⟨rfl, hb1, hs1, hl1⟩
  have hbw : Below w.heap.size w w1 := HB0.out.trans (hb1.mono (by rw [HS0.out]; omega))
  rw [HS0.out] at hl1
  have hseq := nodes_seq (3 - 1) (w.heap.size + 3) _ _ (fun q => q < w.heap.size) w1 hl1 (HT.out.carry hbw.size (fun q e => hbw.block q e)) (fun q e => by have := hbw.size; omega) HD.out HZ.out
  have HSEQ := Lib.hid hseq; have HBW := Lib.hid hbw; have HS1 := Lib.hid (show w1.heap.size = w.heap.size + 4 by rw [hs1, HS0.out])
  have HB11 := Lib.hid (boxed_below HB1.out hb1); have HB12 := Lib.hid (boxed_below HB2.out hb1)
  clear hseq hbw hs1 hl1 hb1 hN0 hN1 hN2 hN3 hN4 hN5 HB0 HB1 HB2
  rw [HS0.out]
  clear HS0
  go_wp2_with fail
  refine (wpIn_wide (n := 3)).1 ?_
  refine wpIn_iterate rfl (fun h => by cases h) (gf := 47) rfl trivial (Hand := HandN (fun q => q < w.heap.size)) (enters_of Try.func47 (by kernel_rfl) rfl) (fun W x vs h => by obtain ⟨v, rfl, _⟩ := h; rfl) HSEQ.out (Below.refl _ _) (fun q e => by have := HS1.out; omega)
    (MI w w1 w.heap.size) (fun _ _ _ _ => False) (mi_bides rfl (by have := HS1.out; omega)) (fun _ _ _ _ _ _ h _ _ => h) ⟨HB11.out, HB12.out, HBW.out, Nat.le_refl _⟩ ?round ?done ?stop
  case round =>
    rintro l R p ⟨lv, x⟩ vs C hl1 hl2 hlo hR ⟨h1, h2, h3, h4⟩ hpx ⟨vx, rfl, hTx⟩
    have hmx : lv ≤ 999 := by
      have := topN_mem (List.mem_of_getElem? (pre_last hpx))
      have h5 := stp_top (.node k f a s ns ks) 0
      have := HD.out
      simp only [Nat.zero_add] at h5
      omega
    have hpl : p.length < 1000000 := by
      have := (List.getElem?_eq_some_iff.1 (pre_last hpx)).1
      rw [stp_len] at this
      have := HZ.out
      omega
    have hpt : topN p ≤ 999 := by
      have h6 := topN_pre (List.IsPrefix.trans (List.prefix_append p [(lv, x)]) hpx)
      have h5 := stp_top (.node k f a s ns ks) 0
      have := HD.out
      simp only [Nat.zero_add] at h5
      omega
    obtain ⟨k', f', a', s', ns', ks'⟩ := x
    obtain ⟨Ab, nb, cb, Bb, mb, db, rfl, -⟩ := rdQ_node.1 hTx
    have H1 := Lib.hid h1; have H2 := Lib.hid h2; have H3 := Lib.hid h3; have H4 := Lib.hid h4; have HL := Lib.hid (show w1.heap.size ≤ l ∧ l < C.heap.size from ⟨hl1, hl2⟩); have HLO := Lib.hid hlo; have HR := Lib.hid hR; have HPX := Lib.hid hpx
    clear h1 h2 h3 h4 hl1 hl2 hlo hR hpx hTx
    gi_wp2_with fail
    refine ⟨Spares.refl _, fun W hW => ?_⟩
    obtain ⟨i1, i2, i3, i4⟩ := mi_bides (s := w.heap.size) rfl (by have := HS1.out; omega) R R p C W ⟨H1.out, H2.out, H3.out, H4.out⟩ (turn_round (Below.refl _ _) hW HLO.out HL.out.1) (Grow.refl _ _ _)
    have hc1 := i1.cell; have hf1 := i1.frozen
    have J2 := Lib.hid (i2.set (.int .i64 ((max (topN p) lv : Nat) : Int)))
    have J1 := Lib.hid i1; have J20 := Lib.hid i2; have J3 := Lib.hid i3; have J4 := Lib.hid i4
    have hc2' : Boxed (W.setCell ⟨w.heap.size + 1, 0, none⟩ (.int .i64 ((p.length : Int) + 1))) (w.heap.size + 1 + 1) 3 (.int .i64 (topN p : Int)) := boxed_as i2 (Below.heap_setCell W ⟨w.heap.size + 1, 0, none⟩ _ _ (by show w.heap.size + 1 + 1 ≠ w.heap.size + 1; omega))
    have hc2 := hc2'.cell; have hf2 := hc2'.frozen
    have K2 := Lib.hid hc2'
    clear i1 i2 i3 i4 hW hc2'
    gi_wp2_with fail
    all_goals
      have hs1 := HS1.out
      have hl := HL.out
      have hR := HR.out
      have etop : topN (p ++ [(lv, Tr.node k' f' a' s' ns' ks')]) = max (topN p) lv := by rw [topN_append]; simp [topN]
      refine ⟨Spares.set (p := ⟨w.heap.size + 1 + 1, 0, none⟩) (Spares.set (p := ⟨w.heap.size + 1, 0, none⟩) (Spares.refl W) hc1 _ (fun e => by dsimp only at e; omega) (fun e => by have := hR _ e; dsimp only at this; omega)) hc2 _ (fun e => by dsimp only at e; omega) (fun e => by have := hR _ e; dsimp only at this; omega), ?_, ?_, ?_, ?_⟩
      · rw [List.length_append, show ((p.length + [(lv, Tr.node k' f' a' s' ns' ks')].length : Nat) : Int) = (p.length : Int) + 1 by simp]
        exact boxed_as (J1.out.set _) (Below.heap_setCell _ _ _ _ (by show w.heap.size + 1 ≠ w.heap.size + 1 + 1; omega))
      · rw [etop]
        first
          | (rw [show max (topN p) lv = topN p by omega]; exact K2.out.set _)
          | (rw [show max (topN p) lv = lv by omega]; exact K2.out.set _)
      · exact (J3.out.setCell (p := ⟨w.heap.size + 1, 0, none⟩) (by show w.heap.size ≤ w.heap.size + 1; omega) _).setCell (p := ⟨w.heap.size + 1 + 1, 0, none⟩) (by show w.heap.size ≤ w.heap.size + 1 + 1; omega) _
      · have := J4.out; simpa [World.setCell] using this
  case done =>
    rintro D R X hD ⟨h1, h2, h3, h4⟩ hK
    rw [stp_len] at h1
    rw [show topN (stp 1 (.node k f a s ns ks)) = deepT (.node k f a s ns ks) by have := stp_top (.node k f a s ns ks) 0; simpa using this] at h2
    have hc1 := h1.cell; have hf1 := h1.frozen; have hc2 := h2.cell; have hf2 := h2.frozen
    have H1 := Lib.hid h1; have H2 := Lib.hid h2; have H3 := Lib.hid h3; have HK := Lib.hid hK; have HDD := Lib.hid hD
    clear h1 h2 h3 h4 hK hD
    go_wp2_with fail
    go_region_with (fail)
    all_goals
      obtain ⟨Y, hY⟩ : ∃ Y, Y = ((X.setCell ⟨w.heap.size + 1, 0, none⟩ (.int .i64 (sizeT (.node k f a s ns ks) : Int))).setCell ⟨w.heap.size + 1 + 1, 0, none⟩ (.int .i64 (deepT (.node k f a s ns ks) : Int))).drew := ⟨_, rfl⟩
      have hs1 := HS1.out
      have hdd := HDD.out
      have hk5 : Y.heap[D]? = some (.deferred (some [])) := by
        rw [hY]
        exact (Below.heap_setCell _ ⟨w.heap.size + 1 + 1, 0, none⟩ _ D (by show D ≠ w.heap.size + 1 + 1; omega)).trans ((Below.heap_setCell _ ⟨w.heap.size + 1, 0, none⟩ _ D (by show D ≠ w.heap.size + 1; omega)).trans HK.out)
      have hy1 : Boxed Y (w.heap.size + 1) 3 (.int .i64 (sizeT (.node k f a s ns ks) : Int)) := by
        rw [hY]
        exact boxed_as (H1.out.set _) (Below.heap_setCell _ ⟨w.heap.size + 1 + 1, 0, none⟩ _ (w.heap.size + 1) (by show w.heap.size + 1 ≠ w.heap.size + 1 + 1; omega))
      have hy2 : Boxed Y (w.heap.size + 1 + 1) 3 (.int .i64 (deepT (.node k f a s ns ks) : Int)) := by
        rw [hY]
        exact (boxed_as H2.out (Below.heap_setCell X ⟨w.heap.size + 1, 0, none⟩ (.int .i64 (sizeT (.node k f a s ns ks) : Int)) (w.heap.size + 1 + 1) (by show w.heap.size + 1 + 1 ≠ w.heap.size + 1; omega))).set _
      have hbY : Below w.heap.size w Y := by
        rw [hY]
        have h9 := (H3.out.setCell (p := ⟨w.heap.size + 1, 0, none⟩) (by show w.heap.size ≤ w.heap.size + 1; omega) (.int .i64 (sizeT (.node k f a s ns ks) : Int))).setCell (p := ⟨w.heap.size + 1 + 1, 0, none⟩) (by show w.heap.size ≤ w.heap.size + 1 + 1; omega) (.int .i64 (deepT (.node k f a s ns ks) : Int))
        exact ⟨h9.os, h9.tape, h9.output, h9.size, h9.block⟩
      rw [← hY]
      clear hY
      go_wp2_with fail
      have hr1 : (Y.putObj D (.deferred none)).cell? ⟨w.heap.size + 1, 0, none⟩ = some (.int .i64 (sizeT (.node k f a s ns ks) : Int)) := cell_put hy1.cell hk5 rfl
      have hr2 : (Y.putObj D (.deferred none)).cell? ⟨w.heap.size + 1 + 1, 0, none⟩ = some (.int .i64 (deepT (.node k f a s ns ks) : Int)) := cell_put hy2.cell hk5 rfl
      refine ⟨by simp, .inl ⟨_, _, rfl, run_takeDeferred hk5, ?_⟩⟩
      refine ⟨.tuple #[.int .i64 (sizeT (.node k f a s ns ks) : Int), .int .i64 (deepT (.node k f a s ns ks) : Int)], by simp [results, Try.results29, go_sem, hr1, hr2], rfl, ?_⟩
      exact hbY.grown (grownBy_putObj' Y D (.deferred none)) hbY.size (fun q e => by cases e; omega)
  case stop =>
    rintro D c R p X _ _ h _
    exact h.elim
theorem shut6 {Q : Nat → Prop} {w : World} {T : Tr} {v : Value} (h : RdQ Q w T v) : ∃ c0 c1 c2 c3 c4 c5, v = .agg #[c0, c1, c2, c3, c4, c5] := by
  obtain ⟨k, f, a, s, ns, ks⟩ := T
  obtain ⟨Aa, na, ca, B, mm, d, rfl, -⟩ := rdQ_node.1 h
  exact ⟨_, _, _, _, _, _, rfl⟩
set_option maxHeartbeats 1000000 in
theorem within_any (T : Tr) (v : Value) (w : World) (hT : RdT w T v) (hd : deepT T ≤ 999) (hz : sizeT T ≤ 1000000) :
    Calls Try.prog 33 #[v] w fun e w' => e = .returned (.bool true) ∧ Below w.heap.size w w' := by
  obtain ⟨c0, c1, c2, c3, c4, c5, rfl⟩ := shut6 hT
  obtain ⟨W, hW⟩ : ∃ W, W = w.alloc (.cells #[c0, c1, c2, c3, c4, c5] 25) := ⟨_, rfl⟩
  obtain ⟨hb, _, KC⟩ := one_box6 hW
  obtain ⟨k0, k1, k2, k3, k4, k5⟩ := KC W (Below.refl _ _)
  have PM := Lib.hid (measure_any T _ W (hT.below hb) hd hz)
  have HB := Lib.hid hb; have HW := Lib.hid hW
  have hd2 : (deepT T : Int) ≤ 1000 := by omega
  have hz2 : (sizeT T : Int) ≤ 1048576 := by omega
  clear hT hd hz hb KC hW
  go_enter Try.func33, Try.ntmps33
  go_upto_region 1 with fail
  rw [← HW.out]
  go_wp2_with fail
  refine PM.out.mono ?_
  rintro e w1 ⟨rfl, hb1⟩
  have HB1 := Lib.hid (HB.out.trans (hb1.mono HB.out.size))
  clear hb1 k0 k1 k2 k3 k4 k5
  go_wp2_with fail
  go_ret
  exact ⟨rfl, HB1.out⟩
set_option maxHeartbeats 1000000 in
theorem size_any (T : Tr) (v : Value) (w : World) (hT : RdT w T v) (hd : deepT T ≤ 999) (hz : sizeT T ≤ 1000000) :
    Calls Try.prog 12 #[v] w (Num w (sizeT T)) := by
  obtain ⟨c0, c1, c2, c3, c4, c5, rfl⟩ := shut6 hT
  obtain ⟨W, hW⟩ : ∃ W, W = w.alloc (.cells #[c0, c1, c2, c3, c4, c5] 25) := ⟨_, rfl⟩
  obtain ⟨hb, _, KC⟩ := one_box6 hW
  obtain ⟨k0, k1, k2, k3, k4, k5⟩ := KC W (Below.refl _ _)
  have PM := Lib.hid (measure_any T _ W (hT.below hb) hd hz)
  have HB := Lib.hid hb; have HW := Lib.hid hW
  clear hT hd hz hb KC hW
  go_enter Try.func12, Try.ntmps12
  go_upto_region 1 with fail
  rw [← HW.out]
  go_wp2_with fail
  refine PM.out.mono ?_
  rintro e w1 ⟨rfl, hb1⟩
  have HB1 := Lib.hid (HB.out.trans (hb1.mono HB.out.size))
  clear hb1 k0 k1 k2 k3 k4 k5
  go_wp2_with fail
  go_ret
  exact ⟨rfl, HB1.out⟩
set_option maxHeartbeats 1000000 in
theorem depth_any (T : Tr) (v : Value) (w : World) (hT : RdT w T v) (hd : deepT T ≤ 999) (hz : sizeT T ≤ 1000000) :
    Calls Try.prog 14 #[v] w (Num w (deepT T)) := by
  obtain ⟨c0, c1, c2, c3, c4, c5, rfl⟩ := shut6 hT
  obtain ⟨W, hW⟩ : ∃ W, W = w.alloc (.cells #[c0, c1, c2, c3, c4, c5] 25) := ⟨_, rfl⟩
  obtain ⟨hb, _, KC⟩ := one_box6 hW
  obtain ⟨k0, k1, k2, k3, k4, k5⟩ := KC W (Below.refl _ _)
  have PM := Lib.hid (measure_any T _ W (hT.below hb) hd hz)
  have HB := Lib.hid hb; have HW := Lib.hid hW
  clear hT hd hz hb KC hW
  go_enter Try.func14, Try.ntmps14
  go_upto_region 1 with fail
  rw [← HW.out]
  go_wp2_with fail
  refine PM.out.mono ?_
  rintro e w1 ⟨rfl, hb1⟩
  have HB1 := Lib.hid (HB.out.trans (hb1.mono HB.out.size))
  clear hb1 k0 k1 k2 k3 k4 k5
  go_wp2_with fail
  go_ret
  exact ⟨rfl, HB1.out⟩
end Go.Proofs.Ytbcnilkenkmabaa.tr
