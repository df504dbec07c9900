/- TreeCounts: the nodes, the size, the depth and the function around. -/
import Derived.Test.YtbcnilkenkmabaaCount8
import Derived.Deep.RegionHeld3
import Derived.BigRegion
namespace Go.Proofs.Ytbcnilkenkmabaa.tr
open Go.ChangeShapes Go.WideShapes Go.ChangeAt Go.RowKit Go.Proofs.Ytbcnilkenkmabaa.mem Go.Proofs.Ytbcnilkenkmabaa.sq
set_option linter.unusedVariables false
attribute [local go_sem] Oper.semAt_some

set_option maxHeartbeats 8000000 in
set_option maxRecDepth 100000 in
theorem walk_TreeCounts (T : Tr) (v : Value) (w : World) (hT : RdT w T v) : Calls Try.prog 7 #[v] w fun e w' => e = .returned (.bool true) ∧ Below w.heap.size w w' := by
  have hTQ := (RdQ.old hT).le (Q' := fun q => q < w.heap.size) (fun q e => e.2)
  obtain ⟨k, f, a, s, ns, ks⟩ := T
  obtain ⟨Aa, na, ca, B, mm, d, rfl, -⟩ := rdT_node.1 hT
  obtain ⟨W, hW⟩ : ∃ W, W = w.alloc (.cells #[.int .i64 k, .int .i64 f, .int .i64 a, .string s, .slice Aa na ca, .slice B mm d] 25) := ⟨_, rfl⟩
  obtain ⟨hb, hs, KC⟩ := one_box6 hW
  have HT := Lib.hid (RdQ.below hb hTQ); have HB := Lib.hid hb; have HKC := Lib.hid KC; have HW := Lib.hid hW; have HS := Lib.hid hs
  clear hT hTQ hb KC hW hs
  obtain ⟨Tn, hTn⟩ : ∃ Tn, Tn = Tr.node k f a s ns ks := ⟨_, rfl⟩
  rw [← hTn] at HT
  clear hTn
  rcases hf : smallT Tn 300 with _ | _
  · have HF := Lib.hid hf
    clear hf
    go_enter Try.func7, Try.ntmps7
    go_upto_region 1 with fail
    rw [← HW.out]
    go_wp2_with fail
    refine (awake_true _).mono ?_
    rintro e w1 ⟨rfl, h1⟩
    obtain ⟨k0, k1, k2, k3, k4, k5⟩ := HKC.out w1 h1
    have A1 := Lib.hid (later HB.out h1)
    have P := Lib.hid (refSmall_any Tn _ w1 300 (HT.out.below h1).rd (by omega) (by omega))
    rw [HF.out] at P
    clear h1
    go_wp2_with fail
    refine P.out.mono ?_
    rintro e w2 ⟨rfl, h2⟩
    have A2 := Lib.hid (later A1.out h2)
    clear h2
    go_wp2_with fail
    refine (awake_true _).mono ?_
    rintro e w3 ⟨rfl, h3⟩
    have A3 := Lib.hid (later A2.out h3)
    clear h3
    go_wp2_with fail
    go_ret
    exact ⟨rfl, A3.out⟩
  obtain ⟨hd, hz, hr⟩ := small_out hf (by omega)
  have HF := Lib.hid hf; have HD := Lib.hid hd; have HZ := Lib.hid hz; have HR := Lib.hid hr
  clear hf hd hz hr
  refine (callsIn_wide (n := 3)).1 ?_
  refine callsIn_of_wp_marks Try.func7 rfl trivial ?_ rfl
  simp only [Try.ntmps7, List.size_toArray, List.length_cons, List.length_nil, Nat.reduceAdd, Nat.reduceSub, Array.replicate_succ, Array.replicate_zero, List.push_toArray, List.append_toArray, List.nil_append, List.cons_append]
  refine wpIn_wide.2 ?_
  go_upto_region 1 with fail
  rw [← HW.out]
  clear HW
  go_wp2_with fail
  refine (awake_true _).mono ?_
  rintro e w1 ⟨rfl, h1⟩
  obtain ⟨k0, k1, k2, k3, k4, k5⟩ := HKC.out w1 h1
  have A1 := Lib.hid (later HB.out h1)
  have P := Lib.hid (refSmall_any Tn _ w1 300 (HT.out.below h1).rd (by omega) (by omega))
  rw [HF.out] at P
  have HT1 := Lib.hid (RdQ.below h1 HT.out); have HK1 := Lib.hid (fun V (h : Below w1.heap.size w1 V) => HKC.out V (later h1 h)); have S1 := Lib.hid (show w.heap.size + 1 ≤ w1.heap.size by have := h1.size; have := HS.out; omega)
  clear h1 HT HKC HB HS
  go_wp2_with fail
  refine P.out.mono ?_
  rintro e w2 ⟨rfl, h2⟩
  obtain ⟨V3, hV3⟩ : ∃ V3, V3 = (w2.alloc (.cells #[.int .i64 0] 3)).alloc (.cells #[.bool false] 4) := ⟨_, rfl⟩
  have b3 : Below w2.heap.size w2 V3 := by rw [hV3]; exact ((Below.refl _ _).alloc (Nat.le_refl _) _).alloc (by simp) _
  have s3 : V3.heap.size = w2.heap.size + 2 := by rw [hV3]; simp
  have n3 : Boxed V3 w2.heap.size 3 (.int .i64 0) := by rw [hV3]; exact (Boxed.new w2 _ _).alloc _
  have l3 : Boxed V3 (w2.heap.size + 1) 4 (.bool false) := by
    have := Boxed.new (w2.alloc (.cells #[.int .i64 0] 3)) 4 (.bool false)
    rw [World.size_alloc, ← hV3] at this
    exact this
  have h23 := later h2 b3
  have HV3 := Lib.hid hV3; have S3 := Lib.hid (show w.heap.size + 1 ≤ w2.heap.size ∧ V3.heap.size = w2.heap.size + 2 by have := S1.out; have := h2.size; omega); have N3 := Lib.hid n3; have L3 := Lib.hid l3; have A3 := Lib.hid (later A1.out h23); have HT3 := Lib.hid (RdQ.below h23 HT1.out); have HK3 := Lib.hid (fun V (h : Below V3.heap.size V3 V) => HK1.out V (later h23 h))
  clear h2 hV3 b3 s3 n3 l3 h23 k0 k1 k2 k3 k4 k5 P A1 HT1 HK1 S1
  obtain ⟨k0, k1, k2, k3, k4, k5⟩ := HK3.out V3 (Below.refl _ _)
  go_upto_region 5 with fail
  rw [← HV3.out]
  clear HV3
  go_wp2_with fail
  refine (steps_any Tn _ V3 HT3.out.rd (by have := HD.out; omega) (by have := HZ.out; omega)).mono ?_
  rintro e V4 ⟨v4, rfl, hv4, ht4, hb4⟩
  have hlt4 : V3.heap.size < V4.heap.size := by obtain ⟨c0, c1, c2, c3, c4, c5, -, g0, -⟩ := hv4; exact World.block_lt_of_cell? _ _ g0
  have hseq := steps_seq_from (w2.heap.size + 2) (3 - 1) V3.heap.size Tn v4 (fun q => V3.heap.size < q ∧ q < V4.heap.size) V4 hv4 (RdQ.old ht4) (fun q e => e.2) (by have := HD.out; omega) (by have := HZ.out; omega) (by have := S3.out; omega)
  have HSEQ := Lib.hid hseq; have HLT := Lib.hid hlt4; have N4 := Lib.hid (boxed_below N3.out hb4); have L4 := Lib.hid (boxed_below L3.out hb4); have A4 := Lib.hid (later A3.out hb4); have HT4 := Lib.hid (RdQ.below hb4 HT3.out); have HK4 := Lib.hid (fun V (h : Below V4.heap.size V4 V) => HK3.out V (later hb4 h))
  clear hv4 ht4 hb4 hlt4 hseq k0 k1 k2 k3 k4 k5 N3 L3 A3 HT3 HK3
  have hfe := func_eq
  go_wp2_with fail
  clear hfe
  refine (wpIn_wide (n := 3)).1 ?_
  refine wpIn_iterate rfl (fun h => by cases h) (gf := 35) rfl trivial (Hand := HandF (w2.heap.size + 2)) (enters_of Try.func35 (by kernel_rfl) rfl) (fun W x vs h => by obtain ⟨v, rfl, _⟩ := h; rfl) HSEQ.out (Below.refl _ _) (fun q e => e.2)
    (CI V4 w2.heap.size (w2.heap.size + 1) Tn) (fun _ _ _ _ => False) (ci_bides (by have := HLT.out; have := S3.out; omega) (by have := HLT.out; have := S3.out; omega)) (fun _ _ _ _ _ _ h _ _ => h) ⟨N4.out, L4.out, fun _ _ _ _ => rfl, rfl, rfl, rfl, Nat.le_refl _⟩ ?round ?done ?stop
  case round =>
    rintro l2 Ri p x vs C hl1 hl2 hlo hRi hci hpx ⟨vx, rfl, hTx⟩
    have hpl : p.length < 300 := by
      have h1 := (List.getElem?_eq_some_iff.1 (pre_last hpx)).1
      rw [steps_len] at h1
      have := HZ.out
      omega
    obtain ⟨x0, hx0⟩ : ∃ x0, x0 = x := ⟨_, rfl⟩
    obtain ⟨k', f', a', s', ns', ks'⟩ := x
    obtain ⟨Aa', na', ca', B', mm', d', rfl, -⟩ := rdQ_node.1 hTx
    rw [← hx0] at hTx ⊢
    obtain ⟨j, hj⟩ : ∃ j : Int, (p.length : Int) = j := ⟨_, rfl⟩
    have HL := Lib.hid (show V4.heap.size ≤ l2 ∧ l2 < C.heap.size from ⟨hl1, hl2⟩); have HLO := Lib.hid hlo; have HRI := Lib.hid hRi; have HCI := Lib.hid hci; have HTX := Lib.hid hTx; have HJ := Lib.hid hj; have HJB := Lib.hid (show 0 ≤ j ∧ j < 300 by omega)
    clear hpx hl1 hl2 hlo hRi hci hTx hpl hx0 hj HSEQ A4 N4 L4
    gi_wp2_with fail
    refine ⟨Spares.of_below ((Below.refl _ _).alloc (Nat.le_refl _) _) (fun q e => by have := HL.out; omega) (fun q e => (HRI.out q e).2), fun X hX => ?_⟩
    have hlt := HL.out; have hs3 := S3.out; have hs4 := HLT.out
    have hsX : C.heap.size + 1 ≤ X.heap.size := by have := hX.size; simp at this; omega
    have hC := ci_bides (bn := w2.heap.size) (bl := w2.heap.size + 1) (T := Tn) (W := V4) (by omega) (by omega) Ri Ri _ _ _ HCI.out (turn_round (R := Ri) (by exact (Below.refl _ _).alloc (Nat.le_refl _) _) hX HLO.out hlt.1) (Grow.refl _ _ _)
    have hsome := round_cells (by exact (Below.refl _ _).alloc (Nat.le_refl _) _) hX HLO.out
    have hxX : RdQ (fun b => w2.heap.size + 2 ≤ b) X x0 (.agg #[.int .i64 k', .int .i64 f', .int .i64 a', .string s', .slice Aa' na' ca', .slice B' mm' d']) := HTX.out.some_ (by omega) hsome
    have hk0 : X.cell? ⟨C.heap.size, 0, none⟩ = some (.int .i64 k') := cell_out hX (cell_new C _ _ 0 rfl) (by show C.heap.size ≠ l2; omega)
    have hk1 : X.cell? ⟨C.heap.size, 1, none⟩ = some (.int .i64 f') := cell_out hX (cell_new C _ _ 1 rfl) (by show C.heap.size ≠ l2; omega)
    have hk2 : X.cell? ⟨C.heap.size, 2, none⟩ = some (.int .i64 a') := cell_out hX (cell_new C _ _ 2 rfl) (by show C.heap.size ≠ l2; omega)
    have hk3 : X.cell? ⟨C.heap.size, 3, none⟩ = some (.string s') := cell_out hX (cell_new C _ _ 3 rfl) (by show C.heap.size ≠ l2; omega)
    have hk4 : X.cell? ⟨C.heap.size, 4, none⟩ = some (.slice Aa' na' ca') := cell_out hX (cell_new C _ _ 4 rfl) (by show C.heap.size ≠ l2; omega)
    have hk5 : X.cell? ⟨C.heap.size, 5, none⟩ = some (.slice B' mm' d') := cell_out hX (cell_new C _ _ 5 rfl) (by show C.heap.size ≠ l2; omega)
    have h1 := hC.1
    rw [HJ.out] at h1
    obtain ⟨X1, hX1⟩ : ∃ X1, X1 = X.setCell ⟨w2.heap.size, 0, none⟩ (.int .i64 (j + 1)) := ⟨_, rfl⟩
    have hs1 : X1.heap.size = X.heap.size := by rw [hX1]; simp [World.setCell]
    have hset : ∀ q, q ≠ w2.heap.size → X1.heap[q]? = X.heap[q]? := fun q hq => by rw [hX1]; exact Below.heap_setCell _ _ _ _ hq
    have hxX1 := hxX.carry (w' := X1) (by omega) (fun q e => hset q (by omega))
    have htX1 : RdT X1 Tn (.agg #[.int .i64 k, .int .i64 f, .int .i64 a, .string s, .slice Aa na ca, .slice B mm d]) := ((HT4.out.carry hC.2.2.2.2.2.2 (fun q e => hC.2.2.1 q (by omega) (by omega) (by omega))).carry (w' := X1) (by omega) (fun q e => hset q (by omega))).rd
    obtain ⟨g0, g1, g2, g3, g4, g5⟩ := HK4.out V4 (Below.refl _ _)
    have hcw : ∀ (i : Nat) (u : Value), V4.cell? ⟨w.heap.size, i, none⟩ = some u → X.cell? ⟨w.heap.size, i, none⟩ = some u := fun i u h => cell_as h (hC.2.2.1 w.heap.size (by omega) (by omega) (by omega))
    have j0 := hcw _ _ g0; have j1 := hcw _ _ g1; have j2 := hcw _ _ g2; have j3 := hcw _ _ g3; have j4 := hcw _ _ g4; have j5 := hcw _ _ g5
    have n0 := h1.cell; have f0 := h1.frozen
    have hne1 : C.heap.size ≠ w2.heap.size := by omega
    have hne2 : w.heap.size ≠ w2.heap.size := by omega
    have hadd : IntKind.i64.wrap (j + 1) = j + 1 := by have := HJB.out; rw [IntKind.wrap_i64]; omega
    have PX := Lib.hid (refSame_any x0 Tn _ _ X1 hxX1.rd htX1)
    have HL1 := Lib.hid (boxed_as hC.2.1 (hset _ (by omega)))
    have HF := Lib.hid (fun V (hV : Below X1.heap.size X1 V) => ci_step (x := x0) (T := Tn) (Ri' := Ri) (m := j + 1) (K := fun q => V3.heap.size < q ∧ q < V4.heap.size) (R := Ri) hC (by rw [HJ.out]) (by omega) (by omega) (by omega) (by omega) (by omega) (fun e => by have := HRI.out _ e; omega) (fun e => by have := HRI.out _ e; omega) (fun q e => by omega) (fun q e => by have := HRI.out q e; omega) (hX1 ▸ hV))
    subst hX1
    clear hlt hs3 hs4 hsX hC hsome hxX hX h1 hs1 hset hxX1 htX1 g0 g1 g2 g3 g4 g5 hcw
    gi_wp2_with ((refine call_round PX.out ?_; rintro e V ⟨rfl, hV⟩; have hlV := boxed_below HL1.out hV; have m0 := hlV.cell; have m1 := hlV.frozen; have HFV := Lib.hid (HF.out V hV); clear hV hlV))
    exact HFV.out
  case done =>
    rintro D Ri X hD ⟨h1, h1', h2, h3, h4, h5, h6⟩ hK
    rw [steps_len] at h1
    rw [lastB_steps] at h1'
    obtain ⟨z, hz⟩ : ∃ z : Int, ((sizeT Tn : Nat) : Int) = z := ⟨_, rfl⟩
    obtain ⟨dd, hdd⟩ : ∃ z : Int, ((deepT Tn : Nat) : Int) = z := ⟨_, rfl⟩
    obtain ⟨z1, hz1⟩ : ∃ z : Int, ((sizeT (overT Tn) : Nat) : Int) = z := ⟨_, rfl⟩
    obtain ⟨d1, hd1⟩ : ∃ z : Int, ((deepT (overT Tn) : Nat) : Int) = z := ⟨_, rfl⟩
    obtain ⟨q, hq⟩ : ∃ q, rightT (overT Tn) = q := ⟨_, rfl⟩
    rw [hz] at h1
    have hs3 := S3.out; have hs7 := HLT.out; have hzz := HZ.out; have hDD := HD.out
    have hsz := over_size Tn; have hsd := over_deep Tn; have hds := depth_le_size Tn
    have e1 : IntKind.i64.wrap (z + 1) = z1 := by rw [IntKind.wrap_i64]; omega
    have e2 : IntKind.i64.wrap (dd + 1) = d1 := by rw [IntKind.wrap_i64]; omega
    have e3 : decide (dd ≤ z) = true := decide_eq_true (by omega)
    have e4 : decide (dd < 100) = q := by rw [← hq, over_right HR.out, hdd]
    have hbX : Below w.heap.size w X := ⟨h3.trans A4.out.os, h4.trans A4.out.tape, h5.trans A4.out.output, Nat.le_trans A4.out.size h6, fun q hq => (h2 q (by have := A4.out.size; omega) (by omega) (by omega)).trans (A4.out.block q hq)⟩
    have TX := (HT4.out.carry h6 (fun q e => h2 q (by omega) (by omega) (by omega))).rd
    obtain ⟨Y, hY⟩ : ∃ Y, Y = (X.alloc (.cells #[.int .i64 k, .int .i64 f, .int .i64 a, .string s, .slice Aa na ca, .slice B mm d] 25)).alloc (.cells #[.int .i64 3, .int .i64 6, .int .i64 (-1), .string ⟨#[]⟩, .slice none 0 0, .slice (some ⟨X.heap.size, 0, none⟩) 1 1] 25) := ⟨_, rfl⟩
    obtain ⟨sY, bY, xY, mY⟩ := lay3 hY TX
    obtain ⟨g0, g1, g2, g3, g4, g5⟩ := HK4.out V4 (Below.refl _ _)
    have hcw : ∀ (i : Nat) (u : Value), V4.cell? ⟨w.heap.size, i, none⟩ = some u → X.cell? ⟨w.heap.size, i, none⟩ = some u := fun i u h => cell_as h (h2 w.heap.size (by omega) (by omega) (by omega))
    have j0 := hcw _ _ g0; have j1 := hcw _ _ g1; have j2 := hcw _ _ g2; have j3 := hcw _ _ g3; have j4 := hcw _ _ g4; have j5 := hcw _ _ g5
    have hwX : w.heap.size < X.heap.size := by omega
    have HKC : Hid (∀ w', Below Y.heap.size Y w' → w'.cell? ⟨w2.heap.size, 0, none⟩ = some (.int .i64 z) ∧ w'.cell? ⟨w2.heap.size + 1, 0, none⟩ = some (.bool true) ∧ (w'.cell? ⟨w.heap.size, 0, none⟩ = some (.int .i64 k) ∧ w'.cell? ⟨w.heap.size, 1, none⟩ = some (.int .i64 f) ∧ w'.cell? ⟨w.heap.size, 2, none⟩ = some (.int .i64 a) ∧ w'.cell? ⟨w.heap.size, 3, none⟩ = some (.string s) ∧ w'.cell? ⟨w.heap.size, 4, none⟩ = some (.slice Aa na ca) ∧ w'.cell? ⟨w.heap.size, 5, none⟩ = some (.slice B mm d)) ∧ (w'.cell? ⟨X.heap.size + 1, 0, none⟩ = some (.int .i64 3) ∧ w'.cell? ⟨X.heap.size + 1, 1, none⟩ = some (.int .i64 6) ∧ w'.cell? ⟨X.heap.size + 1, 2, none⟩ = some (.int .i64 (-1)) ∧ w'.cell? ⟨X.heap.size + 1, 3, none⟩ = some (.string ⟨#[]⟩) ∧ w'.cell? ⟨X.heap.size + 1, 4, none⟩ = some (.slice none 0 0) ∧ w'.cell? ⟨X.heap.size + 1, 5, none⟩ = some (.slice (some ⟨X.heap.size, 0, none⟩) 1 1))) := Lib.hid (fun w' h => by
      have hb := later bY h
      exact ⟨(boxed_below h1 hb).cell, (boxed_below h1' hb).cell, ⟨(hb.cell (p := ⟨w.heap.size, 0, none⟩) hwX).trans j0, (hb.cell (p := ⟨w.heap.size, 1, none⟩) hwX).trans j1, (hb.cell (p := ⟨w.heap.size, 2, none⟩) hwX).trans j2, (hb.cell (p := ⟨w.heap.size, 3, none⟩) hwX).trans j3, (hb.cell (p := ⟨w.heap.size, 4, none⟩) hwX).trans j4, (hb.cell (p := ⟨w.heap.size, 5, none⟩) hwX).trans j5⟩, (xY.below h).six⟩)
    have hDX := (Array.getElem?_eq_some_iff.1 hK).1
    have HDF := Lib.hid (fun V (h : Below Y.heap.size Y V) => show V.heap[D]? = some (.deferred (some [])) from ((later bY h).block D hDX).trans hK)
    have HBF := Lib.hid (fun V (h : Below Y.heap.size Y V) => show Below w.heap.size w (V.putObj D (.deferred none)) from
      (later hbX (later bY h)).grown (grownBy_putObj' _ D (.deferred none)) (later hbX (later bY h)).size (fun q e => by cases e; omega))
    have TY := Lib.hid (TX.below bY); have MY := Lib.hid mY; have HY := Lib.hid hY
    have HZN := Lib.hid hz; have HDN := Lib.hid hdd; have HZ1N := Lib.hid hz1; have HD1N := Lib.hid hd1; have HQ := Lib.hid hq
    have HD9 := Lib.hid (show deepT Tn ≤ 999 by omega); have HZ99 := Lib.hid (show sizeT Tn ≤ 1000000 by omega); have HMD := Lib.hid (show deepT (overT Tn) ≤ 999 by omega); have HMZ := Lib.hid (show sizeT (overT Tn) ≤ 1000000 by omega); have HZR := Lib.hid (show sizeT Tn < 1099511627776 by omega)
    have HZ0 := Lib.hid (Below.refl Y.heap.size Y)
    clear h1 h1' h2 h3 h4 h5 h6 hz hdd hz1 hd1 hq hs3 hs7 hzz hDD hsz hsd hds hbX TX hY sY bY xY mY g0 g1 g2 g3 g4 g5 hcw hwX hDX hK hD HSEQ A4 N4 L4 HT4 HK4
    go_upto_region 13 with fail
    rw [← HY.out]
    clear HY j0 j1 j2 j3 j4 j5
    obtain ⟨c0n, c0l, ⟨c0t0, c0t1, c0t2, c0t3, c0t4, c0t5⟩, c0m0, c0m1, c0m2, c0m3, c0m4, c0m5⟩ := HKC.out Y HZ0.out
    go_wp2_with fail
    go_region_held3 (fun w' => w'.cell? ⟨w2.heap.size, 0, none⟩ = some (.int .i64 z) ∧ w'.cell? ⟨w2.heap.size + 1, 0, none⟩ = some (.bool true) ∧ (w'.cell? ⟨w.heap.size, 0, none⟩ = some (.int .i64 k) ∧ w'.cell? ⟨w.heap.size, 1, none⟩ = some (.int .i64 f) ∧ w'.cell? ⟨w.heap.size, 2, none⟩ = some (.int .i64 a) ∧ w'.cell? ⟨w.heap.size, 3, none⟩ = some (.string s) ∧ w'.cell? ⟨w.heap.size, 4, none⟩ = some (.slice Aa na ca) ∧ w'.cell? ⟨w.heap.size, 5, none⟩ = some (.slice B mm d)) ∧ (w'.cell? ⟨X.heap.size + 1, 0, none⟩ = some (.int .i64 3) ∧ w'.cell? ⟨X.heap.size + 1, 1, none⟩ = some (.int .i64 6) ∧ w'.cell? ⟨X.heap.size + 1, 2, none⟩ = some (.int .i64 (-1)) ∧ w'.cell? ⟨X.heap.size + 1, 3, none⟩ = some (.string ⟨#[]⟩) ∧ w'.cell? ⟨X.heap.size + 1, 4, none⟩ = some (.slice none 0 0) ∧ w'.cell? ⟨X.heap.size + 1, 5, none⟩ = some (.slice (some ⟨X.heap.size, 0, none⟩) 1 1))) (go_keep)
      (first
      | (go_at_call 12; with_reducible refine (size_at (T := Tn) z HZN.out (TY.out.below (by repeat (first | exact HZ7.out | exact HZ6.out | exact HZ5.out | exact HZ4.out | exact HZ3.out | exact HZ2.out | exact HZ1.out | exact HZ0.out | refine Below.drew ?_))) HD9.out HZ99.out).mono ?_
         rintro e v1 ⟨rfl, h3⟩
         have HZ1 := Lib.hid (later (w := Y) (by repeat (first | exact HZ7.out | exact HZ6.out | exact HZ5.out | exact HZ4.out | exact HZ3.out | exact HZ2.out | exact HZ1.out | exact HZ0.out | refine Below.drew ?_)) h3)
         obtain ⟨c1n, c1l, ⟨c1t0, c1t1, c1t2, c1t3, c1t4, c1t5⟩, c1m0, c1m1, c1m2, c1m3, c1m4, c1m5⟩ := HKC.out _ HZ1.out
         clear h3)
      | (go_at_call 14; with_reducible refine (depth_at (T := Tn) dd HDN.out (TY.out.below (by repeat (first | exact HZ7.out | exact HZ6.out | exact HZ5.out | exact HZ4.out | exact HZ3.out | exact HZ2.out | exact HZ1.out | exact HZ0.out | refine Below.drew ?_))) HD9.out HZ99.out).mono ?_
         rintro e v2 ⟨rfl, h3⟩
         have HZ2 := Lib.hid (later (w := Y) (by repeat (first | exact HZ7.out | exact HZ6.out | exact HZ5.out | exact HZ4.out | exact HZ3.out | exact HZ2.out | exact HZ1.out | exact HZ0.out | refine Below.drew ?_)) h3)
         obtain ⟨c2n, c2l, ⟨c2t0, c2t1, c2t2, c2t3, c2t4, c2t5⟩, c2m0, c2m1, c2m2, c2m3, c2m4, c2m5⟩ := HKC.out _ HZ2.out
         clear h3)
      | (go_at_call 12; with_reducible refine (size_at (T := overT Tn) z1 HZ1N.out (MY.out.below (by repeat (first | exact HZ7.out | exact HZ6.out | exact HZ5.out | exact HZ4.out | exact HZ3.out | exact HZ2.out | exact HZ1.out | exact HZ0.out | refine Below.drew ?_))) HMD.out HMZ.out).mono ?_
         rintro e v3 ⟨rfl, h3⟩
         have HZ3 := Lib.hid (later (w := Y) (by repeat (first | exact HZ7.out | exact HZ6.out | exact HZ5.out | exact HZ4.out | exact HZ3.out | exact HZ2.out | exact HZ1.out | exact HZ0.out | refine Below.drew ?_)) h3)
         obtain ⟨c3n, c3l, ⟨c3t0, c3t1, c3t2, c3t3, c3t4, c3t5⟩, c3m0, c3m1, c3m2, c3m3, c3m4, c3m5⟩ := HKC.out _ HZ3.out
         clear h3)
      | (go_at_call 14; with_reducible refine (depth_at (T := overT Tn) d1 HD1N.out (MY.out.below (by repeat (first | exact HZ7.out | exact HZ6.out | exact HZ5.out | exact HZ4.out | exact HZ3.out | exact HZ2.out | exact HZ1.out | exact HZ0.out | refine Below.drew ?_))) HMD.out HMZ.out).mono ?_
         rintro e v4 ⟨rfl, h3⟩
         have HZ4 := Lib.hid (later (w := Y) (by repeat (first | exact HZ7.out | exact HZ6.out | exact HZ5.out | exact HZ4.out | exact HZ3.out | exact HZ2.out | exact HZ1.out | exact HZ0.out | refine Below.drew ?_)) h3)
         obtain ⟨c4n, c4l, ⟨c4t0, c4t1, c4t2, c4t3, c4t4, c4t5⟩, c4m0, c4m1, c4m2, c4m3, c4m4, c4m5⟩ := HKC.out _ HZ4.out
         clear h3)
      | (go_at_call 14; with_reducible refine (depth_at (T := Tn) dd HDN.out (TY.out.below (by repeat (first | exact HZ7.out | exact HZ6.out | exact HZ5.out | exact HZ4.out | exact HZ3.out | exact HZ2.out | exact HZ1.out | exact HZ0.out | refine Below.drew ?_))) HD9.out HZ99.out).mono ?_
         rintro e v7 ⟨rfl, h3⟩
         have HZ7 := Lib.hid (later (w := Y) (by repeat (first | exact HZ7.out | exact HZ6.out | exact HZ5.out | exact HZ4.out | exact HZ3.out | exact HZ2.out | exact HZ1.out | exact HZ0.out | refine Below.drew ?_)) h3)
         obtain ⟨c7n, c7l, ⟨c7t0, c7t1, c7t2, c7t3, c7t4, c7t5⟩, c7m0, c7m1, c7m2, c7m3, c7m4, c7m5⟩ := HKC.out _ HZ7.out
         clear h3)
      | (go_at_call 10; with_reducible refine (right_at (T := overT Tn) q HQ.out (MY.out.below (by repeat (first | exact HZ7.out | exact HZ6.out | exact HZ5.out | exact HZ4.out | exact HZ3.out | exact HZ2.out | exact HZ1.out | exact HZ0.out | refine Below.drew ?_))) HMD.out HMZ.out).mono ?_
         rintro e v5 ⟨rfl, h3⟩
         have HZ5 := Lib.hid (later (w := Y) (by repeat (first | exact HZ7.out | exact HZ6.out | exact HZ5.out | exact HZ4.out | exact HZ3.out | exact HZ2.out | exact HZ1.out | exact HZ0.out | refine Below.drew ?_)) h3)
         obtain ⟨c5n, c5l, ⟨c5t0, c5t1, c5t2, c5t3, c5t4, c5t5⟩, c5m0, c5m1, c5m2, c5m3, c5m4, c5m5⟩ := HKC.out _ HZ5.out
         clear h3)
      | (go_at_call 15; with_reducible refine (refDepth_at (T := Tn) dd HDN.out (TY.out.below (by repeat (first | exact HZ7.out | exact HZ6.out | exact HZ5.out | exact HZ4.out | exact HZ3.out | exact HZ2.out | exact HZ1.out | exact HZ0.out | refine Below.drew ?_))) HZR.out).mono ?_
         rintro e v6 ⟨rfl, h3⟩
         have HZ6 := Lib.hid (later (w := Y) (by repeat (first | exact HZ7.out | exact HZ6.out | exact HZ5.out | exact HZ4.out | exact HZ3.out | exact HZ2.out | exact HZ1.out | exact HZ0.out | refine Below.drew ?_)) h3)
         obtain ⟨c6n, c6l, ⟨c6t0, c6t1, c6t2, c6t3, c6t4, c6t5⟩, c6m0, c6m1, c6m2, c6m3, c6m4, c6m5⟩ := HKC.out _ HZ6.out
         clear h3))
    all_goals
      go_wp2_with fail
      refine ⟨by simp, .inl ⟨_, _, rfl, run_takeDeferred (HDF.out _ (by repeat (first | exact HZ7.out | exact HZ6.out | exact HZ5.out | exact HZ4.out | exact HZ3.out | exact HZ2.out | exact HZ1.out | exact HZ0.out | refine Below.drew ?_))), ?_⟩⟩
      refine ⟨_, results_tmp rfl _ _ _, rfl, HBF.out _ (by repeat (first | exact HZ7.out | exact HZ6.out | exact HZ5.out | exact HZ4.out | exact HZ3.out | exact HZ2.out | exact HZ1.out | exact HZ0.out | refine Below.drew ?_))⟩
  case stop =>
    rintro D c Ri p X hD _ h _
    exact h.elim
end Go.Proofs.Ytbcnilkenkmabaa.tr
