/- The laws of package tree: awake answers true. -/
import Derived.Test.YtbcnilkenkmabaaTreeAwa
import Derived.Deep.RegionHeld3
import Derived.BigRegion
namespace Go.Proofs.Ytbcnilkenkmabaa.tr
open Go.ChangeShapes Go.WideShapes Go.ChangeAt Go.RowKit Go.Proofs.Ytbcnilkenkmabaa.mem Go.Proofs.Ytbcnilkenkmabaa.sq
set_option linter.unusedVariables false
attribute [local go_sem] Oper.semAt_some

set_option maxHeartbeats 8000000 in
set_option maxRecDepth 100000 in
theorem awake_true (w : World) : Calls Try.prog 8 #[] w fun e w' => e = .returned (.bool true) ∧ Below w.heap.size w w' := by
  obtain ⟨w1, hw1⟩ : ∃ w1, w1 = ((w.alloc (.cells #[.bool false] 4)).alloc (.cells #[.int .i64 2] 2)).alloc (.cells #[.int .i64 1, .int .i64 0, .int .i64 (-1), .string ⟨#[]⟩, .slice (some ⟨w.heap.size + 1, 0, none⟩) 1 1, .slice none 0 0] 25) := ⟨_, rfl⟩
  obtain ⟨s1, b1, r1, x1, t1⟩ := lay1 hw1
  have HW1 := Lib.hid hw1; have S1 := Lib.hid s1; have B1 := Lib.hid b1; have R1 := Lib.hid r1; have X1 := Lib.hid x1; have T1 := Lib.hid t1
  clear hw1 s1 b1 r1 x1 t1
  refine (callsIn_wide (n := 3)).1 ?_
  refine callsIn_of_wp_marks Try.func8 rfl trivial ?_ rfl
  simp only [Try.ntmps8, List.size_toArray, List.length_nil, Nat.reduceSub, Array.replicate_succ, Array.replicate_zero, List.push_toArray, List.append_toArray, List.nil_append, List.cons_append]
  refine wpIn_wide.2 ?_
  go_upto_region 2 with fail
  rw [← HW1.out]
  clear HW1
  go_wp2_with fail
  refine (name_any _ _).mono ?_
  rintro e V1 ⟨rfl, hb1⟩
  have HB1 := Lib.hid hb1
  clear hb1
  go_wp2_with fail
  refine (name_any _ _).mono ?_
  rintro e V2 ⟨rfl, hb2⟩
  have hb12 := later HB1.out hb2
  obtain ⟨V3, hV3⟩ : ∃ V3, V3 = (V2.alloc (.cells #[.int .i64 2, .int .i64 0, .int .i64 (-1), .string ⟨#[120]⟩, .slice none 0 0, .slice none 0 0, .int .i64 2, .int .i64 0, .int .i64 (-1), .string ⟨#[121]⟩, .slice none 0 0, .slice none 0 0] 25)).alloc (.cells #[.int .i64 4, .int .i64 6, .int .i64 (-1), .string ⟨#[]⟩, .slice none 0 0, .slice (some ⟨V2.heap.size, 0, none⟩) 2 2] 25) := ⟨_, rfl⟩
  obtain ⟨s3, b3, x3, t3⟩ := lay2 (T := xT) (U := yT) hV3 (by omega) (by omega) (leaf_at _ _ (by decide)) (leaf_at _ _ (by decide))
  have b13 := later hb12 b3
  have hz := hb12.size
  obtain ⟨p0, p1, p2, p3, p4, p5⟩ := (X1.out.below b13).six
  obtain ⟨q0, q1, q2, q3, q4, q5⟩ := x3.six
  have HV3 := Lib.hid hV3; have S3 := Lib.hid (show w.heap.size + 3 ≤ V2.heap.size ∧ V3.heap.size = V2.heap.size + 2 by have := S1.out; omega); have B3 := Lib.hid (later B1.out b13); have R3 := Lib.hid (boxed_below R1.out b13); have X31 := Lib.hid (X1.out.below b13); have T31 := Lib.hid (T1.out.below b13); have X33 := Lib.hid x3; have T33 := Lib.hid t3
  clear hb2 hb12 hV3 s3 b3 x3 t3 b13 hz HB1 B1 R1 X1 T1 S1
  go_upto_region 3 with fail
  rw [← HV3.out]
  clear HV3
  obtain ⟨V4, hV4⟩ : ∃ V4, V4 = (V3.alloc (.cells #[.int .i64 1, .int .i64 0, .int .i64 (-1), .string ⟨#[]⟩, .slice (some ⟨w.heap.size + 1, 0, none⟩) 1 1, .slice none 0 0, .int .i64 4, .int .i64 6, .int .i64 (-1), .string ⟨#[]⟩, .slice none 0 0, .slice (some ⟨V2.heap.size, 0, none⟩) 2 2] 25)).alloc (.cells #[.int .i64 4, .int .i64 1, .int .i64 (-1), .string ⟨#[]⟩, .slice none 0 0, .slice (some ⟨V3.heap.size, 0, none⟩) 2 2] 25) := ⟨_, rfl⟩
  obtain ⟨s4, b4, x4, t4⟩ := lay2 (T := twoT) (U := catT) hV4 (by omega) (by omega) T31.out T33.out
  have HV4 := Lib.hid hV4; have S4 := Lib.hid s4; have B4 := Lib.hid (later B3.out b4); have R4 := Lib.hid (boxed_below R3.out b4); have X41 := Lib.hid (X31.out.below b4); have T41 := Lib.hid (T31.out.below b4); have X43 := Lib.hid (X33.out.below b4); have T43 := Lib.hid (T33.out.below b4); have X44 := Lib.hid x4; have T44 := Lib.hid t4
  clear hV4 s4 b4 x4 t4 B3 R3 X31 T31 X33 T33
  go_upto_region 4 with fail
  rw [← HV4.out]
  clear HV4 p0 p1 p2 p3 p4 p5 q0 q1 q2 q3 q4 q5
  obtain ⟨p0, p1, p2, p3, p4, p5⟩ := X41.out.six
  obtain ⟨q0, q1, q2, q3, q4, q5⟩ := X43.out.six
  obtain ⟨V5, hV5⟩ : ∃ V5, V5 = (V4.alloc (.cells #[.int .i64 4, .int .i64 6, .int .i64 (-1), .string ⟨#[]⟩, .slice none 0 0, .slice (some ⟨V2.heap.size, 0, none⟩) 2 2, .int .i64 1, .int .i64 0, .int .i64 (-1), .string ⟨#[]⟩, .slice (some ⟨w.heap.size + 1, 0, none⟩) 1 1, .slice none 0 0] 25)).alloc (.cells #[.int .i64 4, .int .i64 1, .int .i64 (-1), .string ⟨#[]⟩, .slice none 0 0, .slice (some ⟨V4.heap.size, 0, none⟩) 2 2] 25) := ⟨_, rfl⟩
  obtain ⟨s5, b5, x5, t5⟩ := lay2 (T := catT) (U := twoT) hV5 (by omega) (by omega) T43.out T41.out
  have HV5 := Lib.hid hV5; have S5 := Lib.hid s5; have B5 := Lib.hid (later B4.out b5); have R5 := Lib.hid (boxed_below R4.out b5); have X53 := Lib.hid (X43.out.below b5); have T53 := Lib.hid ((RdQ.old (T43.out.below b5)).le (Q' := fun q => q < V5.heap.size) (fun q e => e.2)); have X54 := Lib.hid (X44.out.below b5); have T54 := Lib.hid ((RdQ.old (T44.out.below b5)).le (Q' := fun q => q < V5.heap.size) (fun q e => e.2)); have X55 := Lib.hid x5; have T55 := Lib.hid ((RdQ.old (t5)).le (Q' := fun q => q < V5.heap.size) (fun q e => e.2))
  clear hV5 s5 b5 x5 t5 B4 R4 X41 T41 X43 T43 X44 T44
  go_upto_region 5 with fail
  rw [← HV5.out]
  clear HV5 p0 p1 p2 p3 p4 p5 q0 q1 q2 q3 q4 q5
  obtain ⟨V6, hV6⟩ : ∃ V6, V6 = V5.alloc (.cells #[.int .i64 0] 3) := ⟨_, rfl⟩
  have b6 : Below V5.heap.size V5 V6 := by rw [hV6]; exact (Below.refl _ _).alloc (Nat.le_refl _) _
  have s6 : V6.heap.size = V5.heap.size + 1 := by rw [hV6]; simp
  have n6 : Boxed V6 V5.heap.size 3 (.int .i64 0) := by rw [hV6]; exact Boxed.new V5 _ _
  have HV6 := Lib.hid hV6; have S6 := Lib.hid s6; have B6 := Lib.hid (later B5.out b6); have R6 := Lib.hid (boxed_below R5.out b6); have X63 := Lib.hid (X53.out.below b6); have T63 := Lib.hid (T53.out.below b6); have X64 := Lib.hid (X54.out.below b6); have T64 := Lib.hid (T54.out.below b6); have X65 := Lib.hid (X55.out.below b6); have T65 := Lib.hid (T55.out.below b6); have N6 := Lib.hid n6
  clear hV6 s6 b6 n6 B5 R5 X53 T53 X54 T54 X55 T55
  go_upto_region 6 with fail
  rw [← HV6.out]
  clear HV6
  obtain ⟨p0, p1, p2, p3, p4, p5⟩ := X64.out.six
  go_wp2_with fail
  refine (steps_any tT _ V6 T64.out.rd (by rw [deep_tT]; omega) (by rw [size_tT]; omega)).mono ?_
  rintro e V7 ⟨v7, rfl, hv7, ht7, hb7⟩
  have hs7 := hv7.below (Below.refl _ _)
  have hlt7 : V6.heap.size < V7.heap.size := by obtain ⟨c0, c1, c2, c3, c4, c5, -, g0, -⟩ := hv7; exact World.block_lt_of_cell? _ _ g0
  have hseq := steps_seq (3 - 1) V6.heap.size tT v7 (fun q => V6.heap.size < q ∧ q < V7.heap.size) V7 hv7 (RdQ.old ht7) (fun q e => e.2) (by rw [deep_tT]; omega) (by rw [size_tT]; omega)
  have HSEQ := Lib.hid hseq; have HLT := Lib.hid hlt7; have B7 := Lib.hid (later B6.out hb7); have R7 := Lib.hid (boxed_below R6.out hb7); have X73 := Lib.hid (X63.out.below hb7); have T73 := Lib.hid (T63.out.below hb7); have X74 := Lib.hid (X64.out.below hb7); have T74 := Lib.hid (T64.out.below hb7); have X75 := Lib.hid (X65.out.below hb7); have T75 := Lib.hid (T65.out.below hb7); have N7 := Lib.hid (boxed_below N6.out hb7)
  clear hv7 ht7 hb7 hs7 hlt7 hseq B6 R6 X63 T63 X64 T64 X65 T65 N6 p0 p1 p2 p3 p4 p5
  have hfe := func_eq
  go_wp2_with fail
  clear hfe
  refine (wpIn_wide (n := 3)).1 ?_
  refine wpIn_iterate rfl (fun h => by cases h) (gf := 35) rfl trivial (Hand := HandS) (enters_of Try.func35 (by kernel_rfl) rfl) (fun W x vs h => by obtain ⟨v, rfl, _⟩ := h; rfl) HSEQ.out (Below.refl _ _) (fun q e => e.2)
    (AI V7 V5.heap.size) (fun _ _ _ _ => False) (ai_bides (by have := HLT.out; have := S6.out; omega)) (fun _ _ _ _ _ _ h _ _ => h) ⟨N7.out, fun _ _ _ => rfl, rfl, rfl, rfl, Nat.le_refl _⟩ ?round ?done ?stop
  case round =>
    rintro l2 Ri p x vs C hl1 hl2 hlo hRi hai hpx ⟨vx, rfl, hTx⟩
    have hfv := pre_last hpx
    rw [steps_tT] at hfv
    replace hfv := five hfv
    have HL := Lib.hid (show V7.heap.size ≤ l2 ∧ l2 < C.heap.size from ⟨hl1, hl2⟩); have HLO := Lib.hid hlo; have HRI := Lib.hid hRi; have HAI := Lib.hid hai
    clear hpx hl1 hl2 hlo hRi hai HSEQ B7 R7 X73 T73 X74 T74 X75 T75 N7
    obtain ⟨hj, rfl⟩ | ⟨hj, rfl⟩ | ⟨hj, rfl⟩ | ⟨hj, rfl⟩ | ⟨hj, rfl⟩ := hfv
    all_goals
      obtain ⟨Ab, nb, cb, Bb, mb, db, rfl, -⟩ := rdT_node.1 (show RdT C (.node _ _ _ _ _ _) _ from hTx)
      have HJ := Lib.hid hj
      clear hTx hj
      gi_wp2_with fail
      refine ⟨Spares.of_below ((Below.refl _ _).alloc (Nat.le_refl _) _) (fun q e => by have := HL.out; omega) (fun q e => (HRI.out q e).2), fun X hX => ?_⟩
      have hlt := HL.out; have hs6 := S6.out; have hs7 := HLT.out
      have hA := ai_bides (bn := V5.heap.size) (by omega) Ri Ri _ _ _ HAI.out (turn_round (R := Ri) (by exact (Below.refl _ _).alloc (Nat.le_refl _) _) hX HLO.out hlt.1) (Grow.refl _ _ _)
      have hk0 := cell_out hX (cell_new C _ _ 0 rfl) (by show C.heap.size ≠ l2; omega)
      have hk1 := cell_out hX (cell_new C _ _ 1 rfl) (by show C.heap.size ≠ l2; omega)
      have hk3 := cell_out hX (cell_new C _ _ 3 rfl) (by show C.heap.size ≠ l2; omega)
      have h1 := hA.1
      rw [HJ.out] at h1
      have n0 := h1.cell; have f0 := h1.frozen
      have hne : C.heap.size ≠ V5.heap.size := by omega
      have HF := Lib.hid (fun (m : Int) (hm : m = _ + 1) x => ai_step (x := x) (Ri' := Ri) (K := fun q => V6.heap.size < q ∧ q < V7.heap.size) (R := Ri) hA HJ.out (by omega) (by omega) (fun e => by have := HRI.out _ e; omega) m hm)
      clear hlt hs6 hs7 hA h1 hX
      gi_wp2_with fail
      exact HF.out _ (by omega) _
  case done =>
    rintro D Ri X hD ⟨h1, h2, h3, h4, h5, h6⟩ hK
    rw [steps_tT] at h1
    replace h1 : Boxed X V5.heap.size 3 (.int .i64 5) := h1
    have hs3 := S3.out; have hs4 := S4.out; have hs5 := S5.out; have hs6 := S6.out; have hs7 := HLT.out
    have hbX : Below w.heap.size w X := ⟨h3.trans B7.out.os, h4.trans B7.out.tape, h5.trans B7.out.output, Nat.le_trans B7.out.size h6, fun q hq => (h2 q (by have := B7.out.size; omega) (by omega)).trans (B7.out.block q hq)⟩
    have RX := Lib.hid (boxed_as R7.out (h2 _ (by omega) (by omega)))
    have XC := Lib.hid (X73.out.as (h2 _ (by omega) (by omega))); have XT := Lib.hid (X74.out.as (h2 _ (by omega) (by omega))); have XB := Lib.hid (X75.out.as (h2 _ (by omega) (by omega)))
    have TCX := Lib.hid (T73.out.carry h6 (fun q e => h2 q (by omega) (by omega))).rd; have TTX := Lib.hid (T74.out.carry h6 (fun q e => h2 q (by omega) (by omega))).rd; have TBX := Lib.hid (T75.out.carry h6 (fun q e => h2 q (by omega) (by omega))).rd
    have NX := Lib.hid h1; have HDX := Lib.hid hK; have BX := Lib.hid hbX; have HDV := Lib.hid (show V7.heap.size ≤ D from hD)
    clear h1 h2 h3 h4 h5 h6 hs3 hs4 hs5 hs6 hs7 hbX hK hD X73 X74 X75 T73 T74 T75 N7 R7 B7 HSEQ
    obtain ⟨p0, p1, p2, p3, p4, p5⟩ := XT.out.six
    go_wp2_with fail
    refine (names_any tT _ X TTX.out (by rw [deep_tT]; omega) (by rw [size_tT]; omega)).mono ?_
    rintro e Y ⟨vn, rfl, hon, hbY⟩
    rw [names_tT] at hon
    obtain ⟨PN, CN, rfl, -⟩ := hon.form
    obtain ⟨g, rfl, hcg, hlg⟩ := hon.at_ (k := 0) rfl
    have TC := Lib.hid (TCX.out.below hbY); have TT := Lib.hid (TTX.out.below hbY); have TB := Lib.hid (TBX.out.below hbY)
    have RY := Lib.hid (boxed_below RX.out hbY); have BY := Lib.hid (later BX.out hbY)
    have HDY := Lib.hid ((hbY.block D (Array.getElem?_eq_some_iff.1 HDX.out).1).trans HDX.out)
    have HKC : Hid (∀ w', Below Y.heap.size Y w' → w'.cell? ⟨V5.heap.size, 0, none⟩ = some (.int .i64 5) ∧ (w'.cell? ⟨V3.heap.size + 1, 0, none⟩ = some (.int .i64 4) ∧ w'.cell? ⟨V3.heap.size + 1, 1, none⟩ = some (.int .i64 1) ∧ w'.cell? ⟨V3.heap.size + 1, 2, none⟩ = some (.int .i64 (-1)) ∧ w'.cell? ⟨V3.heap.size + 1, 3, none⟩ = some (.string ⟨#[]⟩) ∧ w'.cell? ⟨V3.heap.size + 1, 4, none⟩ = some (.slice none 0 0) ∧ w'.cell? ⟨V3.heap.size + 1, 5, none⟩ = some (.slice (some ⟨V3.heap.size, 0, none⟩) 2 2)) ∧ (w'.cell? ⟨V4.heap.size + 1, 0, none⟩ = some (.int .i64 4) ∧ w'.cell? ⟨V4.heap.size + 1, 1, none⟩ = some (.int .i64 1) ∧ w'.cell? ⟨V4.heap.size + 1, 2, none⟩ = some (.int .i64 (-1)) ∧ w'.cell? ⟨V4.heap.size + 1, 3, none⟩ = some (.string ⟨#[]⟩) ∧ w'.cell? ⟨V4.heap.size + 1, 4, none⟩ = some (.slice none 0 0) ∧ w'.cell? ⟨V4.heap.size + 1, 5, none⟩ = some (.slice (some ⟨V4.heap.size, 0, none⟩) 2 2)) ∧ (w'.cell? ⟨V2.heap.size + 1, 0, none⟩ = some (.int .i64 4) ∧ w'.cell? ⟨V2.heap.size + 1, 1, none⟩ = some (.int .i64 6) ∧ w'.cell? ⟨V2.heap.size + 1, 2, none⟩ = some (.int .i64 (-1)) ∧ w'.cell? ⟨V2.heap.size + 1, 3, none⟩ = some (.string ⟨#[]⟩) ∧ w'.cell? ⟨V2.heap.size + 1, 4, none⟩ = some (.slice none 0 0) ∧ w'.cell? ⟨V2.heap.size + 1, 5, none⟩ = some (.slice (some ⟨V2.heap.size, 0, none⟩) 2 2)) ∧ w'.cell? ⟨g, 0, none⟩ = some (.string ⟨#[121]⟩)) := Lib.hid (fun w' h =>
      ⟨(boxed_below (boxed_below NX.out hbY) h).cell, ((XT.out.below hbY).below h).six, ((XB.out.below hbY).below h).six, ((XC.out.below hbY).below h).six, (h.cell (p := ⟨g, 0, none⟩) hlg).trans hcg⟩)
    have hsb : ∀ (q : Nat) (w' : World), q ≠ w.heap.size → (w'.setCell ⟨w.heap.size, 0, none⟩ (.bool true)).heap[q]? = w'.heap[q]? := fun q w' hq => Below.heap_setCell _ _ _ _ hq
    have hgw : w.heap.size + 3 ≤ V2.heap.size ∧ V2.heap.size < V5.heap.size ∧ V2.heap.size < V4.heap.size ∧ V2.heap.size < V3.heap.size ∧ w.heap.size < g := by
      have := S3.out; have := S4.out; have := S5.out; have := S6.out; have := HLT.out
      have h1 : X.heap.size ≤ g := (World.ownsRow.lt hon g rfl).1
      have := XT.out.lt
      omega
    have HKS : Hid (∀ w', Below Y.heap.size Y w' → (w'.setCell ⟨w.heap.size, 0, none⟩ (.bool true)).cell? ⟨V5.heap.size, 0, none⟩ = some (.int .i64 5) ∧ ((w'.setCell ⟨w.heap.size, 0, none⟩ (.bool true)).cell? ⟨V3.heap.size + 1, 0, none⟩ = some (.int .i64 4) ∧ (w'.setCell ⟨w.heap.size, 0, none⟩ (.bool true)).cell? ⟨V3.heap.size + 1, 1, none⟩ = some (.int .i64 1) ∧ (w'.setCell ⟨w.heap.size, 0, none⟩ (.bool true)).cell? ⟨V3.heap.size + 1, 2, none⟩ = some (.int .i64 (-1)) ∧ (w'.setCell ⟨w.heap.size, 0, none⟩ (.bool true)).cell? ⟨V3.heap.size + 1, 3, none⟩ = some (.string ⟨#[]⟩) ∧ (w'.setCell ⟨w.heap.size, 0, none⟩ (.bool true)).cell? ⟨V3.heap.size + 1, 4, none⟩ = some (.slice none 0 0) ∧ (w'.setCell ⟨w.heap.size, 0, none⟩ (.bool true)).cell? ⟨V3.heap.size + 1, 5, none⟩ = some (.slice (some ⟨V3.heap.size, 0, none⟩) 2 2)) ∧ ((w'.setCell ⟨w.heap.size, 0, none⟩ (.bool true)).cell? ⟨V4.heap.size + 1, 0, none⟩ = some (.int .i64 4) ∧ (w'.setCell ⟨w.heap.size, 0, none⟩ (.bool true)).cell? ⟨V4.heap.size + 1, 1, none⟩ = some (.int .i64 1) ∧ (w'.setCell ⟨w.heap.size, 0, none⟩ (.bool true)).cell? ⟨V4.heap.size + 1, 2, none⟩ = some (.int .i64 (-1)) ∧ (w'.setCell ⟨w.heap.size, 0, none⟩ (.bool true)).cell? ⟨V4.heap.size + 1, 3, none⟩ = some (.string ⟨#[]⟩) ∧ (w'.setCell ⟨w.heap.size, 0, none⟩ (.bool true)).cell? ⟨V4.heap.size + 1, 4, none⟩ = some (.slice none 0 0) ∧ (w'.setCell ⟨w.heap.size, 0, none⟩ (.bool true)).cell? ⟨V4.heap.size + 1, 5, none⟩ = some (.slice (some ⟨V4.heap.size, 0, none⟩) 2 2)) ∧ ((w'.setCell ⟨w.heap.size, 0, none⟩ (.bool true)).cell? ⟨V2.heap.size + 1, 0, none⟩ = some (.int .i64 4) ∧ (w'.setCell ⟨w.heap.size, 0, none⟩ (.bool true)).cell? ⟨V2.heap.size + 1, 1, none⟩ = some (.int .i64 6) ∧ (w'.setCell ⟨w.heap.size, 0, none⟩ (.bool true)).cell? ⟨V2.heap.size + 1, 2, none⟩ = some (.int .i64 (-1)) ∧ (w'.setCell ⟨w.heap.size, 0, none⟩ (.bool true)).cell? ⟨V2.heap.size + 1, 3, none⟩ = some (.string ⟨#[]⟩) ∧ (w'.setCell ⟨w.heap.size, 0, none⟩ (.bool true)).cell? ⟨V2.heap.size + 1, 4, none⟩ = some (.slice none 0 0) ∧ (w'.setCell ⟨w.heap.size, 0, none⟩ (.bool true)).cell? ⟨V2.heap.size + 1, 5, none⟩ = some (.slice (some ⟨V2.heap.size, 0, none⟩) 2 2)) ∧ (w'.setCell ⟨w.heap.size, 0, none⟩ (.bool true)).cell? ⟨g, 0, none⟩ = some (.string ⟨#[121]⟩)) := Lib.hid (fun w' h =>
      ⟨(boxed_as (boxed_below (boxed_below NX.out hbY) h) (hsb _ _ (by omega))).cell, (((XT.out.below hbY).below h).as (hsb _ _ (by omega))).six, (((XB.out.below hbY).below h).as (hsb _ _ (by omega))).six, (((XC.out.below hbY).below h).as (hsb _ _ (by omega))).six, cell_as ((h.cell (p := ⟨g, 0, none⟩) hlg).trans hcg) (hsb _ _ (by show g ≠ _; omega))⟩)
    clear hsb hgw
    have HD := Lib.hid (Below.refl Y.heap.size Y)
    have HFR := Lib.hid (fun w' (h : Below Y.heap.size Y w') => And.intro (boxed_below RY.out h).cell (boxed_below RY.out h).frozen)
    clear hon hbY hcg p0 p1 p2 p3 p4 p5 XC XT XB TCX TTX TBX NX RX BX HDX
    simp only [List.length_cons, List.length_nil, Nat.reduceAdd]
    obtain ⟨c0a, ⟨c0b0, c0b1, c0b2, c0b3, c0b4, c0b5⟩, ⟨c0c0, c0c1, c0c2, c0c3, c0c4, c0c5⟩, ⟨c0d0, c0d1, c0d2, c0d3, c0d4, c0d5⟩, c0e⟩ := HKC.out _ HD.out
    go_wp2_with fail
    go_region_held3 (fun w' => w'.cell? ⟨V5.heap.size, 0, none⟩ = some (.int .i64 5) ∧ (w'.cell? ⟨V3.heap.size + 1, 0, none⟩ = some (.int .i64 4) ∧ w'.cell? ⟨V3.heap.size + 1, 1, none⟩ = some (.int .i64 1) ∧ w'.cell? ⟨V3.heap.size + 1, 2, none⟩ = some (.int .i64 (-1)) ∧ w'.cell? ⟨V3.heap.size + 1, 3, none⟩ = some (.string ⟨#[]⟩) ∧ w'.cell? ⟨V3.heap.size + 1, 4, none⟩ = some (.slice none 0 0) ∧ w'.cell? ⟨V3.heap.size + 1, 5, none⟩ = some (.slice (some ⟨V3.heap.size, 0, none⟩) 2 2)) ∧ (w'.cell? ⟨V4.heap.size + 1, 0, none⟩ = some (.int .i64 4) ∧ w'.cell? ⟨V4.heap.size + 1, 1, none⟩ = some (.int .i64 1) ∧ w'.cell? ⟨V4.heap.size + 1, 2, none⟩ = some (.int .i64 (-1)) ∧ w'.cell? ⟨V4.heap.size + 1, 3, none⟩ = some (.string ⟨#[]⟩) ∧ w'.cell? ⟨V4.heap.size + 1, 4, none⟩ = some (.slice none 0 0) ∧ w'.cell? ⟨V4.heap.size + 1, 5, none⟩ = some (.slice (some ⟨V4.heap.size, 0, none⟩) 2 2)) ∧ (w'.cell? ⟨V2.heap.size + 1, 0, none⟩ = some (.int .i64 4) ∧ w'.cell? ⟨V2.heap.size + 1, 1, none⟩ = some (.int .i64 6) ∧ w'.cell? ⟨V2.heap.size + 1, 2, none⟩ = some (.int .i64 (-1)) ∧ w'.cell? ⟨V2.heap.size + 1, 3, none⟩ = some (.string ⟨#[]⟩) ∧ w'.cell? ⟨V2.heap.size + 1, 4, none⟩ = some (.slice none 0 0) ∧ w'.cell? ⟨V2.heap.size + 1, 5, none⟩ = some (.slice (some ⟨V2.heap.size, 0, none⟩) 2 2)) ∧ w'.cell? ⟨g, 0, none⟩ = some (.string ⟨#[121]⟩)) (first | go_keep | exact HKS.out _ HK9.out)
      (first
      | (go_at_call 10; with_reducible refine (right_at (T := tT) true right_tT (TT.out.below (by repeat (first | exact HD.out | exact HK9.out | exact HK8.out | exact HK7.out | exact HK6.out | exact HK5.out | exact HK4.out | exact HK3.out | exact HK2.out | exact HK1.out | refine Below.drew ?_))) (by decide) (by decide)).mono ?_
         rintro e v1 ⟨rfl, h3⟩
         have HK1 := Lib.hid (later (w := Y) (by repeat (first | exact HD.out | exact HK9.out | exact HK8.out | exact HK7.out | exact HK6.out | exact HK5.out | exact HK4.out | exact HK3.out | exact HK2.out | exact HK1.out | refine Below.drew ?_)) h3)
         obtain ⟨c1a, ⟨c1b0, c1b1, c1b2, c1b3, c1b4, c1b5⟩, ⟨c1c0, c1c1, c1c2, c1c3, c1c4, c1c5⟩, ⟨c1d0, c1d1, c1d2, c1d3, c1d4, c1d5⟩, c1e⟩ := HKC.out _ HK1.out
         clear h3)
      | (go_at_call 10; with_reducible refine (right_at (T := badT) false right_badT (TB.out.below (by repeat (first | exact HD.out | exact HK9.out | exact HK8.out | exact HK7.out | exact HK6.out | exact HK5.out | exact HK4.out | exact HK3.out | exact HK2.out | exact HK1.out | refine Below.drew ?_))) (by decide) (by decide)).mono ?_
         rintro e v2 ⟨rfl, h3⟩
         have HK2 := Lib.hid (later (w := Y) (by repeat (first | exact HD.out | exact HK9.out | exact HK8.out | exact HK7.out | exact HK6.out | exact HK5.out | exact HK4.out | exact HK3.out | exact HK2.out | exact HK1.out | refine Below.drew ?_)) h3)
         obtain ⟨c2a, ⟨c2b0, c2b1, c2b2, c2b3, c2b4, c2b5⟩, ⟨c2c0, c2c1, c2c2, c2c3, c2c4, c2c5⟩, ⟨c2d0, c2d1, c2d2, c2d3, c2d4, c2d5⟩, c2e⟩ := HKC.out _ HK2.out
         clear h3)
      | (go_at_call 10; with_reducible refine (right_at (T := noT) false right_noT (noT_at _) (by decide) (by decide)).mono ?_
         rintro e v3 ⟨rfl, h3⟩
         have HK3 := Lib.hid (later (w := Y) (by repeat (first | exact HD.out | exact HK9.out | exact HK8.out | exact HK7.out | exact HK6.out | exact HK5.out | exact HK4.out | exact HK3.out | exact HK2.out | exact HK1.out | refine Below.drew ?_)) h3)
         obtain ⟨c3a, ⟨c3b0, c3b1, c3b2, c3b3, c3b4, c3b5⟩, ⟨c3c0, c3c1, c3c2, c3c3, c3c4, c3c5⟩, ⟨c3d0, c3d1, c3d2, c3d3, c3d4, c3d5⟩, c3e⟩ := HKC.out _ HK3.out
         clear h3)
      | (go_at_call 12; with_reducible refine (size_at (T := tT) 5 size_tT_ (TT.out.below (by repeat (first | exact HD.out | exact HK9.out | exact HK8.out | exact HK7.out | exact HK6.out | exact HK5.out | exact HK4.out | exact HK3.out | exact HK2.out | exact HK1.out | refine Below.drew ?_))) (by decide) (by decide)).mono ?_
         rintro e v4 ⟨rfl, h3⟩
         have HK4 := Lib.hid (later (w := Y) (by repeat (first | exact HD.out | exact HK9.out | exact HK8.out | exact HK7.out | exact HK6.out | exact HK5.out | exact HK4.out | exact HK3.out | exact HK2.out | exact HK1.out | refine Below.drew ?_)) h3)
         obtain ⟨c4a, ⟨c4b0, c4b1, c4b2, c4b3, c4b4, c4b5⟩, ⟨c4c0, c4c1, c4c2, c4c3, c4c4, c4c5⟩, ⟨c4d0, c4d1, c4d2, c4d3, c4d4, c4d5⟩, c4e⟩ := HKC.out _ HK4.out
         clear h3)
      | (go_at_call 14; with_reducible refine (depth_at (T := tT) 3 deep_tT_ (TT.out.below (by repeat (first | exact HD.out | exact HK9.out | exact HK8.out | exact HK7.out | exact HK6.out | exact HK5.out | exact HK4.out | exact HK3.out | exact HK2.out | exact HK1.out | refine Below.drew ?_))) (by decide) (by decide)).mono ?_
         rintro e v5 ⟨rfl, h3⟩
         have HK5 := Lib.hid (later (w := Y) (by repeat (first | exact HD.out | exact HK9.out | exact HK8.out | exact HK7.out | exact HK6.out | exact HK5.out | exact HK4.out | exact HK3.out | exact HK2.out | exact HK1.out | refine Below.drew ?_)) h3)
         obtain ⟨c5a, ⟨c5b0, c5b1, c5b2, c5b3, c5b4, c5b5⟩, ⟨c5c0, c5c1, c5c2, c5c3, c5c4, c5c5⟩, ⟨c5d0, c5d1, c5d2, c5d3, c5d4, c5d5⟩, c5e⟩ := HKC.out _ HK5.out
         clear h3)
      | (go_at_call 16; with_reducible refine (same_at (T := tT) (U := tT) true (same_self _) (TT.out.below (by repeat (first | exact HD.out | exact HK9.out | exact HK8.out | exact HK7.out | exact HK6.out | exact HK5.out | exact HK4.out | exact HK3.out | exact HK2.out | exact HK1.out | refine Below.drew ?_))) (TT.out.below (by repeat (first | exact HD.out | exact HK9.out | exact HK8.out | exact HK7.out | exact HK6.out | exact HK5.out | exact HK4.out | exact HK3.out | exact HK2.out | exact HK1.out | refine Below.drew ?_))) (by decide) (by decide)).mono ?_
         rintro e v6 ⟨rfl, h3⟩
         have HK6 := Lib.hid (later (w := Y) (by repeat (first | exact HD.out | exact HK9.out | exact HK8.out | exact HK7.out | exact HK6.out | exact HK5.out | exact HK4.out | exact HK3.out | exact HK2.out | exact HK1.out | refine Below.drew ?_)) h3)
         obtain ⟨c6a, ⟨c6b0, c6b1, c6b2, c6b3, c6b4, c6b5⟩, ⟨c6c0, c6c1, c6c2, c6c3, c6c4, c6c5⟩, ⟨c6d0, c6d1, c6d2, c6d3, c6d4, c6d5⟩, c6e⟩ := HKC.out _ HK6.out
         clear h3)
      | (go_at_call 16; with_reducible refine (same_at (T := tT) (U := catT) false same_tT_catT (TT.out.below (by repeat (first | exact HD.out | exact HK9.out | exact HK8.out | exact HK7.out | exact HK6.out | exact HK5.out | exact HK4.out | exact HK3.out | exact HK2.out | exact HK1.out | refine Below.drew ?_))) (TC.out.below (by repeat (first | exact HD.out | exact HK9.out | exact HK8.out | exact HK7.out | exact HK6.out | exact HK5.out | exact HK4.out | exact HK3.out | exact HK2.out | exact HK1.out | refine Below.drew ?_))) (by decide) (by decide)).mono ?_
         rintro e v7 ⟨rfl, h3⟩
         have HK7 := Lib.hid (later (w := Y) (by repeat (first | exact HD.out | exact HK9.out | exact HK8.out | exact HK7.out | exact HK6.out | exact HK5.out | exact HK4.out | exact HK3.out | exact HK2.out | exact HK1.out | refine Below.drew ?_)) h3)
         obtain ⟨c7a, ⟨c7b0, c7b1, c7b2, c7b3, c7b4, c7b5⟩, ⟨c7c0, c7c1, c7c2, c7c3, c7c4, c7c5⟩, ⟨c7d0, c7d1, c7d2, c7d3, c7d4, c7d5⟩, c7e⟩ := HKC.out _ HK7.out
         clear h3)
      | (go_at_call 24; with_reducible refine (copy_any tT _ _ (TT.out.below (by repeat (first | exact HD.out | exact HK9.out | exact HK8.out | exact HK7.out | exact HK6.out | exact HK5.out | exact HK4.out | exact HK3.out | exact HK2.out | exact HK1.out | refine Below.drew ?_))) (by decide) (by decide)).mono ?_
         rintro e v8 ⟨u8, rfl, h2, h3⟩
         have HK8 := Lib.hid (later (w := Y) (by repeat (first | exact HD.out | exact HK9.out | exact HK8.out | exact HK7.out | exact HK6.out | exact HK5.out | exact HK4.out | exact HK3.out | exact HK2.out | exact HK1.out | refine Below.drew ?_)) h3); have HU8 := Lib.hid h2.rd
         obtain ⟨c8a, ⟨c8b0, c8b1, c8b2, c8b3, c8b4, c8b5⟩, ⟨c8c0, c8c1, c8c2, c8c3, c8c4, c8c5⟩, ⟨c8d0, c8d1, c8d2, c8d3, c8d4, c8d5⟩, c8e⟩ := HKC.out _ HK8.out
         clear h2 h3)
      | (go_at_call 17; with_reducible refine (refSame_at (T := tT) (U := tT) true (same_self _) (by first | exact HU8.out | exact HU8.out.below (Below.drew (Below.refl _ _))) (TT.out.below (by repeat (first | exact HD.out | exact HK9.out | exact HK8.out | exact HK7.out | exact HK6.out | exact HK5.out | exact HK4.out | exact HK3.out | exact HK2.out | exact HK1.out | refine Below.drew ?_)))).mono ?_
         rintro e v9 ⟨rfl, h3⟩
         have HK9 := Lib.hid (later (w := Y) (by repeat (first | exact HD.out | exact HK9.out | exact HK8.out | exact HK7.out | exact HK6.out | exact HK5.out | exact HK4.out | exact HK3.out | exact HK2.out | exact HK1.out | refine Below.drew ?_)) h3)
         obtain ⟨c9a, ⟨c9b0, c9b1, c9b2, c9b3, c9b4, c9b5⟩, ⟨c9c0, c9c1, c9c2, c9c3, c9c4, c9c5⟩, ⟨c9d0, c9d1, c9d2, c9d3, c9d4, c9d5⟩, c9e⟩ := HKC.out _ HK9.out
         obtain ⟨ret9, frz9⟩ := HFR.out _ HK9.out
         clear h3))
    have hdw : D ≠ w.heap.size := by have := HDV.out; have := HLT.out; have := S6.out; have := S5.out; have := S4.out; have := S3.out; omega
    have hd9 : (v9.setCell ⟨w.heap.size, 0, none⟩ (.bool true)).heap[D]? = some (.deferred (some [])) := (Below.heap_setCell _ _ _ _ hdw).trans ((HK9.out.block D (Array.getElem?_eq_some_iff.1 HDY.out).1).trans HDY.out)
    have hr9 : ((v9.setCell ⟨w.heap.size, 0, none⟩ (.bool true)).putObj D (.deferred none)).cell? ⟨w.heap.size, 0, none⟩ = some (.bool true) :=
      cell_put ((boxed_below RY.out HK9.out).set (.bool true)).cell hd9 rfl
    have hb9 : Below w.heap.size w ((v9.setCell ⟨w.heap.size, 0, none⟩ (.bool true)).putObj D (.deferred none)) := by
      have h1 := (later BY.out HK9.out).setCell (p := ⟨w.heap.size, 0, none⟩) (Nat.le_refl _) (.bool true)
      exact h1.grown (grownBy_putObj' _ D (.deferred none)) h1.size (fun q e => by cases e; have := HDV.out; have := HLT.out; have := S6.out; have := S5.out; have := S4.out; have := S3.out; omega)
    have HD9 := Lib.hid hd9; have HR9 := Lib.hid hr9; have HB9 := Lib.hid hb9
    clear hd9 hr9 hb9 hdw
    go_wp2_with fail
    have hr := HR9.out
    refine ⟨by simp, .inl ⟨_, _, rfl, run_takeDeferred HD9.out, ?_⟩⟩
    refine ⟨.bool true, by simp [results, Try.results8, go_sem, hr], rfl, HB9.out⟩
  case stop =>
    rintro D c Ri p X hD _ h _
    exact h.elim
end Go.Proofs.Ytbcnilkenkmabaa.tr
