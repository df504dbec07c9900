/- TreeMeasures: Size, Depth, Same against the reference. -/
import Derived.Test.YtbcnilkenkmabaaLawRight8
namespace Go.Proofs.Ytbcnilkenkmabaa.tr
open Go.ChangeShapes Go.WideShapes Go.ChangeAt Go.RowKit Go.Proofs.Ytbcnilkenkmabaa.mem Go.Proofs.Ytbcnilkenkmabaa.sq
set_option linter.unusedVariables false

theorem refSize_at {T : Tr} {v : Value} {w : World} (r : Int) (h : ((sizeT T : Nat) : Int) = r) (hT : RdT w T v) (hz : sizeT T < 1099511627776) : Calls Try.prog 13 #[v] w (Num w r) := by subst h; exact refSize_any T v w hT hz
theorem refDepth_at {T : Tr} {v : Value} {w : World} (r : Int) (h : ((deepT T : Nat) : Int) = r) (hT : RdT w T v) (hz : sizeT T < 1099511627776) : Calls Try.prog 15 #[v] w (Num w r) := by subst h; exact refDepth_any T v w hT hz
set_option maxHeartbeats 8000000 in
set_option maxRecDepth 100000 in
theorem walk_TreeMeasures (T U : Tr) (v u : Value) (w : World) (hT : RdT w T v) (hU : RdT w U u) : Calls Try.prog 4 #[v, u] w fun e w' => e = .returned (.bool true) ∧ Below w.heap.size w w' := by
  obtain ⟨k, f, a, s, ns, ks⟩ := T
  obtain ⟨k', f', a', s', ns', ks'⟩ := U
  obtain ⟨Aa, na, ca, B, mm, d, rfl, -⟩ := rdT_node.1 hT
  obtain ⟨Aa', na', ca', B', mm', d', rfl, -⟩ := rdT_node.1 hU
  obtain ⟨W, hW⟩ : ∃ W, W = (w.alloc (.cells #[.int .i64 k, .int .i64 f, .int .i64 a, .string s, .slice Aa na ca, .slice B mm d] 25)).alloc (.cells #[.int .i64 k', .int .i64 f', .int .i64 a', .string s', .slice Aa' na' ca', .slice B' mm' d'] 25) := ⟨_, rfl⟩
  obtain ⟨hb, hs, KC⟩ := two_boxes6 hW
  have HT := Lib.hid (hT.below hb); have HU := Lib.hid (hU.below hb); have HB := Lib.hid hb; have HKC := Lib.hid KC; have HW := Lib.hid hW
  clear hT hU hb KC hW hs
  obtain ⟨Tn, hTn⟩ : ∃ Tn, Tn = Tr.node k f a s ns ks := ⟨_, rfl⟩
  obtain ⟨Un, hUn⟩ : ∃ Un, Un = Tr.node k' f' a' s' ns' ks' := ⟨_, rfl⟩
  rw [← hTn] at HT
  rw [← hUn] at HU
  clear hTn hUn
  rcases hf : fewT Tn 1000 with _ | _
  · have HF := Lib.hid hf
    clear hf
    go_enter Try.func4, Try.ntmps4
    go_upto_region 1 with fail
    rw [← HW.out]
    clear HW
    go_wp2_with fail
    refine (awake_true _).mono ?_
    rintro e w1 ⟨rfl, h1⟩
    obtain ⟨⟨px0, px1, px2, px3, px4, px5⟩, py0, py1, py2, py3, py4, py5⟩ := HKC.out w1 h1
    have A1 := Lib.hid (later HB.out h1)
    have P := Lib.hid (refFew_any Tn _ w1 1000 (HT.out.below h1) (by omega) (by omega))
    rw [HF.out] at P
    have HT1 := Lib.hid (HT.out.below h1); have HU1 := Lib.hid (HU.out.below h1); have HK1 := Lib.hid (fun V (h : Below w1.heap.size w1 V) => HKC.out V (later h1 h))
    clear h1 HT HU HKC HB
    go_wp2_with fail
    refine P.out.mono ?_
    rintro e w2 ⟨rfl, h2⟩
    have A2 := Lib.hid (later A1.out h2)
    clear h2
    go_wp2_with fail
    refine (awake_true _).mono ?_
    rintro e w9 ⟨rfl, h9⟩
    have A9 := Lib.hid (later A2.out h9)
    clear h9
    go_wp2_with fail
    go_ret
    exact ⟨rfl, A9.out⟩

  rcases hg : fewT Un 1000 with _ | _
  · have HF := Lib.hid hf; have HG := Lib.hid hg
    clear hf hg
    go_enter Try.func4, Try.ntmps4
    go_upto_region 1 with fail
    rw [← HW.out]
    clear HW
    go_wp2_with fail
    refine (awake_true _).mono ?_
    rintro e w1 ⟨rfl, h1⟩
    obtain ⟨⟨px0, px1, px2, px3, px4, px5⟩, py0, py1, py2, py3, py4, py5⟩ := HKC.out w1 h1
    have A1 := Lib.hid (later HB.out h1)
    have P := Lib.hid (refFew_any Tn _ w1 1000 (HT.out.below h1) (by omega) (by omega))
    rw [HF.out] at P
    have HT1 := Lib.hid (HT.out.below h1); have HU1 := Lib.hid (HU.out.below h1); have HK1 := Lib.hid (fun V (h : Below w1.heap.size w1 V) => HKC.out V (later h1 h))
    clear h1 HT HU HKC HB
    go_wp2_with fail
    refine P.out.mono ?_
    rintro e w2 ⟨rfl, h2⟩
    have A2 := Lib.hid (later A1.out h2)
    have HT2 := Lib.hid (HT1.out.below h2); have HU2 := Lib.hid (HU1.out.below h2); have HK2 := Lib.hid (fun V (h : Below w2.heap.size w2 V) => HK1.out V (later h2 h))
    have PU := Lib.hid (refFew_any Un _ w2 1000 HU2.out (by omega) (by omega))
    rw [HG.out] at PU
    obtain ⟨⟨qx0, qx1, qx2, qx3, qx4, qx5⟩, qy0, qy1, qy2, qy3, qy4, qy5⟩ := HK2.out w2 (Below.refl _ _)
    clear h2 P HT1 HU1 HK1 A1 px0 px1 px2 px3 px4 px5 py0 py1 py2 py3 py4 py5
    go_wp2_with fail
    refine PU.out.mono ?_
    rintro e w3 ⟨rfl, h3⟩
    have A3 := Lib.hid (later A2.out h3)
    clear h3
    go_wp2_with fail
    refine (awake_true _).mono ?_
    rintro e w9 ⟨rfl, h9⟩
    have A9 := Lib.hid (later A3.out h9)
    clear h9
    go_wp2_with fail
    go_ret
    exact ⟨rfl, A9.out⟩

  · obtain ⟨hd, hz, -⟩ := few_out hf (by omega)
    have HF := Lib.hid hf; have HG := Lib.hid hg; have HD := Lib.hid (show deepT Tn ≤ 999 by omega); have HZ := Lib.hid (show sizeT Tn ≤ 1000000 by omega); have HZ' := Lib.hid (show sizeT Tn < 1099511627776 by omega)
    clear hf hg hd hz
    go_enter Try.func4, Try.ntmps4
    go_upto_region 1 with fail
    rw [← HW.out]
    clear HW
    go_wp2_with fail
    refine (awake_true _).mono ?_
    rintro e w1 ⟨rfl, h1⟩
    obtain ⟨⟨px0, px1, px2, px3, px4, px5⟩, py0, py1, py2, py3, py4, py5⟩ := HKC.out w1 h1
    have A1 := Lib.hid (later HB.out h1)
    have P := Lib.hid (refFew_any Tn _ w1 1000 (HT.out.below h1) (by omega) (by omega))
    rw [HF.out] at P
    have HT1 := Lib.hid (HT.out.below h1); have HU1 := Lib.hid (HU.out.below h1); have HK1 := Lib.hid (fun V (h : Below w1.heap.size w1 V) => HKC.out V (later h1 h))
    clear h1 HT HU HKC HB
    go_wp2_with fail
    refine P.out.mono ?_
    rintro e w2 ⟨rfl, h2⟩
    have A2 := Lib.hid (later A1.out h2)
    have HT2 := Lib.hid (HT1.out.below h2); have HU2 := Lib.hid (HU1.out.below h2); have HK2 := Lib.hid (fun V (h : Below w2.heap.size w2 V) => HK1.out V (later h2 h))
    have PU := Lib.hid (refFew_any Un _ w2 1000 HU2.out (by omega) (by omega))
    rw [HG.out] at PU
    obtain ⟨⟨qx0, qx1, qx2, qx3, qx4, qx5⟩, qy0, qy1, qy2, qy3, qy4, qy5⟩ := HK2.out w2 (Below.refl _ _)
    clear h2 P HT1 HU1 HK1 A1 px0 px1 px2 px3 px4 px5 py0 py1 py2 py3 py4 py5
    go_wp2_with fail
    refine PU.out.mono ?_
    rintro e w3 ⟨rfl, h3⟩
    have A3 := Lib.hid (later A2.out h3)
    have HT3 := Lib.hid (HT2.out.below h3); have HU3 := Lib.hid (HU2.out.below h3); have HK3 := Lib.hid (fun V (h : Below w3.heap.size w3 V) => HK2.out V (later h3 h))
    clear h3 HT2 HU2 HK2 A2 PU qx0 qx1 qx2 qx3 qx4 qx5 qy0 qy1 qy2 qy3 qy4 qy5
    obtain ⟨⟨qx0, qx1, qx2, qx3, qx4, qx5⟩, qy0, qy1, qy2, qy3, qy4, qy5⟩ := HK3.out w3 (Below.refl _ _)
    have HZ0 := Lib.hid (Below.refl w3.heap.size w3)
    obtain ⟨zn, hna⟩ : ∃ r : Int, ((sizeT Tn : Nat) : Int) = r := ⟨_, rfl⟩
    obtain ⟨zd, hnd⟩ : ∃ r : Int, ((deepT Tn : Nat) : Int) = r := ⟨_, rfl⟩
    obtain ⟨q, hq⟩ : ∃ q, sameT Tn Un = q := ⟨_, rfl⟩
    have HNA := Lib.hid hna; have HND := Lib.hid hnd; have HQ := Lib.hid hq
    clear hna hnd hq
    go_wp2_with fail
    go_region_held3 (fun w' => (w'.cell? ⟨w.heap.size, 0, none⟩ = some (.int .i64 k) ∧ w'.cell? ⟨w.heap.size, 1, none⟩ = some (.int .i64 f) ∧ w'.cell? ⟨w.heap.size, 2, none⟩ = some (.int .i64 a) ∧ w'.cell? ⟨w.heap.size, 3, none⟩ = some (.string s) ∧ w'.cell? ⟨w.heap.size, 4, none⟩ = some (.slice Aa na ca) ∧ w'.cell? ⟨w.heap.size, 5, none⟩ = some (.slice B mm d)) ∧ (w'.cell? ⟨w.heap.size + 1, 0, none⟩ = some (.int .i64 k') ∧ w'.cell? ⟨w.heap.size + 1, 1, none⟩ = some (.int .i64 f') ∧ w'.cell? ⟨w.heap.size + 1, 2, none⟩ = some (.int .i64 a') ∧ w'.cell? ⟨w.heap.size + 1, 3, none⟩ = some (.string s') ∧ w'.cell? ⟨w.heap.size + 1, 4, none⟩ = some (.slice Aa' na' ca') ∧ w'.cell? ⟨w.heap.size + 1, 5, none⟩ = some (.slice B' mm' d'))) (go_keep)
      (first
      | (go_at_call 12; with_reducible refine (size_at zn HNA.out (HT3.out.below (by repeat (first | exact HZ7.out | exact HZ6.out | exact HZ5.out | exact HZ4.out | exact HZ3.out | exact HZ2.out | exact HZ1.out | exact HZ0.out | refine Below.drew ?_))) HD.out HZ.out).mono ?_
         rintro e v1 ⟨rfl, h3⟩
         have HZ1 := Lib.hid (later (w := w3) (by repeat (first | exact HZ7.out | exact HZ6.out | exact HZ5.out | exact HZ4.out | exact HZ3.out | exact HZ2.out | exact HZ1.out | exact HZ0.out | refine Below.drew ?_)) h3)
         obtain ⟨⟨z1x0, z1x1, z1x2, z1x3, z1x4, z1x5⟩, z1y0, z1y1, z1y2, z1y3, z1y4, z1y5⟩ := HK3.out _ HZ1.out
         clear h3)
      | (go_at_call 13; with_reducible refine (refSize_at zn HNA.out (HT3.out.below (by repeat (first | exact HZ7.out | exact HZ6.out | exact HZ5.out | exact HZ4.out | exact HZ3.out | exact HZ2.out | exact HZ1.out | exact HZ0.out | refine Below.drew ?_))) HZ'.out).mono ?_
         rintro e v2 ⟨rfl, h3⟩
         have HZ2 := Lib.hid (later (w := w3) (by repeat (first | exact HZ7.out | exact HZ6.out | exact HZ5.out | exact HZ4.out | exact HZ3.out | exact HZ2.out | exact HZ1.out | exact HZ0.out | refine Below.drew ?_)) h3)
         obtain ⟨⟨z2x0, z2x1, z2x2, z2x3, z2x4, z2x5⟩, z2y0, z2y1, z2y2, z2y3, z2y4, z2y5⟩ := HK3.out _ HZ2.out
         clear h3)
      | (go_at_call 14; with_reducible refine (depth_at zd HND.out (HT3.out.below (by repeat (first | exact HZ7.out | exact HZ6.out | exact HZ5.out | exact HZ4.out | exact HZ3.out | exact HZ2.out | exact HZ1.out | exact HZ0.out | refine Below.drew ?_))) HD.out HZ.out).mono ?_
         rintro e v3 ⟨rfl, h3⟩
         have HZ3 := Lib.hid (later (w := w3) (by repeat (first | exact HZ7.out | exact HZ6.out | exact HZ5.out | exact HZ4.out | exact HZ3.out | exact HZ2.out | exact HZ1.out | exact HZ0.out | refine Below.drew ?_)) h3)
         obtain ⟨⟨z3x0, z3x1, z3x2, z3x3, z3x4, z3x5⟩, z3y0, z3y1, z3y2, z3y3, z3y4, z3y5⟩ := HK3.out _ HZ3.out
         clear h3)
      | (go_at_call 15; with_reducible refine (refDepth_at zd HND.out (HT3.out.below (by repeat (first | exact HZ7.out | exact HZ6.out | exact HZ5.out | exact HZ4.out | exact HZ3.out | exact HZ2.out | exact HZ1.out | exact HZ0.out | refine Below.drew ?_))) HZ'.out).mono ?_
         rintro e v4 ⟨rfl, h3⟩
         have HZ4 := Lib.hid (later (w := w3) (by repeat (first | exact HZ7.out | exact HZ6.out | exact HZ5.out | exact HZ4.out | exact HZ3.out | exact HZ2.out | exact HZ1.out | exact HZ0.out | refine Below.drew ?_)) h3)
         obtain ⟨⟨z4x0, z4x1, z4x2, z4x3, z4x4, z4x5⟩, z4y0, z4y1, z4y2, z4y3, z4y4, z4y5⟩ := HK3.out _ HZ4.out
         clear h3)
      | (go_at_call 16; with_reducible refine (same_at q HQ.out (HT3.out.below (by repeat (first | exact HZ7.out | exact HZ6.out | exact HZ5.out | exact HZ4.out | exact HZ3.out | exact HZ2.out | exact HZ1.out | exact HZ0.out | refine Below.drew ?_))) (HU3.out.below (by repeat (first | exact HZ7.out | exact HZ6.out | exact HZ5.out | exact HZ4.out | exact HZ3.out | exact HZ2.out | exact HZ1.out | exact HZ0.out | refine Below.drew ?_))) HD.out HZ.out).mono ?_
         rintro e v5 ⟨rfl, h3⟩
         have HZ5 := Lib.hid (later (w := w3) (by repeat (first | exact HZ7.out | exact HZ6.out | exact HZ5.out | exact HZ4.out | exact HZ3.out | exact HZ2.out | exact HZ1.out | exact HZ0.out | refine Below.drew ?_)) h3)
         obtain ⟨⟨z5x0, z5x1, z5x2, z5x3, z5x4, z5x5⟩, z5y0, z5y1, z5y2, z5y3, z5y4, z5y5⟩ := HK3.out _ HZ5.out
         clear h3)
      | (go_at_call 17; with_reducible refine (refSame_at q HQ.out (HT3.out.below (by repeat (first | exact HZ7.out | exact HZ6.out | exact HZ5.out | exact HZ4.out | exact HZ3.out | exact HZ2.out | exact HZ1.out | exact HZ0.out | refine Below.drew ?_))) (HU3.out.below (by repeat (first | exact HZ7.out | exact HZ6.out | exact HZ5.out | exact HZ4.out | exact HZ3.out | exact HZ2.out | exact HZ1.out | exact HZ0.out | refine Below.drew ?_)))).mono ?_
         rintro e v6 ⟨rfl, h3⟩
         have HZ6 := Lib.hid (later (w := w3) (by repeat (first | exact HZ7.out | exact HZ6.out | exact HZ5.out | exact HZ4.out | exact HZ3.out | exact HZ2.out | exact HZ1.out | exact HZ0.out | refine Below.drew ?_)) h3)
         obtain ⟨⟨z6x0, z6x1, z6x2, z6x3, z6x4, z6x5⟩, z6y0, z6y1, z6y2, z6y3, z6y4, z6y5⟩ := HK3.out _ HZ6.out
         clear h3)
      | (go_at_call 16; with_reducible refine (same_at true (same_self _) (HT3.out.below (by repeat (first | exact HZ7.out | exact HZ6.out | exact HZ5.out | exact HZ4.out | exact HZ3.out | exact HZ2.out | exact HZ1.out | exact HZ0.out | refine Below.drew ?_))) (HT3.out.below (by repeat (first | exact HZ7.out | exact HZ6.out | exact HZ5.out | exact HZ4.out | exact HZ3.out | exact HZ2.out | exact HZ1.out | exact HZ0.out | refine Below.drew ?_))) HD.out HZ.out).mono ?_
         rintro e v7 ⟨rfl, h3⟩
         have HZ7 := Lib.hid (later (w := w3) (by repeat (first | exact HZ7.out | exact HZ6.out | exact HZ5.out | exact HZ4.out | exact HZ3.out | exact HZ2.out | exact HZ1.out | exact HZ0.out | refine Below.drew ?_)) h3)
         obtain ⟨⟨z7x0, z7x1, z7x2, z7x3, z7x4, z7x5⟩, z7y0, z7y1, z7y2, z7y3, z7y4, z7y5⟩ := HK3.out _ HZ7.out
         clear h3))
    all_goals
      go_wp2_with fail
      go_ret
      exact ⟨by simp, later A3.out HZ7.out⟩
end Go.Proofs.Ytbcnilkenkmabaa.tr
