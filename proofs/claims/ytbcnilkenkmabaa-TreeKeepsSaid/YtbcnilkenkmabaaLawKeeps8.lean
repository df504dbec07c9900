/- TreeKeeps: a copy is the same, and changing it does not change the tree. -/
import Derived.Test.YtbcnilkenkmabaaSpoil8
namespace Go.Proofs.Ytbcnilkenkmabaa.tr
open Go.ChangeShapes Go.WideShapes Go.ChangeAt Go.RowKit Go.Proofs.Ytbcnilkenkmabaa.mem Go.Proofs.Ytbcnilkenkmabaa.sq
set_option linter.unusedVariables false

set_option maxHeartbeats 4000000 in
theorem walk_TreeKeeps (T : Tr) (v : Value) (w : World) (hT : RdT w T v) : Calls Try.prog 6 #[v] w fun e w' => e = .returned (.bool true) ∧ Below w.heap.size w w' := by
  have hTQ := (RdQ.old hT).le (Q' := fun q => q < w.heap.size) (fun q e => e.2)
  obtain ⟨k, f, a, s, ns, ks⟩ := T
  obtain ⟨Aa, na, ca, B, mm, d, rfl, -⟩ := rdT_node.1 hT
  obtain ⟨W, hW⟩ : ∃ W, W = w.alloc (.cells #[.int .i64 k, .int .i64 f, .int .i64 a, .string s, .slice Aa na ca, .slice B mm d] 25) := ⟨_, rfl⟩
  obtain ⟨hb, hs, KC⟩ := one_box6 hW
  have HT := Lib.hid (RdQ.below hb hTQ); have HB := Lib.hid hb; have HKC := Lib.hid KC; have HW := Lib.hid hW; have HS := Lib.hid hs
  clear hT hTQ hb KC hW hs
  obtain ⟨Tn, hTn⟩ : ∃ Tn, Tn = Tr.node k f a s ns ks := ⟨_, rfl⟩
  rw [← hTn] at HT
  have HTN := Lib.hid hTn
  clear hTn
  rcases hf : fewT Tn 500 with _ | _
  · have HF := Lib.hid hf
    clear hf
    go_enter Try.func6, Try.ntmps6
    go_upto_region 1 with fail
    rw [← HW.out]
    go_wp2_with fail
    refine (awake_true _).mono ?_
    rintro e w1 ⟨rfl, h1⟩
    obtain ⟨k0, k1, k2, k3, k4, k5⟩ := HKC.out w1 h1
    have A1 := Lib.hid (later HB.out h1)
    have P := Lib.hid (refFew_any Tn _ w1 500 (HT.out.below h1).rd (by omega) (by omega))
    rw [HF.out] at P
    clear h1
    go_wp2_with fail
    refine P.out.mono ?_
    rintro e w2 ⟨rfl, h2⟩
    have A2 := Lib.hid (later A1.out h2)
    clear h2
    go_wp2_with fail
    refine (awake_true _).mono ?_
    rintro e w3 ⟨rfl, h3⟩
    have A3 := Lib.hid (later A2.out h3)
    clear h3
    go_wp2_with fail
    go_ret
    exact ⟨rfl, A3.out⟩
  · obtain ⟨hd, hz, -⟩ := few_out hf (by omega)
    have HF := Lib.hid hf; have HD := Lib.hid (show deepT Tn ≤ 999 by omega); have HZ := Lib.hid (show sizeT Tn ≤ 1000000 by omega)
    clear hf hd hz
    go_enter Try.func6, Try.ntmps6
    go_upto_region 1 with fail
    rw [← HW.out]
    go_wp2_with fail
    refine (awake_true _).mono ?_
    rintro e w1 ⟨rfl, h1⟩
    obtain ⟨k0, k1, k2, k3, k4, k5⟩ := HKC.out w1 h1
    have A1 := Lib.hid (later HB.out h1)
    have P := Lib.hid (refFew_any Tn _ w1 500 (HT.out.below h1).rd (by omega) (by omega))
    rw [HF.out] at P
    have HT1 := Lib.hid (RdQ.below h1 HT.out); have HK1 := Lib.hid (fun V (h : Below w1.heap.size w1 V) => HKC.out V (later h1 h)); have S1 := Lib.hid (show w.heap.size + 1 ≤ w1.heap.size by have := h1.size; have := HS.out; omega)
    clear h1 HT HKC HB HS HW
    go_wp2_with fail
    refine P.out.mono ?_
    rintro e w2 ⟨rfl, h2⟩
    have A2 := Lib.hid (later A1.out h2); have HT2 := Lib.hid (RdQ.below h2 HT1.out); have HK2 := Lib.hid (fun V (h : Below w2.heap.size w2 V) => HK1.out V (later h2 h)); have S2 := Lib.hid (show w.heap.size + 1 ≤ w2.heap.size by have := h2.size; have := S1.out; omega)
    clear h2 k0 k1 k2 k3 k4 k5 P A1 HT1 HK1 S1
    obtain ⟨k0, k1, k2, k3, k4, k5⟩ := HK2.out w2 (Below.refl _ _)
    go_wp2_with fail
    refine (refCopy_any Tn _ w2 HT2.out.rd HZ.out).mono ?_
    rintro e w3 ⟨v3, rfl, hr3, h3⟩
    have hr3' := hr3
    rw [HTN.out] at hr3'
    obtain ⟨A2', n2, c2, B2, m2, d2, rfl, -⟩ := rdQ_node.1 hr3'
    clear hr3'
    obtain ⟨V3, hV3⟩ : ∃ V3, V3 = w3.alloc (.cells #[.int .i64 k, .int .i64 f, .int .i64 a, .string s, .slice A2' n2 c2, .slice B2 m2 d2] 25) := ⟨_, rfl⟩
    obtain ⟨b3, s3, KO⟩ := one_box6 hV3
    have h23 := later h3 b3
    have HO := Lib.hid (((RdQ.old hr3).below b3).le (Q' := fun q => q < w3.heap.size) (fun q e => e.2)); have HKO := Lib.hid KO; have HV3 := Lib.hid hV3
    have A3 := Lib.hid (later A2.out h23); have HT3 := Lib.hid (RdQ.below h23 HT2.out); have HK3 := Lib.hid (fun V (h : Below V3.heap.size V3 V) => HK2.out V (later h23 h)); have S3 := Lib.hid (show w.heap.size + 1 ≤ w3.heap.size ∧ V3.heap.size = w3.heap.size + 1 by have := h3.size; have := S2.out; omega)
    clear hr3 h3 hV3 b3 s3 KO h23 k0 k1 k2 k3 k4 k5 A2 HT2 HK2 S2
    obtain ⟨o0, o1, o2, o3, o4, o5⟩ := HKO.out V3 (Below.refl _ _)
    go_upto_region 4 with fail
    rw [← HV3.out]
    clear HV3
    go_wp2_with fail
    refine (copyF_any Tn _ V3 HO.out.rd HD.out HZ.out).mono ?_
    rintro e w4 ⟨v4, rfl, hr4, h4⟩
    have hr4' := hr4
    rw [HTN.out] at hr4'
    obtain ⟨A4', n4, c4, B4, m4, d4, rfl, -⟩ := rdQ_node.1 hr4'
    clear hr4'
    obtain ⟨V4, hV4⟩ : ∃ V4, V4 = w4.alloc (.cells #[.int .i64 k, .int .i64 f, .int .i64 a, .string s, .slice A4' n4 c4, .slice B4 m4 d4] 25) := ⟨_, rfl⟩
    obtain ⟨b4, s4, KQ⟩ := one_box6 hV4
    have h34 := later h4 b4
    have HC := Lib.hid (show RdQ (fun b => V3.heap.size ≤ b ∧ Fz V4 b) V4 Tn _ from ((RdQ.old hr4).below b4).le (fun q e => ⟨e.1.1, e.1.2.as (b4.block q e.2)⟩)); have HKQ := Lib.hid KQ; have HV4 := Lib.hid hV4
    have A4 := Lib.hid (later A3.out h34); have HT4 := Lib.hid (RdQ.below h34 HT3.out); have HO4 := Lib.hid (RdQ.below h34 HO.out); have HK4 := Lib.hid (fun V (h : Below V4.heap.size V4 V) => HK3.out V (later h34 h)); have HKO4 := Lib.hid (fun V (h : Below V4.heap.size V4 V) => HKO.out V (later h34 h)); have S4 := Lib.hid (show V3.heap.size ≤ w4.heap.size ∧ V4.heap.size = w4.heap.size + 1 by have := h4.size; omega)
    clear hr4 h4 hV4 b4 s4 KQ h34 o0 o1 o2 o3 o4 o5 A3 HT3 HO HK3 HKO
    obtain ⟨q0, q1, q2, q3, q4, q5⟩ := HKQ.out V4 (Below.refl _ _)
    obtain ⟨k0, k1, k2, k3, k4, k5⟩ := HK4.out V4 (Below.refl _ _)
    go_upto_region 5 with fail
    rw [← HV4.out]
    clear HV4
    go_wp2_with fail
    refine (refSame_at true (same_self Tn) HC.out.rd HT4.out.rd).mono ?_
    rintro e w5 ⟨rfl, h5⟩
    have HC5 := Lib.hid (show RdQ (fun b => V3.heap.size ≤ b ∧ Fz w5 b) w5 Tn _ from ((RdQ.old HC.out).below h5).le (fun q e => ⟨e.1.1, e.1.2.as (h5.block q e.2)⟩))
    have A5 := Lib.hid (later A4.out h5); have HT5 := Lib.hid (RdQ.below h5 HT4.out); have HO5 := Lib.hid (RdQ.below h5 HO4.out); have HK5 := Lib.hid (HK4.out w5 h5); have HKO5 := Lib.hid (HKO4.out w5 h5); have HKQ5 := Lib.hid (HKQ.out w5 h5); have S5 := Lib.hid h5.size
    clear h5 q0 q1 q2 q3 q4 q5 k0 k1 k2 k3 k4 k5 A4 HT4 HO4 HK4 HKO4 HKQ HC
    obtain ⟨q0, q1, q2, q3, q4, q5⟩ := HKQ5.out
    go_wp2_with fail
    refine (spoil_any V3.heap.size 1000000 Tn _ w5 HZ.out (Nat.le_refl _) (by have := S4.out; have := S5.out; omega) HC5.out).mono ?_
    rintro e w6 ⟨⟨v6, rfl⟩, hi6⟩
    have hs3 := S3.out; have hs4 := S4.out; have hs5 := S5.out
    have A6 := Lib.hid (show Below w.heap.size w w6 from ⟨hi6.os.trans A5.out.os, hi6.tape.trans A5.out.tape, hi6.output.trans A5.out.output, Nat.le_trans A5.out.size hi6.size, fun q hq => (hi6.other q (by omega) (by omega)).trans (A5.out.block q hq)⟩)
    have HT6 := Lib.hid (HT5.out.carry hi6.size (fun q e => hi6.other q (by omega) (by omega))); have HO6 := Lib.hid (HO5.out.carry hi6.size (fun q e => hi6.other q (by omega) (by omega)))
    have hcw : ∀ (b i : Nat) (u : Value), b < V3.heap.size → w5.cell? ⟨b, i, none⟩ = some u → w6.cell? ⟨b, i, none⟩ = some u := fun b i u hb h => cell_as h (hi6.other b (by omega) hb)
    obtain ⟨g0, g1, g2, g3, g4, g5⟩ := HK5.out
    obtain ⟨o0, o1, o2, o3, o4, o5⟩ := HKO5.out
    have j0 := hcw _ _ _ (by omega) g0; have j1 := hcw _ _ _ (by omega) g1; have j2 := hcw _ _ _ (by omega) g2; have j3 := hcw _ _ _ (by omega) g3; have j4 := hcw _ _ _ (by omega) g4; have j5 := hcw _ _ _ (by omega) g5
    have l0 := hcw _ _ _ (by omega) o0; have l1 := hcw _ _ _ (by omega) o1; have l2 := hcw _ _ _ (by omega) o2; have l3 := hcw _ _ _ (by omega) o3; have l4 := hcw _ _ _ (by omega) o4; have l5 := hcw _ _ _ (by omega) o5
    clear hi6 hs3 hs4 hs5 hcw g0 g1 g2 g3 g4 g5 o0 o1 o2 o3 o4 o5 q0 q1 q2 q3 q4 q5
    go_wp2_with fail
    refine (refSame_at true (same_self Tn) HO6.out.rd HT6.out.rd).mono ?_
    rintro e w7 ⟨rfl, h7⟩
    have A7 := Lib.hid (later A6.out h7)
    clear h7
    go_wp2_with fail
    go_ret
    exact ⟨rfl, A7.out⟩
end Go.Proofs.Ytbcnilkenkmabaa.tr
