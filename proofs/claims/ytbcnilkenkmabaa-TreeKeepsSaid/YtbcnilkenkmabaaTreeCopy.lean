/- Package tree: Copy, Steps' function value. -/
import Derived.Test.YtbcnilkenkmabaaTreeDup
namespace Go.Proofs.Ytbcnilkenkmabaa.tr
open Go.ChangeShapes Go.WideShapes Go.ChangeAt Go.RowKit Go.Proofs.Ytbcnilkenkmabaa.mem Go.Proofs.Ytbcnilkenkmabaa.sq
set_option linter.unusedVariables false

set_option maxHeartbeats 2000000 in
theorem copy_any (T : Tr) (v : Value) (w : World) (hT : RdT w T v) (hd : deepT T ≤ 999) (hz : sizeT T ≤ 1000000) : Calls Try.prog 24 #[v] w (MakesT w T) := by
  obtain ⟨k, f, a, s, ns, ks⟩ := T
  obtain ⟨Aa, na, ca, B, mm, d, rfl, -⟩ := rdT_node.1 hT
  obtain ⟨w0, hw0⟩ : ∃ w0, w0 = (w.alloc (.cells #[.int .i64 k, .int .i64 f, .int .i64 a, .string s, .slice Aa na ca, .slice B mm d] 25)).alloc (.cells #[.int .i64 0, .int .i64 0, .int .i64 0, .string ⟨#[]⟩, .slice none 0 0, .slice none 0 0] 25) := ⟨_, rfl⟩
  have hs0 : w0.heap.size = w.heap.size + 2 := by rw [hw0]; simp
  have hb0 : Below w.heap.size w w0 := by rw [hw0]; exact ((Below.refl _ _).alloc (Nat.le_refl _) _).alloc (by simp) _
  have hX0 : Six w0 w.heap.size (.int .i64 k) (.int .i64 f) (.int .i64 a) (.string s) (.slice Aa na ca) (.slice B mm d) := by
    rw [hw0]; exact (Six.new w _ _ _ _ _ _).below ((Below.refl _ _).alloc (Nat.le_refl _) _)
  have hO0 : Six w0 (w.heap.size + 1) (.int .i64 0) (.int .i64 0) (.int .i64 0) (.string ⟨#[]⟩) (.slice none 0 0) (.slice none 0 0) := by
    have := Six.new (w.alloc (.cells #[.int .i64 k, .int .i64 f, .int .i64 a, .string s, .slice Aa na ca, .slice B mm d] 25)) (.int .i64 0) (.int .i64 0) (.int .i64 0) (.string ⟨#[]⟩) (.slice none 0 0) (.slice none 0 0)
    rw [World.size_alloc] at this
    rw [hw0]; exact this
  have P1 := Lib.hid (within_any _ _ w0 (hT.below hb0) hd hz)
  have P2 := fun W (h : Below w.heap.size w W) => Lib.hid (dup_any (.node k f a s ns ks) _ W (hT.below h) hz)
  have HB0 := Lib.hid hb0; have HS0 := Lib.hid hs0; have HX0 := Lib.hid hX0; have HO0 := Lib.hid hO0
  obtain ⟨q0, q1, q2, q3, q4, q5⟩ := hX0.six
  clear hT hd hz hb0 hs0 hX0 hO0
  go_enter Try.func24, Try.ntmps24
  go_upto_region 1 with fail
  rw [← hw0]
  clear hw0
  go_wp2_with fail
  refine P1.out.mono ?_
  rintro e w1 ⟨rfl, hb1⟩
  have hX1 := HX0.out.below hb1
  obtain ⟨p0, p1, p2, p3, p4, p5⟩ := hX1.six
  have hb01 := HB0.out.trans (hb1.mono HB0.out.size)
  have PA := P2 w1 hb01
  have HO1 := Lib.hid (HO0.out.below hb1); have HB1 := Lib.hid hb01; have HS1 := Lib.hid (show w.heap.size + 2 ≤ w1.heap.size by have := hb1.size; have := HS0.out; omega)
  clear hX1 hb01 hb1 q0 q1 q2 q3 q4 q5 P1 P2 HO0 HX0 HB0 HS0
  go_wp2_with fail
  refine PA.out.mono ?_
  rintro e w2 ⟨v2, rfl, hr2, hb2⟩
  obtain ⟨A2, n2, c2, B2, m2, d2, rfl, -⟩ := rdQ_node.1 hr2
  have hO2 := HO1.out.below hb2
  obtain ⟨z0, z1, z2, z3, z4, z5⟩ := hO2.six
  have g0 := hO2.frozen 0; have g1 := hO2.frozen 1; have g2 := hO2.frozen 2; have g3 := hO2.frozen 3; have g4 := hO2.frozen 4; have g5 := hO2.frozen 5
  have HO2 := Lib.hid hO2; have HR2 := Lib.hid hr2; have HB2 := Lib.hid hb2
  clear hO2 hr2 hb2 p0 p1 p2 p3 p4 p5 PA
  go_wp2_with fail
  obtain ⟨Z, hZ⟩ : ∃ Z, Z = put6 w2 (w.heap.size + 1) 0 (.int .i64 k) (.int .i64 f) (.int .i64 a) (.string s) (.slice A2 n2 c2) (.slice B2 m2 d2) := ⟨_, rfl⟩
  have hZ6 := HO2.out.all (.int .i64 k) (.int .i64 f) (.int .i64 a) (.string s) (.slice A2 n2 c2) (.slice B2 m2 d2)
  have hoth : ∀ q, q ≠ w.heap.size + 1 → Z.heap[q]? = w2.heap[q]? := fun q hq => by rw [hZ]; exact put6_other _ _ _ _ _ _ _ _ _ q hq
  have hszZ : Z.heap.size = w2.heap.size := by rw [hZ]; exact put6_size _ _ _ _ _ _ _ _ _
  have hs1 := HS1.out
  have hbZ : Below w.heap.size w Z := by rw [hZ]; exact put6_below (HB1.out.trans (HB2.out.mono HB1.out.size)) (by omega) _ _ _ _ _ _ _
  have hfin : RdQ (fun b => w.heap.size ≤ b) Z (.node k f a s ns ks) (.agg #[.int .i64 k, .int .i64 f, .int .i64 a, .string s, .slice A2 n2 c2, .slice B2 m2 d2]) :=
    (HR2.out.carry (by omega) (fun b hb => hoth b (by omega))).le fun b hb => by omega
  obtain ⟨r0, r1, r2, r3, r4, r5⟩ := hZ6.six
  unfold put6 at hZ
  rw [← hZ] at r0 r1 r2 r3 r4 r5 ⊢
  refine bodyPost_ret (v := .agg #[.int .i64 k, .int .i64 f, .int .i64 a, .string s, .slice A2 n2 c2, .slice B2 m2 d2]) (by simp [results, Try.results24, go_sem, r0, r1, r2, r3, r4, r5]) rfl ⟨_, rfl, hfin, hbZ⟩
/-- Steps' answer: a function value over a box that holds a copy of the tree. -/
def StepsFn (w : World) (T : Tr) (e : Ending) (w' : World) : Prop := ∃ v, e = .returned (.func (.func 35) #[] #[.pointer (some ⟨w.heap.size, 0, none⟩)]) ∧ Lies6 w' w.heap.size v ∧ RdQ (fun b => w.heap.size < b) w' T v ∧ Below w.heap.size w w'
set_option maxHeartbeats 2000000 in
theorem steps_any (T : Tr) (v : Value) (w : World) (hT : RdT w T v) (hd : deepT T ≤ 999) (hz : sizeT T ≤ 1000000) : Calls Try.prog 20 #[v] w (StepsFn w T) := by
  obtain ⟨k, f, a, s, ns, ks⟩ := T
  obtain ⟨Aa, na, ca, B, mm, d, rfl, -⟩ := rdT_node.1 hT
  obtain ⟨w0, hw0⟩ : ∃ w0, w0 = w.alloc (.cells #[.int .i64 k, .int .i64 f, .int .i64 a, .string s, .slice Aa na ca, .slice B mm d] 25) := ⟨_, rfl⟩
  have hs0 : w0.heap.size = w.heap.size + 1 := by rw [hw0]; simp
  have hb0 : Below w.heap.size w w0 := by rw [hw0]; exact (Below.refl _ _).alloc (Nat.le_refl _) _
  have hX0 : Six w0 w.heap.size (.int .i64 k) (.int .i64 f) (.int .i64 a) (.string s) (.slice Aa na ca) (.slice B mm d) := by rw [hw0]; exact Six.new w _ _ _ _ _ _
  have P1 := Lib.hid (copy_any _ _ w0 (hT.below hb0) hd hz)
  have HB0 := Lib.hid hb0; have HS0 := Lib.hid hs0; have HX0 := Lib.hid hX0
  obtain ⟨q0, q1, q2, q3, q4, q5⟩ := hX0.six
  clear hT hd hz hb0 hs0 hX0
  go_enter Try.func20, Try.ntmps20
  go_upto_region 1 with fail
  rw [← hw0]
  clear hw0
  go_wp2_with fail
  refine P1.out.mono ?_
  rintro e w2 ⟨v2, rfl, hr2, hb2⟩
  obtain ⟨A2, n2, c2, B2, m2, d2, rfl, -⟩ := rdQ_node.1 hr2
  have hO2 := HX0.out.below hb2
  obtain ⟨z0, z1, z2, z3, z4, z5⟩ := hO2.six
  have g0 := hO2.frozen 0; have g1 := hO2.frozen 1; have g2 := hO2.frozen 2; have g3 := hO2.frozen 3; have g4 := hO2.frozen 4; have g5 := hO2.frozen 5
  have HO2 := Lib.hid hO2; have HR2 := Lib.hid hr2; have HB2 := Lib.hid hb2
  clear hO2 hr2 hb2 q0 q1 q2 q3 q4 q5 P1
  go_wp2_with fail
  obtain ⟨Z, hZ⟩ : ∃ Z, Z = put6 w2 w.heap.size 0 (.int .i64 k) (.int .i64 f) (.int .i64 a) (.string s) (.slice A2 n2 c2) (.slice B2 m2 d2) := ⟨_, rfl⟩
  have hZ6 := HO2.out.all (.int .i64 k) (.int .i64 f) (.int .i64 a) (.string s) (.slice A2 n2 c2) (.slice B2 m2 d2)
  have hoth : ∀ q, q ≠ w.heap.size → Z.heap[q]? = w2.heap[q]? := fun q hq => by rw [hZ]; exact put6_other _ _ _ _ _ _ _ _ _ q hq
  have hszZ : Z.heap.size = w2.heap.size := by rw [hZ]; exact put6_size _ _ _ _ _ _ _ _ _
  have hs0 := HS0.out
  have hbZ : Below w.heap.size w Z := by rw [hZ]; exact put6_below (HB0.out.trans (HB2.out.mono HB0.out.size)) (Nat.le_refl _) _ _ _ _ _ _ _
  have hfin : RdQ (fun b => w.heap.size < b) Z (.node k f a s ns ks) (.agg #[.int .i64 k, .int .i64 f, .int .i64 a, .string s, .slice A2 n2 c2, .slice B2 m2 d2]) :=
    (HR2.out.carry (by omega) (fun b hb => hoth b (by omega))).le fun b hb => by omega
  unfold put6 at hZ
  rw [← hZ] at hZ6
  have HZ := Lib.hid hZ; have HZ6 := Lib.hid hZ6; have HBZ := Lib.hid hbZ; have HF := Lib.hid hfin
  clear hZ hZ6 hoth hszZ hbZ hfin hs0
  first
    | (go_ret; rw [← HZ.out]; exact ⟨_, rfl, ⟨_, _, _, _, _, _, rfl, HZ6.out.six⟩, HF.out, HBZ.out⟩)
    | (rw [← HZ.out]; go_ret; exact ⟨_, rfl, ⟨_, _, _, _, _, _, rfl, HZ6.out.six⟩, HF.out, HBZ.out⟩)
end Go.Proofs.Ytbcnilkenkmabaa.tr
