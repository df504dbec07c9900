/- TreeSteps: the steps and the names against the reference. -/
import Derived.Test.YtbcnilkenkmabaaCount8
import Derived.Deep.RegionHeld3
import Derived.BigRegion
namespace Go.Proofs.Ytbcnilkenkmabaa.tr
open Go.ChangeShapes Go.WideShapes Go.ChangeAt Go.RowKit Go.Proofs.Ytbcnilkenkmabaa.mem Go.Proofs.Ytbcnilkenkmabaa.sq
set_option linter.unusedVariables false
attribute [local go_sem] Oper.semAt_some

/-- Between the nodes: so many are counted, not more than the bound. -/
def TI (W : World) (bn : Nat) (st : Int) : (Nat → Prop) → List Tr → World → Prop := fun R p X => AI W bn R p X ∧ (p.length : Int) ≤ st
def TIx (W : World) (bn : Nat) (st : Int) : Code → (Nat → Prop) → List Tr → World → Prop := fun c R p X => c = .exit 0 ∧ AI W bn R p X ∧ (p.length : Int) = st + 1
theorem ti_bides {W : World} {bn : Nat} {st : Int} (hb : bn < W.heap.size) : Bides W.heap.size (TI W bn st) := fun R R' p A C h ht hg => ⟨ai_bides hb R R' p A C h.1 ht hg, h.2⟩
theorem tix_bides {W : World} {bn : Nat} {st : Int} (hb : bn < W.heap.size) (c : Code) : Bides W.heap.size (TIx W bn st c) := fun R R' p A C h ht hg => ⟨h.1, ai_bides hb R R' p A C h.2.1 ht hg, h.2.2⟩
theorem ti_step {W X V : World} {bn : Nat} {R K Ri Ri' : Nat → Prop} {p : List Tr} {x : Tr} {j m : Int} (h : AI W bn Ri p X) (hj : (p.length : Int) = j) (hb : bn < W.heap.size) (hK : ¬ K bn) (hR : ¬ R bn) (hKs : ∀ q, K q → q < X.heap.size) (hRs : ∀ q, R q → q < X.heap.size) (hm : m = j + 1) (hV : Below X.heap.size X V) :
    Spares W.heap.size K R X (V.setCell ⟨bn, 0, none⟩ (.int .i64 m)) ∧ AI W bn Ri' (p ++ [x]) (V.setCell ⟨bn, 0, none⟩ (.int .i64 m)) := by
  have hA := (ai_bides hb).below h hV
  obtain ⟨h1, h2⟩ := ai_step (x := x) (Ri' := Ri') hA hj hb hK hR m hm
  exact ⟨(Spares.of_below hV hKs hRs).trans h1, h2⟩

set_option maxHeartbeats 8000000 in
set_option maxRecDepth 100000 in
theorem walk_TreeSteps (T : Tr) (v : Value) (st : Int) (w : World) (hT : RdT w T v) (hst : 0 ≤ st ∧ st ≤ 255) : Calls Try.prog 5 #[v, .int .u8 st] w fun e w' => e = .returned (.bool true) ∧ Below w.heap.size w w' := by
  have hTQ := (RdQ.old hT).le (Q' := fun q => q < w.heap.size) (fun q e => e.2)
  obtain ⟨k, f, a, s, ns, ks⟩ := T
  obtain ⟨Aa, na, ca, B, mm, d, rfl, -⟩ := rdT_node.1 hT
  obtain ⟨W0, hW0⟩ : ∃ W0, W0 = w.alloc (.cells #[.int .i64 k, .int .i64 f, .int .i64 a, .string s, .slice Aa na ca, .slice B mm d] 25) := ⟨_, rfl⟩
  obtain ⟨W, hW⟩ : ∃ W, W = (W0.alloc (.cells #[.int .u8 st] 5)).alloc (.cells #[.bool false] 4) := ⟨_, rfl⟩
  obtain ⟨hb0, hs0, KC0⟩ := one_box6 hW0
  have hb0W : Below W0.heap.size W0 W := by rw [hW]; exact ((Below.refl _ _).alloc (Nat.le_refl _) _).alloc (by simp) _
  have hs : W.heap.size = w.heap.size + 3 := by rw [hW]; simp [hs0]
  have hr0 : Boxed W (w.heap.size + 1 + 1) 4 (.bool false) := by
    have := Boxed.new (W0.alloc (.cells #[.int .u8 st] 5)) 4 (.bool false)
    rw [World.size_alloc, ← hW, hs0] at this
    exact this
  have hst0 : Boxed W (w.heap.size + 1) 5 (.int .u8 st) := by
    have := (Boxed.new W0 5 (.int .u8 st)).alloc (.cells #[.bool false] 4)
    rw [← hW, hs0] at this
    exact this
  have hb := later hb0 hb0W
  have HT := Lib.hid (RdQ.below hb hTQ); have HB := Lib.hid hb; have HKC := Lib.hid (fun V (h : Below W.heap.size W V) => KC0 V (later hb0W h)); have HW := Lib.hid (hW0 ▸ hW); have HS := Lib.hid hs; have HR0 := Lib.hid hr0; have HST := Lib.hid hst0; have HSB := Lib.hid hst
  clear hT hTQ hb hb0 hb0W KC0 hW hW0 hs hs0 hr0 hst0 hst
  obtain ⟨Tn, hTn⟩ : ∃ Tn, Tn = Tr.node k f a s ns ks := ⟨_, rfl⟩
  rw [← hTn] at HT
  clear hTn
  rcases hf : smallT Tn 300 with _ | _
  · have HF := Lib.hid hf
    clear hf
    go_enter Try.func5, Try.ntmps5
    go_upto_region 1 with fail
    rw [← HW.out]
    go_wp2_with fail
    refine (awake_true _).mono ?_
    rintro e w1 ⟨rfl, h1⟩
    obtain ⟨k0, k1, k2, k3, k4, k5⟩ := HKC.out w1 h1
    have A1 := Lib.hid (later HB.out h1)
    have P := Lib.hid (refSmall_any Tn _ w1 300 (HT.out.below h1).rd (by omega) (by omega))
    have R1 := Lib.hid (boxed_below HR0.out h1)
    rw [HF.out] at P
    clear h1
    go_wp2_with fail
    refine P.out.mono ?_
    rintro e w2 ⟨rfl, h2⟩
    have A2 := Lib.hid (later A1.out h2); have R2 := Lib.hid (boxed_below R1.out h2)
    clear h2
    go_wp2_with fail
    refine (awake_true _).mono ?_
    rintro e w3 ⟨rfl, h3⟩
    have A3 := Lib.hid (later A2.out h3); have R3 := boxed_below R2.out h3
    have r0 := R3.cell; have r1 := R3.frozen
    have R4 := Lib.hid ((R3.set (.bool true)).cell)
    clear h3 R3
    go_wp2_with fail
    have r4 := R4.out
    exact bodyPost_ret (v := .bool true) (by simp [results, Try.results5, go_sem, r4]) rfl ⟨rfl, A3.out.setCell (p := ⟨w.heap.size + 1 + 1, 0, none⟩) (by show w.heap.size ≤ w.heap.size + 1 + 1; omega) _⟩
  obtain ⟨hd, hz, -⟩ := small_out hf (by omega)
  have HF := Lib.hid hf; have HD := Lib.hid hd; have HZ := Lib.hid hz
  clear hf hd hz
  refine (callsIn_wide (n := 3)).1 ?_
  refine callsIn_of_wp_marks Try.func5 rfl trivial ?_ rfl
  simp only [Try.ntmps5, List.size_toArray, List.length_cons, List.length_nil, Nat.reduceAdd, Nat.reduceSub, Array.replicate_succ, Array.replicate_zero, List.push_toArray, List.append_toArray, List.nil_append, List.cons_append]
  refine wpIn_wide.2 ?_
  go_upto_region 1 with fail
  rw [← HW.out]
  clear HW
  go_wp2_with fail
  refine (awake_true _).mono ?_
  rintro e w1 ⟨rfl, h1⟩
  obtain ⟨k0, k1, k2, k3, k4, k5⟩ := HKC.out w1 h1
  have A1 := Lib.hid (later HB.out h1)
  have P := Lib.hid (refSmall_any Tn _ w1 300 (HT.out.below h1).rd (by omega) (by omega))
  rw [HF.out] at P
  have HT1 := Lib.hid (RdQ.below h1 HT.out); have HK1 := Lib.hid (fun V (h : Below w1.heap.size w1 V) => HKC.out V (later h1 h)); have S1 := Lib.hid (show w.heap.size + 3 ≤ w1.heap.size by have := h1.size; have := HS.out; omega); have R1 := Lib.hid (boxed_below HR0.out h1); have ST1 := Lib.hid (boxed_below HST.out h1)
  clear h1 HT HKC HB HS HR0 HST
  go_wp2_with fail
  refine P.out.mono ?_
  rintro e w2 ⟨rfl, h2⟩
  have A2 := Lib.hid (later A1.out h2); have HT2 := Lib.hid (RdQ.below h2 HT1.out); have HK2 := Lib.hid (fun V (h : Below w2.heap.size w2 V) => HK1.out V (later h2 h)); have S2 := Lib.hid (show w.heap.size + 3 ≤ w2.heap.size by have := h2.size; have := S1.out; omega); have R2 := Lib.hid (boxed_below R1.out h2); have ST2 := Lib.hid (boxed_below ST1.out h2)
  have PS := Lib.hid (refSteps_any Tn (fun q => q < w.heap.size) _ w2 HT2.out (fun q e => by have := S2.out; omega) (by have := HZ.out; omega))
  obtain ⟨L, hL⟩ : ∃ L, L = stepsT Tn := ⟨_, rfl⟩
  rw [← hL] at PS
  have HL := Lib.hid hL
  clear h2 hL k0 k1 k2 k3 k4 k5 P A1 HT1 HK1 S1 R1 ST1
  obtain ⟨k0, k1, k2, k3, k4, k5⟩ := HK2.out w2 (Below.refl _ _)
  go_wp2_with fail
  refine PS.out.mono ?_
  rintro e w3 ⟨P, c, rfl, ho, h3⟩
  obtain ⟨N, hN⟩ : ∃ N, N = L.length := ⟨_, rfl⟩
  rw [← hN] at ho ⊢
  obtain ⟨V3, hV3⟩ : ∃ V3, V3 = w3.alloc (.cells #[.slice P N c] 23) := ⟨_, rfl⟩
  have b3 : Below w3.heap.size w3 V3 := by rw [hV3]; exact (Below.refl _ _).alloc (Nat.le_refl _) _
  have s3 : V3.heap.size = w3.heap.size + 1 := by rw [hV3]; simp
  have q3 : Boxed V3 w3.heap.size 23 (.slice P N c) := by rw [hV3]; exact Boxed.new w3 _ _
  have h23 := later h3 b3
  have HN := Lib.hid hN; have HO := Lib.hid ho; have HV3 := Lib.hid hV3; have S3 := Lib.hid (show w.heap.size + 3 ≤ w3.heap.size ∧ V3.heap.size = w3.heap.size + 1 by have := S2.out; have := h3.size; omega); have HB3 := Lib.hid b3; have Q3 := Lib.hid q3; have A3 := Lib.hid (later A2.out h23); have HT3 := Lib.hid (RdQ.below h23 HT2.out); have HK3 := Lib.hid (fun V (h : Below V3.heap.size V3 V) => HK2.out V (later h23 h)); have R3 := Lib.hid (boxed_below R2.out h23); have ST3 := Lib.hid (boxed_below ST2.out h23)
  clear h3 hN ho hV3 b3 s3 q3 h23 k0 k1 k2 k3 k4 k5 A2 HT2 HK2 S2 R2 ST2 PS
  obtain ⟨k0, k1, k2, k3, k4, k5⟩ := HK3.out V3 (Below.refl _ _)
  go_upto_region 4 with fail
  rw [← HV3.out]
  clear HV3
  go_wp2_with fail
  refine (steps_any Tn _ V3 HT3.out.rd (by have := HD.out; omega) (by have := HZ.out; omega)).mono ?_
  rintro e V4 ⟨v4, rfl, hv4, ht4, hb4⟩
  have hlt4 : V3.heap.size < V4.heap.size := by obtain ⟨c0, c1, c2, c3, c4, c5, -, g0, -⟩ := hv4; exact World.block_lt_of_cell? _ _ g0
  have hseq := steps_seq (3 - 1) V3.heap.size Tn v4 (fun q => V3.heap.size < q ∧ q < V4.heap.size) V4 hv4 (RdQ.old ht4) (fun q e => e.2) (by have := HD.out; omega) (by have := HZ.out; omega)
  rw [← HL.out] at hseq
  obtain ⟨V5, hV5⟩ : ∃ V5, V5 = V4.alloc (.cells #[.int .i64 0] 3) := ⟨_, rfl⟩
  have b5 : Below V4.heap.size V4 V5 := by rw [hV5]; exact (Below.refl _ _).alloc (Nat.le_refl _) _
  have s5 : V5.heap.size = V4.heap.size + 1 := by rw [hV5]; simp
  have n5 : Boxed V5 V4.heap.size 3 (.int .i64 0) := by rw [hV5]; exact Boxed.new V4 _ _
  have h35 := later hb4 b5
  have HSEQ := Lib.hid hseq; have HLT := Lib.hid (show V3.heap.size < V4.heap.size ∧ V5.heap.size = V4.heap.size + 1 from ⟨hlt4, s5⟩); have HB5 := Lib.hid b5; have HB35 := Lib.hid (later HB3.out h35); have HV5 := Lib.hid hV5; have N5 := Lib.hid n5; have Q5 := Lib.hid (boxed_below Q3.out h35); have A5 := Lib.hid (later A3.out h35); have HT5 := Lib.hid (RdQ.below h35 HT3.out); have HK5 := Lib.hid (fun V (h : Below V5.heap.size V5 V) => HK3.out V (later h35 h)); have R5 := Lib.hid (boxed_below R3.out h35); have ST5 := Lib.hid (boxed_below ST3.out h35)
  clear hv4 ht4 hb4 hlt4 hseq hV5 b5 s5 n5 h35 k0 k1 k2 k3 k4 k5 A3 HT3 HK3 R3 ST3 Q3 HB3
  have hfe := func_eq
  go_upto_region 8 with fail
  rw [← HV5.out]
  clear HV5
  go_wp2_with fail
  clear hfe
  refine (wpIn_wide (n := 3)).1 ?_
  refine wpIn_iterate rfl (fun h => by cases h) (gf := 35) rfl trivial (Hand := HandS) (enters_of Try.func35 (by kernel_rfl) rfl) (fun W x vs h => by obtain ⟨v, rfl, _⟩ := h; rfl) HSEQ.out HB5.out (fun q e => by have := HLT.out; omega)
    (TI V5 V4.heap.size st) (TIx V5 V4.heap.size st) (ti_bides (by have := HLT.out; omega)) (tix_bides (by have := HLT.out; omega)) ⟨⟨N5.out, fun _ _ _ => rfl, rfl, rfl, rfl, Nat.le_refl _⟩, by have := HSB.out; simp; omega⟩ ?round ?done ?stop
  case round =>
    rintro l2 Ri p x vs C hl1 hl2 hlo hRi ⟨hai, hps⟩ hpx ⟨vx, rfl, hTx⟩
    have hTj := pre_last hpx
    obtain ⟨x0, hx0⟩ : ∃ x0, x0 = x := ⟨_, rfl⟩
    obtain ⟨k', f', a', s', ns', ks'⟩ := x
    obtain ⟨Aa', na', ca', B', mm', d', rfl, -⟩ := rdT_node.1 hTx
    rw [← hx0] at hTx hTj ⊢
    obtain ⟨j, hj⟩ : ∃ j : Nat, p.length = j := ⟨_, rfl⟩
    rw [hj] at hTj
    have hlt : j < N := by rw [HN.out]; exact (List.getElem?_eq_some_iff.1 hTj).1
    obtain ⟨us, u0, u1, u2⟩ := HO.out
    rw [← HN.out] at u0 u1
    obtain ⟨g, cap, e, hg2, hgl⟩ := World.ownsRow.form u1 (by omega)
    obtain rfl : P = some ⟨g, 0, none⟩ := by injection e
    obtain ⟨u, huj⟩ : ∃ u, us[j]? = some u := ⟨_, List.getElem?_eq_getElem (by omega)⟩
    have hrT := u2 j u x0 huj hTj
    obtain ⟨⟨e0, e1, e2, e3, e4, e5⟩, _⟩ := row6_at u1 huj
    obtain ⟨c0, c1, c2, c3', c4, c5⟩ := u
    have hrT2 := hrT
    rw [hx0] at hrT2
    obtain ⟨Ta, Tn', Tc, Tb, Tm, Td, hu6, -⟩ := rdQ_node.1 hrT2
    simp only [S6.agg, Value.agg.injEq, Array.mk.injEq, List.cons.injEq, and_true] at hu6
    obtain ⟨rfl, rfl, rfl, rfl, rfl, rfl⟩ := hu6
    have HLL := Lib.hid (show V5.heap.size ≤ l2 ∧ l2 < C.heap.size from ⟨hl1, hl2⟩); have HLO := Lib.hid hlo; have HRI := Lib.hid hRi; have HAI := Lib.hid hai; have HTX := Lib.hid hTx; have HJ := Lib.hid hj; have HPS := Lib.hid (show (j : Int) ≤ st by rw [← hj]; exact hps); have HLTJ := Lib.hid hlt
    have HRT := Lib.hid hrT; have HGL := Lib.hid (show w2.heap.size ≤ g ∧ g < w3.heap.size from ⟨hg2, hgl⟩)
    have HE := Lib.hid (And.intro e0 (And.intro e1 (And.intro e2 (And.intro e3 (And.intro e4 e5)))))
    clear hpx hl1 hl2 hlo hRi hai hTx hps hx0 hj HSEQ A5 u0 u1 u2 e hg2 hgl huj hrT hrT2 hTj e0 e1 e2 e3 e4 e5 hlt
    gi_wp2_with fail
    refine ⟨Spares.of_below ((Below.refl _ _).alloc (Nat.le_refl _) _) (fun q e => by have := HLL.out; have := HLT.out; omega) (fun q e => (HRI.out q e).2), fun X hX => ?_⟩
    have hlt := HLL.out; have hs3 := S3.out; have hs4 := HLT.out; have hgl := HGL.out
    have hsX : C.heap.size + 1 ≤ X.heap.size := by have := hX.size; simp at this; omega
    have hC := ai_bides (bn := V4.heap.size) (W := V5) (by omega) Ri Ri _ _ _ HAI.out (turn_round (R := Ri) (by exact (Below.refl _ _).alloc (Nat.le_refl _) _) hX HLO.out hlt.1) (Grow.refl _ _ _)
    have hsome := round_cells (by exact (Below.refl _ _).alloc (Nat.le_refl _) _) hX HLO.out
    have hxX : RdT X x0 (.agg #[.int .i64 k', .int .i64 f', .int .i64 a', .string s', .slice Aa' na' ca', .slice B' mm' d']) := RdQ.some_ (by omega) hsome HTX.out
    have hk0 : X.cell? ⟨C.heap.size, 0, none⟩ = some (.int .i64 k') := cell_out hX (cell_new C _ _ 0 rfl) (by show C.heap.size ≠ l2; omega)
    have hk1 : X.cell? ⟨C.heap.size, 1, none⟩ = some (.int .i64 f') := cell_out hX (cell_new C _ _ 1 rfl) (by show C.heap.size ≠ l2; omega)
    have hk2 : X.cell? ⟨C.heap.size, 2, none⟩ = some (.int .i64 a') := cell_out hX (cell_new C _ _ 2 rfl) (by show C.heap.size ≠ l2; omega)
    have hk3 : X.cell? ⟨C.heap.size, 3, none⟩ = some (.string s') := cell_out hX (cell_new C _ _ 3 rfl) (by show C.heap.size ≠ l2; omega)
    have hk4 : X.cell? ⟨C.heap.size, 4, none⟩ = some (.slice Aa' na' ca') := cell_out hX (cell_new C _ _ 4 rfl) (by show C.heap.size ≠ l2; omega)
    have hk5 : X.cell? ⟨C.heap.size, 5, none⟩ = some (.slice B' mm' d') := cell_out hX (cell_new C _ _ 5 rfl) (by show C.heap.size ≠ l2; omega)
    have hold : ∀ q, q < V5.heap.size → q ≠ V4.heap.size → X.heap[q]? = V5.heap[q]? := hC.2.1
    have hw3 : ∀ q, q < w3.heap.size → X.heap[q]? = w3.heap[q]? := fun q hq => (hold q (by omega) (by omega)).trans (HB35.out.block q hq)
    have h1 := hC.1
    rw [HJ.out] at h1
    have n0 := h1.cell
    have hwn := (boxed_as Q5.out (hold w3.heap.size (by omega) (by omega))).cell
    have e0 := cell_as HE.out.1 (hw3 g (by omega)); have e1 := cell_as HE.out.2.1 (hw3 g (by omega)); have e2 := cell_as HE.out.2.2.1 (hw3 g (by omega)); have e3 := cell_as HE.out.2.2.2.1 (hw3 g (by omega)); have e4 := cell_as HE.out.2.2.2.2.1 (hw3 g (by omega)); have e5 := cell_as HE.out.2.2.2.2.2 (hw3 g (by omega))
    have PX := Lib.hid (fun V (h : Below X.heap.size X V) => refSame_at (T := x0) (U := x0) true (same_self x0) (hxX.below h) ((HRT.out.carry (w' := X) (by have := HB35.out.size; omega) (fun q e => hw3 q (by omega))).rd.below h))
    have HSTX := Lib.hid (boxed_as ST5.out (hold _ (by omega) (by omega)))
    have HNX := Lib.hid h1
    have HFF := Lib.hid (fun V (hV : Below X.heap.size X V) (m : Int) (hm : m = (j : Int) + 1) => ti_step (x := x0) (Ri' := Ri) (m := m) (K := fun q => V3.heap.size < q ∧ q < V4.heap.size) (R := Ri) hC (by rw [HJ.out]) (by omega) (by omega) (fun e => by have := HRI.out _ e; omega) (fun q e => by omega) (fun q e => by have := HRI.out q e; omega) hm hV)
    have hlt := HLTJ.out
    have hi1 : (j : Int) < (N : Int) := by omega
    have hi2 : decide ((N : Int) ≤ (j : Int)) = false := by simp; omega
    have HX0 := Lib.hid (Below.refl X.heap.size X)
    clear hs3 hs4 hgl hsX hC hsome hxX hX h1 hold hw3
    have hmx : Try.prog.follows .mixedOrders = true := by kernel_rfl
    gi_wp2_with fail
    gi_region_with_o (first
      | (refine call_round (PX.out _ (by first | exact HX0.out | exact Below.drew HX0.out)) ?_; rintro e V ⟨rfl, hV⟩; have HV := Lib.hid (show Below X.heap.size X V from by first | exact hV | exact later (Below.drew (Below.refl _ _)) hV); clear hV))
    all_goals
      have hlV := boxed_below HNX.out HV.out
      have m0 := hlV.cell; have m1 := hlV.frozen
      have hstV := (boxed_below HSTX.out HV.out).cell
      have hne : w.heap.size + 1 ≠ V4.heap.size := by have := S3.out; have := HLT.out; omega
      have hadd : IntKind.i64.wrap ((j : Int) + 1) = (j : Int) + 1 := by have := HPS.out; have := HSB.out; rw [IntKind.wrap_i64]; omega
      have hcv : IntKind.i64.wrap st = st := by have := HSB.out; rw [IntKind.wrap_i64]; omega
      have HFV := Lib.hid (HFF.out _ HV.out ((j : Int) + 1) rfl)
      clear hlV
      rcases hgt : decide (st < (j : Int) + 1) with _ | _
      · have HGT := Lib.hid (of_decide_eq_false hgt)
        gi_wp2_with fail
        exact ⟨HFV.out.1, HFV.out.2, by have := HGT.out; have := HJ.out; rw [List.length_append]; simp; omega⟩
      · have HGT := Lib.hid (of_decide_eq_true hgt)
        gi_wp2_with fail
        exact ⟨HFV.out.1, rfl, HFV.out.2, by have := HGT.out; have := HJ.out; have := HPS.out; rw [List.length_append]; simp; omega⟩
  case done =>
    rintro D Ri X hD ⟨⟨h1, h2, h3, h4, h5, h6⟩, hps⟩ hK
    rw [← HN.out] at h1 hps
    obtain ⟨n, hn⟩ : ∃ n : Int, (N : Int) = n := ⟨_, rfl⟩
    have hmin : n = min (N : Int) (st + 1) := by omega
    rw [hn] at h1
    have hs3 := S3.out; have hs7 := HLT.out
    have hold : ∀ q, q < V5.heap.size → q ≠ V4.heap.size → X.heap[q]? = V5.heap[q]? := h2
    have hbX : Below w.heap.size w X := ⟨h3.trans A5.out.os, h4.trans A5.out.tape, h5.trans A5.out.output, Nat.le_trans A5.out.size h6, fun q hq => (h2 q (by have := A5.out.size; omega) (by omega)).trans (A5.out.block q hq)⟩
    have TX := (HT5.out.carry h6 (fun q e => h2 q (by omega) (by omega))).rd
    obtain ⟨g0, g1, g2, g3, g4, g5⟩ := HK5.out V5 (Below.refl _ _)
    have hcw : ∀ (i : Nat) (u : Value), V5.cell? ⟨w.heap.size, i, none⟩ = some u → X.cell? ⟨w.heap.size, i, none⟩ = some u := fun i u h => cell_as h (hold w.heap.size (by omega) (by omega))
    have j0 := hcw _ _ g0; have j1 := hcw _ _ g1; have j2 := hcw _ _ g2; have j3 := hcw _ _ g3; have j4 := hcw _ _ g4; have j5 := hcw _ _ g5
    have hwX : w.heap.size < X.heap.size := by omega
    have HKX := Lib.hid (fun V (hb : Below X.heap.size X V) => show V.cell? ⟨w.heap.size, 0, none⟩ = some (.int .i64 k) ∧ V.cell? ⟨w.heap.size, 1, none⟩ = some (.int .i64 f) ∧ V.cell? ⟨w.heap.size, 2, none⟩ = some (.int .i64 a) ∧ V.cell? ⟨w.heap.size, 3, none⟩ = some (.string s) ∧ V.cell? ⟨w.heap.size, 4, none⟩ = some (.slice Aa na ca) ∧ V.cell? ⟨w.heap.size, 5, none⟩ = some (.slice B mm d) from
      ⟨(hb.cell (p := ⟨w.heap.size, 0, none⟩) hwX).trans j0, (hb.cell (p := ⟨w.heap.size, 1, none⟩) hwX).trans j1, (hb.cell (p := ⟨w.heap.size, 2, none⟩) hwX).trans j2, (hb.cell (p := ⟨w.heap.size, 3, none⟩) hwX).trans j3, (hb.cell (p := ⟨w.heap.size, 4, none⟩) hwX).trans j4, (hb.cell (p := ⟨w.heap.size, 5, none⟩) hwX).trans j5⟩)
    have NX := Lib.hid h1; have QX := Lib.hid (boxed_as Q5.out (hold w3.heap.size (by omega) (by omega))); have STX := Lib.hid (boxed_as ST5.out (hold _ (by omega) (by omega))); have RX := Lib.hid (boxed_as R5.out (hold _ (by omega) (by omega)))
    have HDX := Lib.hid hK; have BX := Lib.hid hbX; have HTX := Lib.hid TX; have HMN := Lib.hid hmin
    have HDW := Lib.hid (show D ≠ w.heap.size + 1 + 1 ∧ w.heap.size ≤ D by omega)
    clear h1 h2 h3 h4 h5 h6 hs3 hs7 hold hbX TX g0 g1 g2 g3 g4 g5 hcw hwX hD hK hmin hn HSEQ A5 HT5 HK5 N5 Q5 R5 ST5
    go_wp2_with fail
    refine (names_any Tn _ X HTX.out (by have := HD.out; omega) (by have := HZ.out; omega)).mono ?_
    rintro e Y ⟨v1, rfl, ho1, hbY⟩
    obtain ⟨NL, hNL⟩ : ∃ NL, NL = namesOf (stepsT Tn) := ⟨_, rfl⟩
    have HNB := Lib.hid (show NL.length ≤ 300 by rw [hNL]; have h1 := namesOf_len (stepsT Tn); rw [steps_len] at h1; have := HZ.out; omega)
    rw [← hNL] at ho1
    obtain ⟨P1, c1, rfl, -⟩ := ho1.form
    have PR := Lib.hid (refNames_any Tn _ Y (HTX.out.below hbY) (by have := HZ.out; omega))
    rw [← hNL] at PR
    have HO1 := Lib.hid ho1; have HBY := Lib.hid hbY
    clear ho1 hbY hNL j0 j1 j2 j3 j4 j5
    obtain ⟨j0, j1, j2, j3, j4, j5⟩ := HKX.out Y HBY.out
    go_wp2_with fail
    refine PR.out.mono ?_
    rintro e Z ⟨v2, rfl, ho2, hbZ⟩
    obtain ⟨P2, c2, rfl, -⟩ := ho2.form
    have hbZX := later HBY.out hbZ
    have HO1Z := Lib.hid (HO1.out.below hbZ); have HO2 := Lib.hid ho2
    have n0 := (boxed_below NX.out hbZX).cell; have w0 := (boxed_below QX.out hbZX).cell; have t0 := (boxed_below STX.out hbZX).cell
    have BZ := Lib.hid (later BX.out hbZX); have RZ := Lib.hid (boxed_below RX.out hbZX)
    have HDZ := Lib.hid ((hbZX.block D (Array.getElem?_eq_some_iff.1 HDX.out).1).trans HDX.out)
    have hcv : IntKind.i64.wrap st = st := by have := HSB.out; rw [IntKind.wrap_i64]; omega
    have hadd : IntKind.i64.wrap (st + 1) = st + 1 := by have := HSB.out; rw [IntKind.wrap_i64]; omega
    obtain ⟨K, hKN⟩ : ∃ K, K = NL.length := ⟨_, rfl⟩
    rw [← hKN] at HO1Z HO2 ⊢
    have hKB : K ≤ 300 := by rw [hKN]; exact HNB.out
    have HKN := Lib.hid hKN
    clear ho2 hbZ hbZX PR HO1 HBY HKX NX QX STX RX BX HDX hKN j0 j1 j2 j3 j4 j5
    obtain ⟨mn, hmn⟩ : ∃ mn : Int, mn = min (N : Int) (st + 1) := ⟨_, rfl⟩
    obtain rfl : n = mn := by rw [hmn]; exact HMN.out
    go_upto_region 18 with fail
    clear n0 w0 t0 hcv hadd hmn HMN
    go_wp2_with fail
    go_loopw [11] (fun i wr => ∃ j : Nat, j ≤ K ∧ i = .int .i64 j ∧ Hid (Below Z.heap.size Z wr)) (fun i _ => K - (intOf i).toNat)
    case atStart => exact ⟨0, Nat.zero_le _, rfl, Lib.hid (Below.refl _ _)⟩
    case round =>
      obtain ⟨wo, rfl⟩ : ∃ wo : World, wo = wr := ⟨_, rfl⟩
      obtain ⟨j, hj, rfl, HV⟩ := hrel
      by_cases hlt : j < K
      · obtain ⟨t, ht⟩ : ∃ t, NL[j]? = some t := ⟨_, List.getElem?_eq_getElem (by rw [← HKN.out]; exact hlt)⟩
        obtain ⟨g1, rfl, hc1, hl1⟩ := HO1Z.out.at_ ht
        obtain ⟨g2, rfl, hc2, hl2⟩ := HO2.out.at_ ht
        have x1 := (HV.out.cell (p := ⟨g1, j, none⟩) hl1).trans hc1
        have x2 := (HV.out.cell (p := ⟨g2, j, none⟩) hl2).trans hc2
        have hse := str_eqt t
        have hse2 : (t.toList != t.toList) = false := by simp
        clear ht hc1 hc2
        go_wp2_with fail
        go_region
        go_wp2_with fail
        go_roundw
        case rel => exact ⟨j + 1, by omega, by go_num, Lib.hid (by repeat (first | exact HV.out | refine Below.drew ?_))⟩
        case measure => first | (simp [intOf]; done) | (simp [intOf]; omega)
      · have r0 := (boxed_below RZ.out HV.out).cell; have r1 := (boxed_below RZ.out HV.out).frozen
        have hdw := HDW.out
        have hd9 : (wo.setCell ⟨w.heap.size + 1 + 1, 0, none⟩ (.bool true)).heap[D]? = some (.deferred (some [])) := (Below.heap_setCell _ _ _ _ hdw.1).trans ((HV.out.block D (Array.getElem?_eq_some_iff.1 HDZ.out).1).trans HDZ.out)
        have hr9 : ((wo.setCell ⟨w.heap.size + 1 + 1, 0, none⟩ (.bool true)).putObj D (.deferred none)).cell? ⟨w.heap.size + 1 + 1, 0, none⟩ = some (.bool true) :=
          cell_put ((boxed_below RZ.out HV.out).set (.bool true)).cell hd9 rfl
        have hb9 : Below w.heap.size w ((wo.setCell ⟨w.heap.size + 1 + 1, 0, none⟩ (.bool true)).putObj D (.deferred none)) := by
          have h1 := (later BZ.out HV.out).setCell (p := ⟨w.heap.size + 1 + 1, 0, none⟩) (by show w.heap.size ≤ w.heap.size + 1 + 1; omega) (.bool true)
          exact h1.grown (grownBy_putObj' _ D (.deferred none)) h1.size (fun q e => by cases e; exact hdw.2)
        have HD9 := Lib.hid hd9; have HR9 := Lib.hid hr9; have HB9 := Lib.hid hb9
        clear hd9 hr9 hb9 hdw
        go_wp2_with fail
        have hr := HR9.out
        refine ⟨by simp, .inl ⟨_, _, rfl, run_takeDeferred HD9.out, ?_⟩⟩
        refine ⟨.bool true, by simp [results, Try.results5, go_sem, hr], rfl, HB9.out⟩
  case stop =>
    rintro D c Ri p X hD hpre ⟨rfl, ⟨h1, h2, h3, h4, h5, h6⟩, hps⟩ hK
    have hpl : p.length ≤ N := by rw [HN.out]; exact hpre.length_le
    obtain ⟨n, hn⟩ : ∃ n : Int, (p.length : Int) = n := ⟨_, rfl⟩
    have hmin : n = min (N : Int) (st + 1) := by omega
    clear hpre hpl hps
    refine wpIn_wide.2 ?_
    rw [hn] at h1
    have hs3 := S3.out; have hs7 := HLT.out
    have hold : ∀ q, q < V5.heap.size → q ≠ V4.heap.size → X.heap[q]? = V5.heap[q]? := h2
    have hbX : Below w.heap.size w X := ⟨h3.trans A5.out.os, h4.trans A5.out.tape, h5.trans A5.out.output, Nat.le_trans A5.out.size h6, fun q hq => (h2 q (by have := A5.out.size; omega) (by omega)).trans (A5.out.block q hq)⟩
    have TX := (HT5.out.carry h6 (fun q e => h2 q (by omega) (by omega))).rd
    obtain ⟨g0, g1, g2, g3, g4, g5⟩ := HK5.out V5 (Below.refl _ _)
    have hcw : ∀ (i : Nat) (u : Value), V5.cell? ⟨w.heap.size, i, none⟩ = some u → X.cell? ⟨w.heap.size, i, none⟩ = some u := fun i u h => cell_as h (hold w.heap.size (by omega) (by omega))
    have j0 := hcw _ _ g0; have j1 := hcw _ _ g1; have j2 := hcw _ _ g2; have j3 := hcw _ _ g3; have j4 := hcw _ _ g4; have j5 := hcw _ _ g5
    have hwX : w.heap.size < X.heap.size := by omega
    have HKX := Lib.hid (fun V (hb : Below X.heap.size X V) => show V.cell? ⟨w.heap.size, 0, none⟩ = some (.int .i64 k) ∧ V.cell? ⟨w.heap.size, 1, none⟩ = some (.int .i64 f) ∧ V.cell? ⟨w.heap.size, 2, none⟩ = some (.int .i64 a) ∧ V.cell? ⟨w.heap.size, 3, none⟩ = some (.string s) ∧ V.cell? ⟨w.heap.size, 4, none⟩ = some (.slice Aa na ca) ∧ V.cell? ⟨w.heap.size, 5, none⟩ = some (.slice B mm d) from
      ⟨(hb.cell (p := ⟨w.heap.size, 0, none⟩) hwX).trans j0, (hb.cell (p := ⟨w.heap.size, 1, none⟩) hwX).trans j1, (hb.cell (p := ⟨w.heap.size, 2, none⟩) hwX).trans j2, (hb.cell (p := ⟨w.heap.size, 3, none⟩) hwX).trans j3, (hb.cell (p := ⟨w.heap.size, 4, none⟩) hwX).trans j4, (hb.cell (p := ⟨w.heap.size, 5, none⟩) hwX).trans j5⟩)
    have NX := Lib.hid h1; have QX := Lib.hid (boxed_as Q5.out (hold w3.heap.size (by omega) (by omega))); have STX := Lib.hid (boxed_as ST5.out (hold _ (by omega) (by omega))); have RX := Lib.hid (boxed_as R5.out (hold _ (by omega) (by omega)))
    have HDX := Lib.hid hK; have BX := Lib.hid hbX; have HTX := Lib.hid TX; have HMN := Lib.hid hmin
    have HDW := Lib.hid (show D ≠ w.heap.size + 1 + 1 ∧ w.heap.size ≤ D by omega)
    clear h1 h2 h3 h4 h5 h6 hs3 hs7 hold hbX TX g0 g1 g2 g3 g4 g5 hcw hwX hD hK hmin hn HSEQ A5 HT5 HK5 N5 Q5 R5 ST5
    go_wp2_with fail
    refine (names_any Tn _ X HTX.out (by have := HD.out; omega) (by have := HZ.out; omega)).mono ?_
    rintro e Y ⟨v1, rfl, ho1, hbY⟩
    obtain ⟨NL, hNL⟩ : ∃ NL, NL = namesOf (stepsT Tn) := ⟨_, rfl⟩
    have HNB := Lib.hid (show NL.length ≤ 300 by rw [hNL]; have h1 := namesOf_len (stepsT Tn); rw [steps_len] at h1; have := HZ.out; omega)
    rw [← hNL] at ho1
    obtain ⟨P1, c1, rfl, -⟩ := ho1.form
    have PR := Lib.hid (refNames_any Tn _ Y (HTX.out.below hbY) (by have := HZ.out; omega))
    rw [← hNL] at PR
    have HO1 := Lib.hid ho1; have HBY := Lib.hid hbY
    clear ho1 hbY hNL j0 j1 j2 j3 j4 j5
    obtain ⟨j0, j1, j2, j3, j4, j5⟩ := HKX.out Y HBY.out
    go_wp2_with fail
    refine PR.out.mono ?_
    rintro e Z ⟨v2, rfl, ho2, hbZ⟩
    obtain ⟨P2, c2, rfl, -⟩ := ho2.form
    have hbZX := later HBY.out hbZ
    have HO1Z := Lib.hid (HO1.out.below hbZ); have HO2 := Lib.hid ho2
    have n0 := (boxed_below NX.out hbZX).cell; have w0 := (boxed_below QX.out hbZX).cell; have t0 := (boxed_below STX.out hbZX).cell
    have BZ := Lib.hid (later BX.out hbZX); have RZ := Lib.hid (boxed_below RX.out hbZX)
    have HDZ := Lib.hid ((hbZX.block D (Array.getElem?_eq_some_iff.1 HDX.out).1).trans HDX.out)
    have hcv : IntKind.i64.wrap st = st := by have := HSB.out; rw [IntKind.wrap_i64]; omega
    have hadd : IntKind.i64.wrap (st + 1) = st + 1 := by have := HSB.out; rw [IntKind.wrap_i64]; omega
    obtain ⟨K, hKN⟩ : ∃ K, K = NL.length := ⟨_, rfl⟩
    rw [← hKN] at HO1Z HO2 ⊢
    have hKB : K ≤ 300 := by rw [hKN]; exact HNB.out
    have HKN := Lib.hid hKN
    clear ho2 hbZ hbZX PR HO1 HBY HKX NX QX STX RX BX HDX hKN j0 j1 j2 j3 j4 j5
    obtain ⟨mn, hmn⟩ : ∃ mn : Int, mn = min (N : Int) (st + 1) := ⟨_, rfl⟩
    obtain rfl : n = mn := by rw [hmn]; exact HMN.out
    go_upto_region 18 with fail
    clear n0 w0 t0 hcv hadd hmn HMN
    go_wp2_with fail
    go_loopw [11] (fun i wr => ∃ j : Nat, j ≤ K ∧ i = .int .i64 j ∧ Hid (Below Z.heap.size Z wr)) (fun i _ => K - (intOf i).toNat)
    case atStart => exact ⟨0, Nat.zero_le _, rfl, Lib.hid (Below.refl _ _)⟩
    case round =>
      obtain ⟨wo, rfl⟩ : ∃ wo : World, wo = wr := ⟨_, rfl⟩
      obtain ⟨j, hj, rfl, HV⟩ := hrel
      by_cases hlt : j < K
      · obtain ⟨t, ht⟩ : ∃ t, NL[j]? = some t := ⟨_, List.getElem?_eq_getElem (by rw [← HKN.out]; exact hlt)⟩
        obtain ⟨g1, rfl, hc1, hl1⟩ := HO1Z.out.at_ ht
        obtain ⟨g2, rfl, hc2, hl2⟩ := HO2.out.at_ ht
        have x1 := (HV.out.cell (p := ⟨g1, j, none⟩) hl1).trans hc1
        have x2 := (HV.out.cell (p := ⟨g2, j, none⟩) hl2).trans hc2
        have hse := str_eqt t
        have hse2 : (t.toList != t.toList) = false := by simp
        clear ht hc1 hc2
        go_wp2_with fail
        go_region
        go_wp2_with fail
        go_roundw
        case rel => exact ⟨j + 1, by omega, by go_num, Lib.hid (by repeat (first | exact HV.out | refine Below.drew ?_))⟩
        case measure => first | (simp [intOf]; done) | (simp [intOf]; omega)
      · have r0 := (boxed_below RZ.out HV.out).cell; have r1 := (boxed_below RZ.out HV.out).frozen
        have hdw := HDW.out
        have hd9 : (wo.setCell ⟨w.heap.size + 1 + 1, 0, none⟩ (.bool true)).heap[D]? = some (.deferred (some [])) := (Below.heap_setCell _ _ _ _ hdw.1).trans ((HV.out.block D (Array.getElem?_eq_some_iff.1 HDZ.out).1).trans HDZ.out)
        have hr9 : ((wo.setCell ⟨w.heap.size + 1 + 1, 0, none⟩ (.bool true)).putObj D (.deferred none)).cell? ⟨w.heap.size + 1 + 1, 0, none⟩ = some (.bool true) :=
          cell_put ((boxed_below RZ.out HV.out).set (.bool true)).cell hd9 rfl
        have hb9 : Below w.heap.size w ((wo.setCell ⟨w.heap.size + 1 + 1, 0, none⟩ (.bool true)).putObj D (.deferred none)) := by
          have h1 := (later BZ.out HV.out).setCell (p := ⟨w.heap.size + 1 + 1, 0, none⟩) (by show w.heap.size ≤ w.heap.size + 1 + 1; omega) (.bool true)
          exact h1.grown (grownBy_putObj' _ D (.deferred none)) h1.size (fun q e => by cases e; exact hdw.2)
        have HD9 := Lib.hid hd9; have HR9 := Lib.hid hr9; have HB9 := Lib.hid hb9
        clear hd9 hr9 hb9 hdw
        go_wp2_with fail
        have hr := HR9.out
        refine ⟨by simp, .inl ⟨_, _, rfl, run_takeDeferred HD9.out, ?_⟩⟩
        refine ⟨.bool true, by simp [results, Try.results5, go_sem, hr], rfl, HB9.out⟩
end Go.Proofs.Ytbcnilkenkmabaa.tr
