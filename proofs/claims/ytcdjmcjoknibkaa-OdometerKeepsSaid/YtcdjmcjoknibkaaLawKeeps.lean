/- The walk of OdometerKeeps. -/
import Derived.Test.YtcdjmcjoknibkaaLawOrders4
import Derived.Deep.CutBlock
namespace Go.Proofs.Ytcdjmcjoknibkaa.laws
open Go.ChangeShapes Go.WideShapes Go.ChangeAt Go.RowKit Go.Shelf Go.Proofs.Ytcdjmcjoknibkaa.mem Go.Proofs.Ytcdjmcjoknibkaa.prod Go.Proofs.Ytcdjmcjoknibkaa.shp Go.Proofs.Ytcdjmcjoknibkaa.eql Go.Proofs.Ytcdjmcjoknibkaa.strd Go.Proofs.Ytcdjmcjoknibkaa.gam Go.Proofs.Ytcdjmcjoknibkaa.sml Go.Proofs.Ytcdjmcjoknibkaa.all Go.Proofs.Ytcdjmcjoknibkaa.odo Go.Proofs.Ytcdjmcjoknibkaa.iter
set_option linter.unusedVariables false
attribute [local go_sem] Oper.semAt_some

theorem Chg.wider {S S' : Nat → Prop} {A B : World} (h : Chg S A B) (hS : ∀ i, S i → S' i) : Chg S' A B := ⟨h.os, h.tape, h.output, h.size, fun i hi hn => h.block i hi (fun e => hn (hS i e))⟩
theorem chg_new {S S' : Nat → Prop} {A B C : World} (h : Chg S A B) (k : Chg S' B C) (hS : ∀ i, S' i → i < A.heap.size → S i) : Chg S A C :=
  ⟨k.os.trans h.os, k.tape.trans h.tape, k.output.trans h.output, Nat.le_trans h.size k.size, fun i hi hn => (k.block i (Nat.lt_of_lt_of_le hi h.size) (fun e => hn (hS i e hi))).trans (h.block i hi hn)⟩

set_option maxHeartbeats 1000000 in
theorem keeps_wrong (A B : Option Addr) (n m c d : Nat) (lo hi : List Int) (w : World) (hx : In w A n c lo) (hy : In w B m d hi) (h : fewB lo hi 100 = false) :
    Calls Try.prog 5 #[.slice A n c, .slice B m d] w (Holds w) := by
  have PF := fun W h1 h2 => Lib.hid (few_says (A := A) (B := B) (n := n) (m := m) (c := c) (d := d) (w := W) false h hx.len hy.len h1 h2 (by omega) (by omega))
  have HX := Lib.hid hx.rd; have HY := Lib.hid hy.rd
  clear hx hy h
  refine (callsIn_wide (n := 3)).1 ?_
  refine callsIn_of_wp_marks Try.func5 rfl trivial ?_ rfl
  simp only [Try.ntmps5, List.size_toArray, List.length_cons, List.length_nil, Nat.reduceAdd, Nat.reduceSub, Array.replicate_succ, Array.replicate_zero, List.push_toArray, List.append_toArray, List.nil_append, List.cons_append]
  refine wpIn_wide.2 ?_
  obtain ⟨w0, hw0⟩ : ∃ w0, w0 = ((w.alloc (.cells #[.slice A n c] 22)).alloc (.cells #[.slice B m d] 22)).alloc (.cells #[.bool false] 4) := ⟨_, rfl⟩
  have T0 := Lib.hid (show Aft w w0 by rw [hw0]; exact (((Aft.refl w).alloc _).alloc _).alloc _)
  have B1 := Lib.hid (show Boxed w0 w.heap.size 22 (.slice A n c) by rw [hw0]; exact ((Boxed.new w _ _).alloc _).alloc _)
  have B2 := Lib.hid (show Boxed w0 (w.heap.size + 1) 22 (.slice B m d) by have := (Boxed.new (w.alloc (.cells #[.slice A n c] 22)) 22 (.slice B m d)).alloc (.cells #[.bool false] 4); rw [World.size_alloc] at this; rw [hw0]; exact this)
  have B3 := Lib.hid (show Boxed w0 (w.heap.size + 1 + 1) 4 (.bool false) by have := Boxed.new ((w.alloc (.cells #[.slice A n c] 22)).alloc (.cells #[.slice B m d] 22)) 4 (.bool false); rw [World.size_alloc, World.size_alloc] at this; rw [hw0]; exact this)
  go_upto_region 1 with fail
  rw [← hw0]
  have HSZ := Lib.hid (show w.heap.size + 3 = w0.heap.size by rw [hw0]; simp)
  clear hw0
  go_wp2_with fail
  refine (awake_true _).mono ?_
  rintro e w1 ⟨rfl, hb⟩
  have T1 := Lib.hid (T0.out.call hb)
  have B11 := Lib.hid (boxed_below B1.out hb)
  have B12 := Lib.hid (boxed_below B2.out hb)
  have B13 := Lib.hid (boxed_below B3.out hb)
  have hc1 := B11.out.cell
  have hc2 := B12.out.cell
  clear hb T0 B1 B2 B3
  go_wp2_with fail
  refine (PF _ (T1.out.rd HX.out) (T1.out.rd HY.out)).out.mono ?_
  rintro e w2 ⟨rfl, hb⟩
  have T2 := Lib.hid (T1.out.call hb)
  have B23 := Lib.hid (boxed_below B13.out hb)
  clear hb T1 B11 B12 B13 hc1 hc2
  go_wp2_with fail
  refine (awake_true _).mono ?_
  rintro e w3 ⟨rfl, hb⟩
  have T3 := Lib.hid (T2.out.call hb)
  have B33 := Lib.hid (boxed_below B23.out hb)
  have hc2 := B33.out.cell
  have hf2 := B33.out.frozen
  clear hb T2 B23
  go_wp2_with fail
  have hc3 : (w3.setCell ⟨w.heap.size + 1 + 1, 0, none⟩ (.bool true)).cell? ⟨w.heap.size + 1 + 1, 0, none⟩ = some (.bool true) := set_same hc2
  exact ⟨_, by simp [results, Try.results5, go_sem, hc3], rfl, Below.setCell T3.out (p := ⟨w.heap.size + 1 + 1, 0, none⟩) (by show w.heap.size ≤ w.heap.size + 1 + 1; omega) _⟩

set_option maxHeartbeats 4000000 in
set_option maxRecDepth 100000 in
theorem keeps_right (A B : Option Addr) (n m c d : Nat) (lo hi : List Int) (w : World) (hx : In w A n c lo) (hy : In w B m d hi) (h : fewB lo hi 100 = true) :
    Calls Try.prog 5 #[.slice A n c, .slice B m d] w (Holds w) := by
  have PF := fun W h1 h2 => Lib.hid (few_says (A := A) (B := B) (n := n) (m := m) (c := c) (d := d) (w := W) true h hx.len hy.len h1 h2 (by omega) (by omega))
  obtain ⟨hll, hl5, hla, hlb, hmany⟩ := few_out h
  obtain rfl : n = m := by rw [← hx.rd.1, ← hy.rd.1]; exact hll
  have hn5 : n ≤ 5 := by rw [← hx.rd.1]; exact hl5
  have hD0 := prodL_max (xs := dimsL lo hi) dims_nonneg
  have hla2 : ∀ x ∈ lo, -4294967296 ≤ x ∧ x ≤ 4294967296 := fun x hx => by have := hla x hx; omega
  have hlb2 : ∀ x ∈ hi, -4294967296 ≤ x ∧ x ≤ 4294967296 := fun x hx => by have := hlb x hx; omega
  obtain ⟨N, hN⟩ := Int.eq_ofNat_of_zero_le hD0.1
  have hN3 : N ≤ 30000 := by omega
  have hRL : (rngs lo hi).length = N := by rw [rng_len hll, hN]; simp
  have PR := fun W (h1 : Rd W A n lo) (h2 : Rd W B n hi) => Lib.hid (refBetween_any A B n c d lo hi W (by omega) h1 h2 hla2 hlb2 (dims_le hla hlb) (fun k => by have := (prodL_take_le (xs := dimsL lo hi) dims_nonneg k).2; omega))
  have PB := fun W (P Q : Option Addr) (e f : Nat) (h1 : Rd W P n lo) (h2 : Rd W Q n hi) (h3 : P = none → e = 0) (h4 : Q = none → f = 0) => Lib.hid (between_any P Q n n e f lo hi W (by omega) (by omega) h1 h2 h3 h4)
  have PQ := Lib.hid (fun (v1 v2 : Value) (w' : World) b h1 h2 h3 h4 h5 => between_seq (3 - 1) b n v1 v2 lo hi w' h1 h2 h3 h4 h5 hx.rd.1 hy.rd.1 (by omega) hla2 hlb2)
  have HX := Lib.hid hx.rd; have HY := Lib.hid hy.rd; have HRL := Lib.hid hRL
  have HCA := Lib.hid hx.none_; have HCB := Lib.hid hy.none_
  have HL1 := Lib.hid (show ([] : List Int).length + n ≤ 1099511627776 by simp; omega)
  have HLX := Lib.hid (show lo.length = n from hx.rd.1); have HLY := Lib.hid (show hi.length = n from hy.rd.1)
  clear hx hy h hll hl5 hla hlb hmany hD0 hla2 hlb2 hN hRL
  refine (callsIn_wide (n := 3)).1 ?_
  refine callsIn_of_wp_marks Try.func5 rfl trivial ?_ rfl
  simp only [Try.ntmps5, List.size_toArray, List.length_cons, List.length_nil, Nat.reduceAdd, Nat.reduceSub, Array.replicate_succ, Array.replicate_zero, List.push_toArray, List.append_toArray, List.nil_append, List.cons_append]
  refine wpIn_wide.2 ?_
  obtain ⟨w0, hw0⟩ : ∃ w0, w0 = ((w.alloc (.cells #[.slice A n c] 22)).alloc (.cells #[.slice B n d] 22)).alloc (.cells #[.bool false] 4) := ⟨_, rfl⟩
  have T0 := Lib.hid (show Aft w w0 by rw [hw0]; exact (((Aft.refl w).alloc _).alloc _).alloc _)
  have B1 := Lib.hid (show Boxed w0 w.heap.size 22 (.slice A n c) by rw [hw0]; exact ((Boxed.new w _ _).alloc _).alloc _)
  have B2 := Lib.hid (show Boxed w0 (w.heap.size + 1) 22 (.slice B n d) by have := (Boxed.new (w.alloc (.cells #[.slice A n c] 22)) 22 (.slice B n d)).alloc (.cells #[.bool false] 4); rw [World.size_alloc] at this; rw [hw0]; exact this)
  have B3 := Lib.hid (show Boxed w0 (w.heap.size + 1 + 1) 4 (.bool false) by have := Boxed.new ((w.alloc (.cells #[.slice A n c] 22)).alloc (.cells #[.slice B n d] 22)) 4 (.bool false); rw [World.size_alloc, World.size_alloc] at this; rw [hw0]; exact this)
  go_upto_region 1 with fail
  rw [← hw0]
  have HSZ := Lib.hid (show w.heap.size + 3 = w0.heap.size by rw [hw0]; simp)
  clear hw0
  go_wp2_with fail
  refine (awake_true _).mono ?_
  rintro e w1 ⟨rfl, hb⟩
  have T1 := Lib.hid (T0.out.call hb)
  have B11 := Lib.hid (boxed_below B1.out hb)
  have B12 := Lib.hid (boxed_below B2.out hb)
  have B13 := Lib.hid (boxed_below B3.out hb)
  have hc1 := B11.out.cell
  have hc2 := B12.out.cell
  have HSZ1 := Lib.hid (show w.heap.size + 3 ≤ w1.heap.size by have := hb.size; have := HSZ.out; omega)
  clear hb T0 B1 B2 B3 HSZ
  go_wp2_with fail
  refine (PF _ (T1.out.rd HX.out) (T1.out.rd HY.out)).out.mono ?_
  rintro e w2 ⟨rfl, hb⟩
  have T2 := Lib.hid (T1.out.call hb)
  have B21 := Lib.hid (boxed_below B11.out hb)
  have B22 := Lib.hid (boxed_below B12.out hb)
  have B23 := Lib.hid (boxed_below B13.out hb)
  have HSZ2 := Lib.hid (show w.heap.size + 3 ≤ w2.heap.size by have := hb.size; have := HSZ1.out; omega)
  clear hb T1 B11 B12 B13 hc1 hc2 HSZ1 PF
  -- a := append([]int{}, lo...)
  have HE1 := Lib.hid (own_empty w2)
  have HM1 := Lib.hid ((Below.refl w2.heap.size w2).alloc (Nat.le_refl _) (.cells #[] 3))
  have HS1 := Lib.hid (show w2.heap.size ≤ (w2.alloc (.cells #[] 3)).heap.size by simp)
  have HR1 := Lib.hid ((T2.out.rd HX.out).below HM1.out)
  have hc1 := (B21.out.alloc (.cells #[] 3)).cell
  go_upto_region 4 with (at_builtin; refine wpList_append rfl (.tmp 21) (.tmp 22) rfl _ _ [] rfl HE1.out _ _ _ lo rfl HR1.out HCA.out HL1.out HS1.out ?_; intro v3 w3 ho3 hg3 _; obtain ⟨Aa, ca, hv3, _, _, hna⟩ := ho3.form; rw [show ([] ++ lo : List Int).length = n from HLX.out] at hv3; subst hv3; have HO3 := Lib.hid (show mem.Own w3 w2.heap.size (.slice Aa n ca) lo from ho3); have HB3 := Lib.hid (Own.below_grown HM1.out HE1.out hg3 HS1.out); have HNA := Lib.hid hna; clear ho3 hg3 hna)
  obtain ⟨w4, hw4⟩ : ∃ w4, w4 = w3.alloc (.cells #[.slice Aa n ca] 22) := ⟨_, rfl⟩
  have T4b := HB3.out.alloc (Nat.le_trans (Nat.le_refl _) HB3.out.size) (.cells #[.slice Aa n ca] 22)
  rw [← hw4] at T4b
  have HB4 := Lib.hid (show Below w2.heap.size w2 w4 from T4b)
  have BA4 := Lib.hid (show Boxed w4 w3.heap.size 22 (.slice Aa n ca) by rw [hw4]; exact Boxed.new w3 _ _)
  have RA4 := Lib.hid (show Rd w4 Aa n lo by rw [hw4]; exact HO3.out.rd.below ((Below.refl _ _).alloc (Nat.le_refl _) _))
  have HSA := Lib.hid (show w2.heap.size ≤ w3.heap.size ∧ w3.heap.size + 1 = w4.heap.size from ⟨HB3.out.size, by rw [hw4]; simp⟩)
  rw [← hw4]
  clear hw4 T4b HO3 HB3 hc1
  -- b := append([]int{}, hi...)
  have HE5 := Lib.hid (own_empty w4)
  have HM5 := Lib.hid ((Below.refl w4.heap.size w4).alloc (Nat.le_refl _) (.cells #[] 3))
  have HS5 := Lib.hid (show w4.heap.size ≤ (w4.alloc (.cells #[] 3)).heap.size by simp)
  have HR5 := Lib.hid (((T2.out.call HB4.out).rd HY.out).below HM5.out)
  have hc1 := ((boxed_below B22.out HB4.out).alloc (.cells #[] 3)).cell
  go_upto_region 5 with (at_builtin; refine wpList_append rfl (.tmp 24) (.tmp 25) rfl _ _ [] rfl HE5.out _ _ _ hi rfl HR5.out HCB.out HL1.out HS5.out ?_; intro v5 w5 ho5 hg5 _; obtain ⟨Ab, cb, hv5, _, _, hnb⟩ := ho5.form; rw [show ([] ++ hi : List Int).length = n from HLY.out] at hv5; subst hv5; have HO5 := Lib.hid (show mem.Own w5 w4.heap.size (.slice Ab n cb) hi from ho5); have HB5 := Lib.hid (Own.below_grown HM5.out HE5.out hg5 HS5.out); have HNB := Lib.hid hnb; clear ho5 hg5 hnb)
  obtain ⟨w6, hw6⟩ : ∃ w6, w6 = w5.alloc (.cells #[.slice Ab n cb] 22) := ⟨_, rfl⟩
  have T6b := HB5.out.alloc (Nat.le_trans (Nat.le_refl _) HB5.out.size) (.cells #[.slice Ab n cb] 22)
  rw [← hw6] at T6b
  have HB6 := Lib.hid (show Below w4.heap.size w4 w6 from T6b)
  have BB6 := Lib.hid (show Boxed w6 w5.heap.size 22 (.slice Ab n cb) by rw [hw6]; exact Boxed.new w5 _ _)
  have RB6 := Lib.hid (show Rd w6 Ab n hi by rw [hw6]; exact HO5.out.rd.below ((Below.refl _ _).alloc (Nat.le_refl _) _))
  have HSB := Lib.hid (show w4.heap.size ≤ w5.heap.size ∧ w5.heap.size + 1 = w6.heap.size from ⟨HB5.out.size, by rw [hw6]; simp⟩)
  rw [← hw6]
  clear hw6 T6b HO5 HB5 hc1
  have HB26 := Lib.hid (HB4.out.trans (HB6.out.mono HB4.out.size))
  have T6 := Lib.hid (T2.out.call HB26.out)
  have B61 := Lib.hid (boxed_below B21.out HB26.out)
  have B62 := Lib.hid (boxed_below B22.out HB26.out)
  have B63 := Lib.hid (boxed_below B23.out HB26.out)
  have BA6 := Lib.hid (boxed_below BA4.out HB6.out)
  have RA6 := Lib.hid (RA4.out.below HB6.out)
  have hc1 := B61.out.cell
  have hc2 := B62.out.cell
  clear B21 B22 B23 BA4 RA4 HE1 HM1 HS1 HR1 HE5 HM5 HS5 HR5 T2 HB4 HB6 HB26
  go_wp2_with fail
  refine (PR _ (T6.out.rd HX.out) (T6.out.rd HY.out)).out.mono ?_
  rintro e w7 ⟨Q, C, rfl, hom, hq1, hq2, hq3, hb⟩
  rw [HRL.out] at hom hq1
  simp only [HRL.out]
  obtain ⟨w8, hw8⟩ : ∃ w8, w8 = w7.alloc (.cells #[.slice Q N C] 25) := ⟨_, rfl⟩
  have hb8 : Below w6.heap.size w6 w8 := by rw [hw8]; exact hb.alloc hb.size _
  have T8 := Lib.hid (T6.out.call hb8)
  have B81 := Lib.hid (boxed_below B61.out hb8)
  have B82 := Lib.hid (boxed_below B62.out hb8)
  have B83 := Lib.hid (boxed_below B63.out hb8)
  have BA8 := Lib.hid (boxed_below BA6.out hb8)
  have BB8 := Lib.hid (boxed_below BB6.out hb8)
  have RA8 := Lib.hid (RA6.out.below hb8)
  have RB8 := Lib.hid (RB6.out.below hb8)
  have BW8 := Lib.hid (show Boxed w8 w7.heap.size 25 (.slice Q N C) by rw [hw8]; exact Boxed.new w7 _ _)
  have HM8 := Lib.hid (show RdM w8 Q N (rngs lo hi) by rw [hw8]; exact hom.rdM.below ((Below.refl _ _).alloc (Nat.le_refl _) _))
  have HSC := Lib.hid (show w6.heap.size ≤ w7.heap.size ∧ w7.heap.size + 1 = w8.heap.size from ⟨hb.size, by rw [hw8]; simp⟩)
  have HW8 := Lib.hid hw8
  have hca := BA8.out.cell
  have hcb := BB8.out.cell
  have PB9 := PB w8 Aa Ab ca cb RA8.out RB8.out HNA.out HNB.out
  clear hom hq1 hq2 hq3 hb hb8 hw8 hc1 hc2 B61 B62 B63 BA6 BB6 RA6 RB6 T6 PR PB
  go_upto_region 6 with fail
  rw [← HW8.out]
  go_wp2_with fail
  refine PB9.out.mono ?_
  rintro e w9 ⟨v1, v2, rfl, hq1, hq2, ho1, ho2, hb⟩
  have hs3 : w8.heap.size + 2 ≤ w9.heap.size := by have := World.block_lt_of_cell? _ _ hq2; simp at this ⊢; omega
  have HSEQ := Lib.hid (PQ.out v1 v2 w9 _ hs3 hq1 hq2 ho1 ho2)
  have HB9 := Lib.hid hb
  have HSD := Lib.hid hs3
  have hfe := func_eql
  clear hs3 hq1 hq2 ho1 ho2 hb hca hcb PB9 PQ HW8
  go_wp2_with fail
  clear hfe
  obtain ⟨w10, hw10⟩ : ∃ w10, w10 = w9.alloc (.cells #[.int .i64 0] 3) := ⟨_, rfl⟩
  rw [← hw10]
  have HB10 := Lib.hid (show Below w9.heap.size w9 w10 by rw [hw10]; exact (Below.refl _ _).alloc (Nat.le_refl _) _)
  have BK10 := Lib.hid (show Boxed w10 w9.heap.size 3 (.int .i64 0) by rw [hw10]; exact Boxed.new w9 _ _)
  have HSE := Lib.hid (show w9.heap.size + 1 = w10.heap.size by rw [hw10]; simp)
  have HB810 := Lib.hid (show Below w8.heap.size w8 w10 from HB9.out.trans (HB10.out.mono HB9.out.size))
  have HORD := Lib.hid (show w.heap.size + 3 ≤ w3.heap.size ∧ w3.heap.size < w5.heap.size ∧ w5.heap.size < w7.heap.size ∧ w7.heap.size < w8.heap.size ∧ w8.heap.size + 2 ≤ w9.heap.size by
    have := HSZ2.out; have := HSA.out; have := HSB.out; have := HSC.out; have := HSD.out; omega)
  clear hw10 HSZ2 HSA HSB HSC HSD HB9
  refine (wpIn_wide (n := 3)).1 ?_
  refine wpIn_iterate rfl (fun h => by cases h) (gf := 24) rfl trivial (Hand := mem.Own) (enters_of Try.func24 (by kernel_rfl) rfl) (fun _ _ _ _ _ _ h1 h2 h3 => own_put h1 h2 h3) HSEQ.out HB10.out HB10.out.size rfl
    (fun r pre W => Chg (fun k => k = w9.heap.size) w10 W ∧ Boxed W w9.heap.size 3 (.int .i64 (pre.length : Int)) ∧ (∀ k, r = some k → w10.heap.size ≤ k))
    (fun _ _ _ _ => False) ?hI (fun _ _ _ _ _ _ h _ _ => h) ?h0 ?round ?done ?stop
  case hI =>
    rintro r s A C row ⟨h1, h2, h3⟩ hg hm
    exact ⟨h1.grown_new hg (fun k e => (hm k e).1), mild_boxed h2 hg hm (fun e => by have := h3 _ e; have := HSE.out; omega), h3⟩
  case h0 =>
    intro r hr
    exact ⟨Chg.refl _ _, BK10.out, hr⟩
  case round =>
    rintro l r pre y v A' C' W hBl hlA hlo hr _ ⟨hch, hbk, hrB⟩ hpre hAW hh
    have hy : (rngs lo hi)[pre.length]? = some y := by
      obtain ⟨t, ht⟩ := hpre
      rw [← ht]
      simp
    have hkN : pre.length < N := by
      rw [← HRL.out]
      exact (List.getElem?_eq_some_iff.1 hy).1
    obtain ⟨P, m, rfl, hm1, hm2, _⟩ := hh.form
    have h8 : Below w8.heap.size w8 W := HB810.out.trans (hch.below (by have := HORD.out; have := HSE.out; omega) (fun k e => by have := HORD.out; omega))
    have tW : Aft w W := T8.out.call h8
    have hM := HM8.out.below h8
    obtain ⟨adw, Pw, cw, rfl, _, hcw, hrw, hlw, hmw, _⟩ := hM.at_ hy
    have hml : y.length ≤ maxLen := Nat.le_trans hlw hmw
    have PE := Lib.hid (refEqual_at (c := m) (d := cw) (w := W) true (eq_of (rfl : y = y)) hml hml hh.rd hrw)
    have hck := hbk.cell
    have hcb := (boxed_below BW8.out h8).cell
    have HBK := Lib.hid hbk; have HCH := Lib.hid hch; have HRB := Lib.hid hrB; have HR := Lib.hid hr; have HAW := Lib.hid hAW; have H8 := Lib.hid h8; have HH := Lib.hid hh
    have hi1 : (pre.length : Int) < (N : Int) := by omega
    have hy5 : y.length ≤ 5 := by rw [rng_each (by rw [HLX.out, HLY.out]) hy, HLX.out]; exact hn5
    clear hpre hh hM hy hrw hlw hmw hml hm1 hm2 hbk hch hrB hr hAW hlo h8 tW
    gi_wp2_with fail
    refine ⟨trivial, ?_⟩
    gi_wp2_with fail
    refine call_round PE.out ?_
    rintro e wa ⟨rfl, hba⟩
    have h8a : Below w8.heap.size w8 wa := H8.out.trans (hba.mono H8.out.size)
    have PE2 := Lib.hid (refEqual_at (c := ca) (d := c) (w := wa) true (eq_of (rfl : lo = lo)) (show n ≤ maxLen by unfold maxLen; omega) (show n ≤ maxLen by unfold maxLen; omega) (RA8.out.below h8a) ((T8.out.call h8a).rd HX.out))
    have hc1 := (boxed_below BA8.out h8a).cell
    have hc2 := (boxed_below B81.out h8a).cell
    have H8A := Lib.hid h8a; have HBA := Lib.hid hba
    clear hck hcb hcw PE hba h8a
    gi_wp2_with fail
    refine call_round PE2.out ?_
    rintro e wb ⟨rfl, hbb⟩
    have h8b : Below w8.heap.size w8 wb := H8A.out.trans (hbb.mono H8A.out.size)
    have PE3 := Lib.hid (refEqual_at (c := cb) (d := d) (w := wb) true (eq_of (rfl : hi = hi)) (show n ≤ maxLen by unfold maxLen; omega) (show n ≤ maxLen by unfold maxLen; omega) (RB8.out.below h8b) ((T8.out.call h8b).rd HY.out))
    have hc3 := (boxed_below BB8.out h8b).cell
    have hc4 := (boxed_below B82.out h8b).cell
    have HBB := Lib.hid (HBA.out.trans (hbb.mono HBA.out.size))
    clear hc1 hc2 PE2 hbb h8b
    gi_wp2_with fail
    refine call_round PE3.out ?_
    rintro e wd ⟨rfl, hbd⟩
    have HBD := Lib.hid (HBB.out.trans (hbd.mono HBB.out.size))
    clear hc3 hc4 PE3 hbd
    gi_wp2_with fail
    have hlow : ∀ g, P = some ⟨g, 0, none⟩ → A'.heap.size ≤ g := fun g e => (HH.out.lt_ g (by rw [e]; rfl)).1
    have hblk : ∀ g, (Value.slice P y.length m).ownBlock = some g → A'.heap.size ≤ g ∧ ∃ o, W.heap[g]? = some o ∧ o.isCells = true := by
      intro g hg
      refine ⟨(HH.out.lt_ g hg).1, ?_⟩
      rcases HH.out.2 with ⟨e, _⟩ | ⟨g', cap, cur, e, _, hk, _⟩
      · rw [e] at hg; simp [Value.ownBlock] at hg
      · rw [e] at hg
        simp [Value.ownBlock] at hg
        subst hg
        exact ⟨_, hk, rfl⟩
    have HLOW := Lib.hid hblk
    have HST := Lib.hid (show ∃ ys, ys.length = y.length ∧ mem.Own wd A'.heap.size (.slice P y.length m) ys from ⟨y, rfl, HH.out.below HBD.out⟩)
    clear hlow hblk
    gi_loopw [11] (fun j wr => ∃ q : Nat, q ≤ y.length ∧ j = .int .i64 q ∧ Hid (∃ ys, ys.length = y.length ∧ mem.Own wr A'.heap.size (.slice P y.length m) ys) ∧ Hid (Chg (fun k => (Value.slice P y.length m).ownBlock = some k) W wr)) (fun j _ => y.length - (intOf j).toNat)
    case atStart => exact ⟨0, Nat.zero_le _, rfl, HST, Lib.hid ((Chg.refl _ W).call HBD.out)⟩
    case round =>
      obtain ⟨q, hq, rfl, HO, HC⟩ := hrel
      by_cases hql : q < y.length
      · obtain ⟨ys, hys, ho⟩ := HO.out
        obtain ⟨g, cap, e, _, _⟩ := World.ownsRow.form ho (by omega)
        obtain rfl : P = some ⟨g, 0, none⟩ := by injection e
        obtain ⟨z, hz⟩ : ∃ z, ys[q]? = some z := ⟨_, List.getElem?_eq_getElem (by omega)⟩
        have hcz := ho.cellAt hz
        have hfz := ho.frozenAt q
        have HO2 := Lib.hid (show ∃ zs, zs.length = y.length ∧ mem.Own (wr.setCell ⟨g, q, none⟩ (.int .i64 77)) A'.heap.size (.slice (some ⟨g, 0, none⟩) y.length m) zs from ⟨ys.set q 77, by rw [List.length_set]; exact hys, ho.set_ q 77⟩)
        have HC2 := Lib.hid (HC.out.set (p := ⟨g, q, none⟩) (.int .i64 77) rfl)
        have hi2 : (q : Int) < (y.length : Int) := by omega
        clear ho hz hys e
        gi_wp2_with fail
        go_roundw
        case rel => exact ⟨q + 1, by omega, by go_num, HO2, HC2⟩
        case measure => first | (simp [intOf]; done) | (simp [intOf]; omega)
      · have hbk := HC.out.boxed HBK.out (fun e => by have := (HLOW.out _ e).1; have := HSE.out; omega)
        have hck := hbk.cell
        have hfk := hbk.frozen
        have HBX := Lib.hid (hbk.set (.int .i64 ((pre.length : Int) + 1)))
        have hch : Chg (fun k => k = w9.heap.size ∨ (Value.slice P y.length m).ownBlock = some k) W (wr.setCell ⟨w9.heap.size, 0, none⟩ (.int .i64 ((pre.length : Int) + 1))) :=
          Chg.set (Chg.wider HC.out fun k e => .inr e) (p := ⟨w9.heap.size, 0, none⟩) _ (.inl rfl)
        have HCC := Lib.hid hch
        clear hbk hch
        gi_wp2_with fail
        have hs1 := HORD.out
        have hs2 := HSE.out
        refine ⟨HCC.out.keeps ?_, HCC.out.spares (Nat.le_trans (by omega) HAW.out.size) (fun k e => Nat.lt_of_lt_of_le (HR.out k e).2 HAW.out.size) ?_, chg_new HCH.out HCC.out ?_, ?_, HRB.out⟩
        · rintro k (rfl | e)
          · exact .inl (by omega)
          · exact .inr (HLOW.out k e).2
        · rintro k (rfl | e)
          · exact ⟨by omega, fun e => by have := HRB.out _ e; omega⟩
          · exact ⟨by have := (HLOW.out k e).1; omega, fun e' => by have := (HR.out _ e').2; have := (HLOW.out k e).1; omega⟩
        · rintro k (rfl | e) hk
          · rfl
          · have := (HLOW.out k e).1; omega
        · rw [List.length_append]
          exact HBX.out
  case done =>
    rintro D r W hD ⟨hch, hbk, hrB⟩ hK
    rw [HRL.out] at hbk
    have h8 : Below w8.heap.size w8 W := HB810.out.trans (hch.below (by have := HORD.out; have := HSE.out; omega) (fun k e => by have := HORD.out; omega))
    have b2 := boxed_below B83.out h8
    have hc2 := b2.cell
    have hf2 := b2.frozen
    have hc3 := (boxed_below BW8.out h8).cell
    have hc4 := hbk.cell
    have HK := Lib.hid hK; have HB2 := Lib.hid b2; have HBL := Lib.hid (show Below w.heap.size w W from T8.out.call h8)
    have hq : ((N : Int) == (N : Int)) = true := by simp
    clear b2 hch hbk hrB hK h8
    go_wp2_with fail
    obtain ⟨W2, hW2⟩ : ∃ W2, W2 = W.setCell ⟨w.heap.size + 1 + 1, 0, none⟩ (.bool true) := ⟨_, rfl⟩
    have hk2 : W2.heap[D]? = some (.deferred (some [])) := by rw [hW2]; exact (Below.heap_setCell W ⟨w.heap.size + 1 + 1, 0, none⟩ (.bool true) D (by have := HORD.out; have := HSE.out; simp; omega)).trans HK.out
    have hb2 : Boxed W2 (w.heap.size + 1 + 1) 4 (.bool true) := by rw [hW2]; exact HB2.out.set _
    have hbl2 : Below w.heap.size w W2 := by rw [hW2]; exact HBL.out.setCell (p := ⟨w.heap.size + 1 + 1, 0, none⟩) (by show w.heap.size ≤ w.heap.size + 1 + 1; omega) _
    rw [← hW2]
    have hcell : (W2.putObj D (.deferred none)).cell? ⟨w.heap.size + 1 + 1, 0, none⟩ = some (.bool true) := cell_kept hb2.cell (grownBy_putObj' _ D (.deferred none)) (fun r e => by cases e; exact ⟨_, hk2, rfl⟩)
    refine ⟨by simp, .inl ⟨_, _, rfl, run_takeDeferred hk2, ?_⟩⟩
    exact ⟨_, by simp [results, Try.results5, go_sem, hcell], rfl, hbl2.grown (grownBy_putObj' W2 D (.deferred none)) hbl2.size (fun k e => by cases e; have := HORD.out; have := HSE.out; omega)⟩
  case stop =>
    rintro D c r pre W _ _ h _
    exact h.elim

theorem walk_OdometerKeeps (A B : Option Addr) (n m c d : Nat) (lo hi : List Int) (w : World) (hx : In w A n c lo) (hy : In w B m d hi) :
    Calls Try.prog 5 #[.slice A n c, .slice B m d] w (Holds w) := by
  cases h : fewB lo hi 100
  · exact keeps_wrong A B n m c d lo hi w hx hy h
  · exact keeps_right A B n m c d lo hi w hx hy h
end Go.Proofs.Ytcdjmcjoknibkaa.laws
