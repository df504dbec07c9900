/- The walk of OdometerOrders. -/
import Derived.Test.YtcdjmcjoknibkaaLawShapes
import Derived.Deep.Cut
namespace Go.Proofs.Ytcdjmcjoknibkaa.laws
open Go.ChangeShapes Go.WideShapes Go.ChangeAt Go.RowKit Go.Shelf Go.Proofs.Ytcdjmcjoknibkaa.mem Go.Proofs.Ytcdjmcjoknibkaa.prod Go.Proofs.Ytcdjmcjoknibkaa.shp Go.Proofs.Ytcdjmcjoknibkaa.eql Go.Proofs.Ytcdjmcjoknibkaa.strd Go.Proofs.Ytcdjmcjoknibkaa.gam Go.Proofs.Ytcdjmcjoknibkaa.sml Go.Proofs.Ytcdjmcjoknibkaa.all Go.Proofs.Ytcdjmcjoknibkaa.odo Go.Proofs.Ytcdjmcjoknibkaa.iter
set_option linter.unusedVariables false
attribute [local go_sem] Oper.semAt_some

theorem dims_le : ∀ {lo hi : List Int}, (∀ x ∈ lo, -1000 ≤ x ∧ x ≤ 1000) → (∀ x ∈ hi, -1000 ≤ x ∧ x ≤ 1000) → ∀ x ∈ dimsL lo hi, x ≤ 65536
  | [], _, _, _, x, hx => by simp [dimsL] at hx
  | _ :: _, [], _, _, x, hx => by simp [dimsL] at hx
  | a :: la, b :: lb, h1, h2, x, hx => by
    rw [dims_cons] at hx
    rcases List.mem_cons.1 hx with rfl | hx
    · have := h1 a (by simp); have := h2 b (by simp); omega
    · exact dims_le (fun z hz => h1 z (by simp [hz])) (fun z hz => h2 z (by simp [hz])) x hx
theorem call_round {n l : Nat} {P : Program} {f : FuncId} {args : Array Value} {w : World} {R R' : Ending → World → Prop} (h : Calls P f args w R) (hr : ∀ e w', R e w' → R' e w') :
    Fence.wide.fn f ∧ CallsIn (Fence.wide.inRound l) n P f args w R' := ⟨trivial, CallsIn.inRound l ((callsIn_wide.2 h).mono hr)⟩

set_option maxHeartbeats 1000000 in
theorem orders_wrong (A B : Option Addr) (n m c d x : Nat) (lo hi : List Int) (w : World) (hx : In w A n c lo) (hy : In w B m d hi) (hx8 : x ≤ 255) (h : fewB lo hi 300 = false) :
    Calls Try.prog 3 #[.slice A n c, .slice B m d, .int .u8 (x : Int)] w (Holds w) := by
  have PF := fun W h1 h2 => Lib.hid (few_says (A := A) (B := B) (n := n) (m := m) (c := c) (d := d) (w := W) false h hx.len hy.len h1 h2 (by omega) (by omega))
  have HX := Lib.hid hx.rd; have HY := Lib.hid hy.rd
  clear hx hy h
  refine (callsIn_wide (n := 3)).1 ?_
  refine callsIn_of_wp_marks Try.func3 rfl trivial ?_ rfl
  simp only [Try.ntmps3, List.size_toArray, List.length_cons, List.length_nil, Nat.reduceAdd, Nat.reduceSub, Array.replicate_succ, Array.replicate_zero, List.push_toArray, List.append_toArray, List.nil_append, List.cons_append]
  refine wpIn_wide.2 ?_
  have T0 := Lib.hid (((Aft.refl w).alloc (.cells #[.int .u8 (x : Int)] 5)).alloc (.cells #[.bool false] 4))
  have B2 := Lib.hid (show Boxed ((w.alloc (.cells #[.int .u8 (x : Int)] 5)).alloc (.cells #[.bool false] 4)) (w.heap.size + 1) 4 (.bool false) by have := Boxed.new (w.alloc (.cells #[.int .u8 (x : Int)] 5)) 4 (.bool false); rwa [World.size_alloc] at this)
  go_wp2_with fail
  refine (awake_true _).mono ?_
  rintro e w1 ⟨rfl, hb⟩
  have T1 := Lib.hid (T0.out.call hb)
  have B12 := Lib.hid (boxed_below B2.out hb)
  clear hb T0 B2
  go_wp2_with fail
  refine (PF _ (T1.out.rd HX.out) (T1.out.rd HY.out)).out.mono ?_
  rintro e w2 ⟨rfl, hb⟩
  have T2 := Lib.hid (T1.out.call hb)
  have B22 := Lib.hid (boxed_below B12.out hb)
  clear hb T1 B12
  go_wp2_with fail
  refine (awake_true _).mono ?_
  rintro e w3 ⟨rfl, hb⟩
  have T3 := Lib.hid (T2.out.call hb)
  have B32 := Lib.hid (boxed_below B22.out hb)
  have hc2 := B32.out.cell
  have hf2 := B32.out.frozen
  clear hb T2 B22
  go_wp2_with fail
  have hc3 : (w3.setCell ⟨w.heap.size + 1, 0, none⟩ (.bool true)).cell? ⟨w.heap.size + 1, 0, none⟩ = some (.bool true) := set_same hc2
  exact ⟨_, by simp [results, Try.results3, go_sem, hc3], rfl, Below.setCell T3.out (p := ⟨w.heap.size + 1, 0, none⟩) (by simp) _⟩

set_option maxHeartbeats 4000000 in
theorem orders_right (A B : Option Addr) (n m c d x : Nat) (lo hi : List Int) (w : World) (hx : In w A n c lo) (hy : In w B m d hi) (hx8 : x ≤ 255) (h : fewB lo hi 300 = true) :
    Calls Try.prog 3 #[.slice A n c, .slice B m d, .int .u8 (x : Int)] w (Holds w) := by
  have PF := fun W h1 h2 => Lib.hid (few_says (A := A) (B := B) (n := n) (m := m) (c := c) (d := d) (w := W) true h hx.len hy.len h1 h2 (by omega) (by omega))
  obtain ⟨hll, hl5, hla, hlb, hmany⟩ := few_out h
  obtain rfl : n = m := by rw [← hx.rd.1, ← hy.rd.1]; exact hll
  have hn5 : n ≤ 5 := by rw [← hx.rd.1]; exact hl5
  have hD0 := prodL_max (xs := dimsL lo hi) dims_nonneg
  have hla2 : ∀ x ∈ lo, -4294967296 ≤ x ∧ x ≤ 4294967296 := fun x hx => by have := hla x hx; omega
  have hlb2 : ∀ x ∈ hi, -4294967296 ≤ x ∧ x ≤ 4294967296 := fun x hx => by have := hlb x hx; omega
  obtain ⟨N, hN⟩ := Int.eq_ofNat_of_zero_le hD0.1
  have hN3 : N ≤ 30000 := by omega
  have hRL : (rngs lo hi).length = N := by rw [rng_len hll, hN]; simp
  have PR := fun W (h1 : Rd W A n lo) (h2 : Rd W B n hi) => Lib.hid (refBetween_any A B n c d lo hi W (by omega) h1 h2 hla2 hlb2 (dims_le hla hlb) (fun k => by have := (prodL_take_le (xs := dimsL lo hi) dims_nonneg k).2; omega))
  have PK := fun W (h1 : Rd W A n lo) (h2 : Rd W B n hi) => Lib.hid (collect_any A B n c d lo hi W (by omega) h1 h2 hx.none_ hy.none_ hla2 hlb2 (by omega))
  have PC := fun W (h1 : Rd W A n lo) (h2 : Rd W B n hi) => Lib.hid (count_at (c := c) (d := d) (N : Int) hN (by omega) (by omega) h1 h2 hla2 hlb2)
  have PB := fun W (h1 : Rd W A n lo) (h2 : Rd W B n hi) => Lib.hid (between_any A B n n c d lo hi W (by omega) (by omega) h1 h2 hx.none_ hy.none_)
  have PQ := Lib.hid (fun (v1 v2 : Value) (w' : World) b h1 h2 h3 h4 h5 => between_seq (3 - 1) b n v1 v2 lo hi w' h1 h2 h3 h4 h5 hx.rd.1 hy.rd.1 (by omega) hla2 hlb2)
  have HX := Lib.hid hx.rd; have HY := Lib.hid hy.rd; have HRL := Lib.hid hRL
  clear hx hy h hll hl5 hla hlb hmany hn5 hD0 hla2 hlb2 hN hRL
  refine (callsIn_wide (n := 3)).1 ?_
  refine callsIn_of_wp_marks Try.func3 rfl trivial ?_ rfl
  simp only [Try.ntmps3, List.size_toArray, List.length_cons, List.length_nil, Nat.reduceAdd, Nat.reduceSub, Array.replicate_succ, Array.replicate_zero, List.push_toArray, List.append_toArray, List.nil_append, List.cons_append]
  refine wpIn_wide.2 ?_
  have T0 := Lib.hid (((Aft.refl w).alloc (.cells #[.int .u8 (x : Int)] 5)).alloc (.cells #[.bool false] 4))
  have B1 := Lib.hid ((Boxed.new w 5 (.int .u8 (x : Int))).alloc (.cells #[.bool false] 4))
  have B2 := Lib.hid (show Boxed ((w.alloc (.cells #[.int .u8 (x : Int)] 5)).alloc (.cells #[.bool false] 4)) (w.heap.size + 1) 4 (.bool false) by have := Boxed.new (w.alloc (.cells #[.int .u8 (x : Int)] 5)) 4 (.bool false); rwa [World.size_alloc] at this)
  go_wp2_with fail
  refine (awake_true _).mono ?_
  rintro e w1 ⟨rfl, hb⟩
  have T1 := Lib.hid (T0.out.call hb)
  have B11 := Lib.hid (boxed_below B1.out hb)
  have B12 := Lib.hid (boxed_below B2.out hb)
  have HSZ := Lib.hid (show w.heap.size + 2 ≤ w1.heap.size by have := hb.size; simp at this; omega)
  clear hb T0 B1 B2
  go_wp2_with fail
  refine (PF _ (T1.out.rd HX.out) (T1.out.rd HY.out)).out.mono ?_
  rintro e w2 ⟨rfl, hb⟩
  have T2 := Lib.hid (T1.out.call hb)
  have B21 := Lib.hid (boxed_below B11.out hb)
  have B22 := Lib.hid (boxed_below B12.out hb)
  have HSZ2 := Lib.hid (show w.heap.size + 2 ≤ w2.heap.size by have := hb.size; have := HSZ.out; omega)
  clear hb T1 B11 B12 HSZ
  go_wp2_with fail
  refine (PR _ (T2.out.rd HX.out) (T2.out.rd HY.out)).out.mono ?_
  rintro e w3 ⟨Q, C, rfl, hom, hq1, hq2, hq3, hb⟩
  rw [HRL.out] at hom hq1
  simp only [HRL.out]
  have T3 := Lib.hid (T2.out.call hb)
  have B31 := Lib.hid (boxed_below B21.out hb)
  have B32 := Lib.hid (boxed_below B22.out hb)
  have HM3 := Lib.hid hom.rdM
  have HSZ3 := Lib.hid (show w.heap.size + 2 ≤ w3.heap.size by have := hb.size; have := HSZ2.out; omega)
  clear hb T2 B21 B22 HSZ2 hom hq1 hq2 hq3
  go_wp2_with fail
  obtain ⟨w4, hw4⟩ : ∃ w4, w4 = w3.alloc (.cells #[.slice Q N C] 25) := ⟨_, rfl⟩
  have T4 := Lib.hid (show Aft w w4 by rw [hw4]; exact T3.out.alloc _)
  have B41 := Lib.hid (show Boxed w4 w.heap.size 5 (.int .u8 (x : Int)) by rw [hw4]; exact B31.out.alloc _)
  have B42 := Lib.hid (show Boxed w4 (w.heap.size + 1) 4 (.bool false) by rw [hw4]; exact B32.out.alloc _)
  have B43 := Lib.hid (show Boxed w4 w3.heap.size 25 (.slice Q N C) by rw [hw4]; exact Boxed.new w3 _ _)
  have HM4 := Lib.hid (show RdM w4 Q N (rngs lo hi) by rw [hw4]; exact HM3.out.below ((Below.refl _ _).alloc (Nat.le_refl _) _))
  have HSZ4 := Lib.hid (show w3.heap.size + 1 = w4.heap.size by rw [hw4]; simp)
  rw [← hw4]
  have HD4 := Lib.hid (show Below w4.heap.size w4 w4.drew from ⟨rfl, rfl, rfl, Nat.le_refl _, fun _ _ => rfl⟩)
  have PK4 := PK w4.drew ((T4.out.call HD4.out).rd HX.out) ((T4.out.call HD4.out).rd HY.out)
  have hcb := B43.out.cell
  clear hw4 T3 B31 B32 HM3 PK PR PF
  go_cut [35] from 22 (fun s wc => s = .bool false ∧ Hid (Aft w4 wc))
  case first =>
    refine wp_region_noPanic ?_
    go_region_with (first
      | (go_at_call 11; refine PK4.out.mono ?_; rintro e w5 ⟨L, C5, rfl, hm5, _, _, _, hb5⟩; rw [HRL.out] at hm5; simp only [HRL.out]; have H5 := Lib.hid (HD4.out.trans hb5); have hcb5 := (boxed_below B43.out H5.out).cell; have PS5 := Lib.hid (same_true L Q N C5 C (rngs lo hi) w5 (by unfold maxLen; omega) hm5 (HM4.out.below H5.out)); have PC5 := fun q => PC (w5.drewN q) ((T4.out.call (below_drewN H5.out q)).rd HX.out) ((T4.out.call (below_drewN H5.out q)).rd HY.out); clear hcb hm5 hb5)
      | (go_at_call 10; refine PS5.out.mono ?_; rintro e w6 ⟨rfl, q, rfl⟩)
      | (go_at_call 12; refine (PC5 _).out.mono ?_; rintro e w7 ⟨rfl, rfl⟩))
    all_goals
      refine NoPanic.normal ?_
      go_wp2_with fail
      go_meet
      case rel => exact ⟨rfl, Lib.hid (below_drewN H5.out _)⟩
  case rest =>
    obtain ⟨rfl, HA4⟩ := hcut
    have T5 := Lib.hid (T4.out.call HA4.out)
    have B51 := Lib.hid (boxed_below B41.out HA4.out)
    have B52 := Lib.hid (boxed_below B42.out HA4.out)
    have B53 := Lib.hid (boxed_below B43.out HA4.out)
    have HM5 := Lib.hid (HM4.out.below HA4.out)
    have HSZ5 := Lib.hid (show w3.heap.size + 1 ≤ wc.heap.size by have := HA4.out.size; have := HSZ4.out; omega)
    clear hcb PK4 T4 B41 B42 B43 HM4 HA4 HSZ4 HD4
    have PB6 := PB (wc.alloc (.cells #[.int .i64 0] 3)) ((T5.out.alloc _).rd HX.out) ((T5.out.alloc _).rd HY.out)
    clear PB PC
    have B64 := Lib.hid (Boxed.new wc 3 (.int .i64 0))
    go_wp2_with fail
    refine PB6.out.mono ?_
    rintro e w7 ⟨v1, v2, rfl, hq1, hq2, ho1, ho2, hb⟩
    have hs3 : (wc.alloc (.cells #[.int .i64 0] 3)).heap.size + 2 ≤ w7.heap.size := by have := World.block_lt_of_cell? _ _ hq2; simp at this ⊢; omega
    have HSEQ := Lib.hid (PQ.out v1 v2 w7 _ hs3 hq1 hq2 ho1 ho2)
    have hc7 : Below wc.heap.size wc w7 := ((Below.refl _ wc).alloc (Nat.le_refl _) _).trans (hb.mono (by simp))
    have T7 := Lib.hid (T5.out.call hc7)
    have B71 := Lib.hid (boxed_below B51.out hc7)
    have B72 := Lib.hid (boxed_below B52.out hc7)
    have B73 := Lib.hid (boxed_below B53.out hc7)
    have B74 := Lib.hid (boxed_below B64.out hb)
    have HC7 := Lib.hid hc7
    have HSZ7 := Lib.hid (show wc.heap.size + 3 ≤ w7.heap.size by simp at hs3; omega)
    clear hs3 hq1 hq2 ho1 ho2 hb hc7 B51 B52 B53 B64 T5 PB6 PQ
    go_wp2_with fail
    have HSEQ := Lib.hid (show ISeq Fence.wide (3 - 1) Try.prog 24 #[.pointer (some ⟨wc.heap.size + 1, 0, none⟩), .pointer (some ⟨wc.heap.size + 1 + 1, 0, none⟩)] (wc.heap.size + 1) w7.heap.size mem.Own (rngs lo hi) w7 by have := HSEQ.out; simpa using this)
    rename_i q1
    clear q1
    refine (wpIn_wide (n := 3)).1 ?_
    refine wpIn_iterate rfl (fun h => by cases h) (gf := 24) rfl trivial (Hand := mem.Own) (enters_of Try.func24 (by kernel_rfl) rfl) (fun _ _ _ _ _ _ h1 h2 h3 => own_put h1 h2 h3) HSEQ.out (Below.refl _ _) (Nat.le_refl _) rfl
      (fun r pre W => Chg (fun k => k = wc.heap.size) w7 W ∧ Boxed W wc.heap.size 3 (.int .i64 (pre.length : Int)) ∧ (∀ k, r = some k → w7.heap.size ≤ k) ∧ pre.length ≤ x)
      (fun c r pre W => c = .exit 0 ∧ Chg (fun k => k = wc.heap.size) w7 W ∧ Boxed W wc.heap.size 3 (.int .i64 ((x : Int) + 1)) ∧ (∀ k, r = some k → w7.heap.size ≤ k) ∧ x + 1 ≤ N) ?hI ?hIx ?h0 ?round ?done ?stop
    case hI =>
      rintro r s A C row ⟨h1, h2, h3, h4⟩ hg hm
      exact ⟨h1.grown_new hg (fun k e => (hm k e).1), mild_boxed h2 hg hm (fun e => by have := h3 _ e; have := HSZ7.out; omega), h3, h4⟩
    case hIx =>
      rintro c r s A C row ⟨h0, h1, h2, h3, h4⟩ hg hm
      exact ⟨h0, h1.grown_new hg (fun k e => (hm k e).1), mild_boxed h2 hg hm (fun e => by have := h3 _ e; have := HSZ7.out; omega), h3, h4⟩
    case h0 =>
      intro r hr
      exact ⟨Chg.refl _ _, B74.out, hr, Nat.zero_le _⟩
    case round =>
      rintro l r pre y v A' C' W hBl hlA hlo hr _ ⟨hch, hbk, hrB, hpx⟩ hpre hAW hh
      have hy : (rngs lo hi)[pre.length]? = some y := by
        obtain ⟨t, ht⟩ := hpre
        rw [← ht]
        simp
      have hkN : pre.length < N := by
        rw [← HRL.out]
        exact (List.getElem?_eq_some_iff.1 hy).1
      obtain ⟨P, m, rfl, hm1, hm2, _⟩ := hh.form
      have hM := HM5.out.below (HC7.out.trans (hch.below (n := wc.heap.size) (by have := HSZ7.out; omega) (fun k e => by omega)))
      have bs := hch.boxed B71.out (by have := HSZ3.out; have := HSZ5.out; omega)
      have bw := hch.boxed B73.out (by have := HSZ5.out; omega)
      obtain ⟨adw, Pw, cw, rfl, _, hcw, hrw, hlw, hmw, _⟩ := hM.at_ hy
      have hml : y.length ≤ maxLen := Nat.le_trans hlw hmw
      have PE := Lib.hid (refEqual_at (c := m) (d := cw) (w := W) true (eq_of (rfl : y = y)) hml hml hh.rd hrw)
      have hck := hbk.cell
      have hcb := bw.cell
      have HBK := Lib.hid hbk; have HBS := Lib.hid bs; have HCH := Lib.hid hch; have HRB := Lib.hid hrB; have HR := Lib.hid hr; have HAW := Lib.hid hAW
      have hi1 : (pre.length : Int) < (N : Int) := by omega
      clear hpre hh hM hy hrw hlw hmw hml hm1 hm2 hbk bs bw hch hrB hr hAW hlo
      gi_wp2_with fail
      refine ⟨trivial, ?_⟩
      gi_wp2_with fail
      refine call_round PE.out ?_
      rintro e w8 ⟨rfl, hb8⟩
      have bk8 := boxed_below HBK.out hb8
      have bs8 := boxed_below HBS.out hb8
      have hk8 := bk8.cell
      have hf8 := bk8.frozen
      have hs8 := bs8.cell
      have HBK8 := Lib.hid bk8
      have HCH8 := Lib.hid (HCH.out.call hb8)
      have hch9 := (Chg.refl (fun k => k = wc.heap.size) W).call hb8 |>.set (p := ⟨wc.heap.size, 0, none⟩) (.int .i64 ((pre.length : Int) + 1)) rfl
      have HCH9 := Lib.hid hch9
      have hs9 : (w8.setCell ⟨wc.heap.size, 0, none⟩ (.int .i64 ((pre.length : Int) + 1))).cell? ⟨w.heap.size, 0, none⟩ = some (.int .u8 (x : Int)) := set_other hs8 (by have := HSZ3.out; have := HSZ5.out; simp; omega)
      clear hck hcb hcw PE hb8 bk8 bs8 hch9 HCH HBK HBS
      have hfin : KeepsFrom w7.heap.size W (w8.setCell ⟨wc.heap.size, 0, none⟩ (.int .i64 ((pre.length : Int) + 1))) := HCH9.out.keeps (fun k e => .inl (by have := HSZ7.out; omega))
      have hsp : Spares (wc.heap.size + 1) w7.heap.size r W (w8.setCell ⟨wc.heap.size, 0, none⟩ (.int .i64 ((pre.length : Int) + 1))) := HCH9.out.spares (Nat.le_trans (by omega) HAW.out.size) (fun k e => Nat.lt_of_lt_of_le (HR.out k e).2 HAW.out.size) (fun k e => ⟨by omega, fun e' => by have := HRB.out _ e'; have := HSZ7.out; omega⟩)
      have hbx := HBK8.out.set (.int .i64 ((pre.length : Int) + 1))
      have hcl := HCH8.out.set (p := ⟨wc.heap.size, 0, none⟩) (.int .i64 ((pre.length : Int) + 1)) rfl
      have HFIN := Lib.hid hfin; have HSP := Lib.hid hsp; have HBX := Lib.hid hbx; have HCL := Lib.hid hcl
      clear hfin hsp hbx hcl
      by_cases hlast : (x : Int) < (pre.length : Int) + 1
      · have hpe : pre.length = x := by omega
        have HPE := Lib.hid hpe
        clear hpe
        gi_wp2_with fail
        refine ⟨HFIN.out, rfl, HCL.out, ?_, HRB.out, by have := HPE.out; omega⟩
        have e : (x : Int) + 1 = (pre.length : Int) + 1 := by rw [HPE.out]
        rw [e]
        exact HBX.out
      · gi_wp2_with fail
        refine ⟨HFIN.out, HSP.out, HCL.out, ?_, HRB.out, by rw [List.length_append, List.length_singleton]; omega⟩
        rw [List.length_append]
        exact HBX.out
    case done =>
      rintro D r W hD ⟨hch, hbk, hrB, hpx⟩ hK
      rw [HRL.out] at hbk hpx
      have bs := hch.boxed B71.out (by have := HSZ3.out; have := HSZ5.out; omega)
      have b2 := hch.boxed B72.out (by have := HSZ3.out; have := HSZ5.out; omega)
      have bw := hch.boxed B73.out (by have := HSZ5.out; omega)
      have hbl : Below w.heap.size w W := Below.trans T7.out (hch.below (n := w.heap.size) T7.out.size (fun k e => by have := HSZ3.out; have := HSZ5.out; omega))
      have hc1 := bs.cell
      have hc2 := b2.cell
      have hc3 := bw.cell
      have hc4 := hbk.cell
      have hf2 := b2.frozen
      have HK := Lib.hid hK; have HB2 := Lib.hid b2; have HBL := Lib.hid hbl
      clear bs b2 bw hbl hch hbk hrB hK
      have hmin : ¬ ((x : Int) + 1 < (N : Int)) := by omega
      have hmin2 : ((N : Int) < (x : Int) + 1) := by omega
      go_wp2_with fail
      obtain ⟨W2, hW2⟩ : ∃ W2, W2 = W.setCell ⟨w.heap.size + 1, 0, none⟩ (.bool true) := ⟨_, rfl⟩
      have hk2 : W2.heap[D]? = some (.deferred (some [])) := by rw [hW2]; exact (Below.heap_setCell W ⟨w.heap.size + 1, 0, none⟩ (.bool true) D (by have := HSZ3.out; have := HSZ5.out; have := HSZ7.out; simp; omega)).trans HK.out
      have hb2 : Boxed W2 (w.heap.size + 1) 4 (.bool true) := by rw [hW2]; exact HB2.out.set _
      have hbl2 : Below w.heap.size w W2 := by rw [hW2]; exact HBL.out.setCell (p := ⟨w.heap.size + 1, 0, none⟩) (by simp) _
      rw [← hW2]
      have hcell : (W2.putObj D (.deferred none)).cell? ⟨w.heap.size + 1, 0, none⟩ = some (.bool true) := cell_kept hb2.cell (grownBy_putObj' _ D (.deferred none)) (fun r e => by cases e; exact ⟨_, hk2, rfl⟩)
      refine ⟨by simp, .inl ⟨_, _, rfl, run_takeDeferred hk2, ?_⟩⟩
      exact ⟨_, by simp [results, Try.results3, go_sem, hcell], rfl, hbl2.grown (grownBy_putObj' W2 D (.deferred none)) hbl2.size (fun k e => by cases e; have := HSZ3.out; have := HSZ5.out; have := HSZ7.out; omega)⟩
    case stop =>
      rintro D c r pre W hD hpre ⟨rfl, hch, hbk, hrB, hxN⟩ hK
      have bs := hch.boxed B71.out (by have := HSZ3.out; have := HSZ5.out; omega)
      have b2 := hch.boxed B72.out (by have := HSZ3.out; have := HSZ5.out; omega)
      have bw := hch.boxed B73.out (by have := HSZ5.out; omega)
      have hbl : Below w.heap.size w W := Below.trans T7.out (hch.below (n := w.heap.size) T7.out.size (fun k e => by have := HSZ3.out; have := HSZ5.out; omega))
      have hc1 := bs.cell
      have hc2 := b2.cell
      have hc3 := bw.cell
      have hc4 := hbk.cell
      have hf2 := b2.frozen
      have HK := Lib.hid hK; have HB2 := Lib.hid b2; have HBL := Lib.hid hbl
      clear bs b2 bw hbl hch hbk hrB hK
      refine wpIn_wide.2 ?_
      by_cases hxe : (x : Int) + 1 < (N : Int)
      · have hq : ((x : Int) + 1 == (x : Int) + 1) = true := by simp
        go_wp2_with fail
        obtain ⟨W2, hW2⟩ : ∃ W2, W2 = W.setCell ⟨w.heap.size + 1, 0, none⟩ (.bool true) := ⟨_, rfl⟩
        have hk2 : W2.heap[D]? = some (.deferred (some [])) := by rw [hW2]; exact (Below.heap_setCell W ⟨w.heap.size + 1, 0, none⟩ (.bool true) D (by have := HSZ3.out; have := HSZ5.out; have := HSZ7.out; simp; omega)).trans HK.out
        have hb2 : Boxed W2 (w.heap.size + 1) 4 (.bool true) := by rw [hW2]; exact HB2.out.set _
        have hbl2 : Below w.heap.size w W2 := by rw [hW2]; exact HBL.out.setCell (p := ⟨w.heap.size + 1, 0, none⟩) (by simp) _
        rw [← hW2]
        have hcell : (W2.putObj D (.deferred none)).cell? ⟨w.heap.size + 1, 0, none⟩ = some (.bool true) := cell_kept hb2.cell (grownBy_putObj' _ D (.deferred none)) (fun r e => by cases e; exact ⟨_, hk2, rfl⟩)
        refine ⟨by simp, .inl ⟨_, _, rfl, run_takeDeferred hk2, ?_⟩⟩
        exact ⟨_, by simp [results, Try.results3, go_sem, hcell], rfl, hbl2.grown (grownBy_putObj' W2 D (.deferred none)) hbl2.size (fun k e => by cases e; have := HSZ3.out; have := HSZ5.out; have := HSZ7.out; omega)⟩
      · have hxe2 : (x : Int) + 1 = (N : Int) := by omega
        have hq : ((N : Int) == (N : Int)) = true := by simp
        have hmin : ¬ ((N : Int) < (N : Int)) := by omega
        rw [hxe2] at hc4
        go_wp2_with fail
        obtain ⟨W2, hW2⟩ : ∃ W2, W2 = W.setCell ⟨w.heap.size + 1, 0, none⟩ (.bool true) := ⟨_, rfl⟩
        have hk2 : W2.heap[D]? = some (.deferred (some [])) := by rw [hW2]; exact (Below.heap_setCell W ⟨w.heap.size + 1, 0, none⟩ (.bool true) D (by have := HSZ3.out; have := HSZ5.out; have := HSZ7.out; simp; omega)).trans HK.out
        have hb2 : Boxed W2 (w.heap.size + 1) 4 (.bool true) := by rw [hW2]; exact HB2.out.set _
        have hbl2 : Below w.heap.size w W2 := by rw [hW2]; exact HBL.out.setCell (p := ⟨w.heap.size + 1, 0, none⟩) (by simp) _
        rw [← hW2]
        have hcell : (W2.putObj D (.deferred none)).cell? ⟨w.heap.size + 1, 0, none⟩ = some (.bool true) := cell_kept hb2.cell (grownBy_putObj' _ D (.deferred none)) (fun r e => by cases e; exact ⟨_, hk2, rfl⟩)
        refine ⟨by simp, .inl ⟨_, _, rfl, run_takeDeferred hk2, ?_⟩⟩
        exact ⟨_, by simp [results, Try.results3, go_sem, hcell], rfl, hbl2.grown (grownBy_putObj' W2 D (.deferred none)) hbl2.size (fun k e => by cases e; have := HSZ3.out; have := HSZ5.out; have := HSZ7.out; omega)⟩

theorem walk_OdometerOrders (A B : Option Addr) (n m c d : Nat) (lo hi : List Int) (ax : Int) (w : World) (hx : In w A n c lo) (hy : In w B m d hi) (hax : 0 ≤ ax ∧ ax ≤ 255) :
    Calls Try.prog 3 #[.slice A n c, .slice B m d, .int .u8 ax] w (Holds w) := by
  obtain ⟨x, rfl⟩ := Int.eq_ofNat_of_zero_le hax.1
  have hx8 : x ≤ 255 := by omega
  cases h : fewB lo hi 300
  · exact orders_wrong A B n m c d x lo hi w hx hy hx8 h
  · exact orders_right A B n m c d x lo hi w hx hy hx8 h
end Go.Proofs.Ytcdjmcjoknibkaa.laws
