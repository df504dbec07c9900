/- The reference of package parse: operands that are numbers. -/
import Derived.Test.YtihkflpbccebmaaDoorPsROps
namespace Go.Proofs.YtihkflpbccebmaaDoor.ps
open Go.ChangeShapes Go.WideShapes Go.ChangeAt Go.RowKit Go.Proofs.YtihkflpbccebmaaDoor.mem Go.Proofs.YtihkflpbccebmaaDoor.lx Go.Proofs.YtihkflpbccebmaaDoor.tr
set_option linter.unusedVariables false
set_option linter.unusedSimpArgs false

set_option maxRecDepth 20000 in
theorem run_cons8 (V : World) (ty : TypeId) (x : Int) (P : Option Addr) (q cc : Nat) (ys : List Int) (hr : Rd V P q ys) (hnil : P = none → cc = 0) (hq : q ≤ 65536) :
    ∃ P' c' w', (Builtin.append_ #[23, 23] ty #[.slice (some ⟨V.heap.size, 0, none⟩) 1 1, .slice P q cc]).run Tryd.prog (V.alloc (.cells #[.int .i64 x] 2)) = .ok (.slice P' (q + 1) c') w' ∧ Own8 w' V.heap.size (.slice P' (q + 1) c') (x :: ys) ∧ Below V.heap.size V w' := by
  have hba := Joins.below_alloc1 V (.cells #[.int .i64 x] 2)
  have hown := own8_one V x
  obtain ⟨i0, hi0, hz0, hz1, hz2⟩ := info_parts int64_info
  cases P with
  | none =>
    have hys : ys = [] := by
      cases q with
      | zero => exact List.eq_nil_of_length_eq_zero hr.1
      | succ q => obtain ⟨ad, e, _⟩ := hr.2 0 (by omega); cases e
    subst hys
    obtain rfl : q = 0 := hr.1.symm
    obtain rfl := hnil rfl
    exact ⟨_, _, _, run_append_owned_none (P := Tryd.prog) (w := V.alloc (.cells #[.int .i64 x] 2)) V.heap.size 23 ty 2 i0 1 Tryd.underlying23 hi0 _ _ _ hown, hown, hba⟩
  | some ad =>
    have hr' := hr.below hba
    obtain ⟨v', w', hrun, h2, h3, _, _⟩ := run_append_own_at (P := Tryd.prog) (V.alloc (.cells #[.int .i64 x] 2)) V.heap.size 23 ty 2 i0 _ 1 8 Tryd.underlying23 hi0 hz0 hz1 hz2 rfl (by omega) _ _ _ hown ad q cc (ys.map (Value.int .i64)) (by rw [List.length_map, hr.1]; omega)
      (fun j u hu => by
        rw [List.getElem?_map] at hu
        obtain ⟨z, hz, rfl⟩ := Option.map_eq_some_iff.1 hu
        have hj : j < q := by rw [← hr.1]; exact (List.getElem?_eq_some_iff.1 hz).1
        obtain ⟨ad', e, _, hc⟩ := hr'.2 j hj
        injection e with e
        subst e
        rw [hc]
        congr 2
        rw [List.getD, hz]; rfl)
      (fun u hu => by
        obtain ⟨z, _, rfl⟩ := List.mem_map.1 hu
        rfl) (by unfold maxLen; simp; omega) (by simp; omega) hba.size
    have hw : Own8 w' V.heap.size v' (x :: ys) := by
      have : Own8 w' V.heap.size v' ([x] ++ ys) := by
        unfold Own8
        rw [List.length_append, List.map_append, hr.1]
        exact h2
      simpa using this
    obtain ⟨P', c', rfl, _⟩ := hw.form
    have el : (x :: ys).length = q + 1 := by simp [hr.1]
    rw [el] at hw hrun
    exact ⟨P', c', w', hrun, hw, ⟨h3.os, h3.tape, h3.output, Nat.le_trans hba.size h3.size, fun i hi => (h3.block i (by have := hba.size; omega) (fun e => by simp [Value.ownBlock] at e; omega)).trans (hba.block i hi)⟩⟩
theorem step_cons8 {V : World} {ops : Array Oper} {o : Oper} {a : Act} {K : Act → World → Prop} {Q : Exit → Act → World → Prop} {E : Prop} (hgd : o.guard = none) (s x : Operand)
    (ho : o.op = .call { callee := .builtin .append, args := #[s, x], argTypes := #[23, 23] })
    (y : Int) (P : Option Addr) (q cc : Nat) (ys : List Int) (hs : a.eval s = .slice (some ⟨V.heap.size, 0, none⟩) 1 1) (hx : a.eval x = .slice P q cc) (hr : Rd V P q ys) (hnil : P = none → cc = 0) (hq : q ≤ 65536)
    (h : ∀ P' c' w', Own8 w' V.heap.size (.slice P' (q + 1) c') (y :: ys) → Below V.heap.size V w' → K (a.put o.dst (.slice P' (q + 1) c')) w') :
    if Region.wanted o (yielded ops a.tmps) = true then Oper.wp Tryd.prog o a (V.alloc (.cells #[.int .i64 y] 2)) K Q else E := by
  have hw : Region.wanted o (yielded ops a.tmps) = true := by simp [Region.wanted, hgd]
  rw [if_pos hw]
  obtain ⟨P', c', w', hrun, h2, h3⟩ := run_cons8 V o.type y P q cc ys hr hnil hq
  unfold Oper.wp execOp
  simp only [ho, resolve, invoke, builtin, Sem.run_bind, Sem.run_pure, Result.andThen_ok, List.map_toArray, List.map_cons, List.map_nil, hs, hx, hrun]
  exact h P' c' w' h2 h3
/-- Between two numbers, from the right. -/
structure RNums (w X : World) (g7 : Nat) (P : Option Addr) (q cc : Nat) (xs : List Int) : Prop where
  four : Six0 w.heap.size X (.int .i64 0) (.int .i64 0) (.int .i64 0) (.string ⟨#[]⟩) (.slice none 0 0) (.slice none 0 0)
  seven : Six0 g7 X (.int .i64 1) (.int .i64 0) (.int .i64 (-1)) (.string ⟨#[]⟩) (.slice P q cc) (.slice none 0 0)
  rd : Rd X P q xs
  nil : P = none → cc = 0
  cap : q ≤ cc
  lo : ∀ ad, P = some ad → g7 < ad.block
  below : Below w.heap.size w X
  inn : ∀ x ∈ xs, -9223372036854775808 ≤ x ∧ x ≤ 9223372036854775807
theorem rnums_step {w DD w5 : World} {g7 qn cc c5 : Nat} {P P5 : Option Addr} {xs : List Int} {y : Int} (h4 : Six0 w.heap.size DD (.int .i64 0) (.int .i64 0) (.int .i64 0) (.string ⟨#[]⟩) (.slice none 0 0) (.slice none 0 0))
    (h7 : Six0 g7 DD (.int .i64 1) (.int .i64 0) (.int .i64 (-1)) (.string ⟨#[]⟩) (.slice P qn cc) (.slice none 0 0)) (hbd : Below w.heap.size w DD) (hb5 : Below DD.heap.size DD w5) (ho : Own8 w5 DD.heap.size (.slice P5 (qn + 1) c5) (y :: xs)) (hy : -9223372036854775808 ≤ y ∧ y ≤ 9223372036854775807)
    (hi : ∀ x ∈ xs, -9223372036854775808 ≤ x ∧ x ≤ 9223372036854775807) (hg : g7 = w.heap.size + 1) (hd : g7 < DD.heap.size) :
    RNums w (w5.setCell ⟨g7, 4, none⟩ (.slice P5 (qn + 1) c5)) g7 P5 (qn + 1) c5 (y :: xs) := by
  obtain ⟨A0, c0, e, f1, f2, f3, f4⟩ := ho.form
  injection e with e1 e2 e3
  subst e1; subst e3
  obtain ⟨s0, s1, s2, s3, s4, s5, sf⟩ := h7.below hb5
  refine ⟨(h4.below hb5).as (Below.heap_setCell _ _ _ _ (show w.heap.size ≠ g7 by omega)), ⟨(set_other (by decide)).trans s0, (set_other (by decide)).trans s1, (set_other (by decide)).trans s2, (set_other (by decide)).trans s3, set_same s4, (set_other (by decide)).trans s5, fun j => (World.frozen?_setCell _ _ _ _).trans (sf j)⟩,
    ⟨ho.rd.1, fun j hj => ?_⟩, f3, by omega, fun ad e => by have := (f4 ad e).1; omega, (hbd.trans (hb5.mono hbd.size)).setCell (p := ⟨g7, 4, none⟩) (show w.heap.size ≤ g7 by omega) _, fun x hx => by
      rcases List.mem_cons.1 hx with rfl | hx
      · exact hy
      · exact hi x hx⟩
  obtain ⟨ad, e, hl, hc⟩ := ho.rd.2 j hj
  have hlo := (f4 ad e).1
  exact ⟨ad, e, by simpa [World.setCell] using hl, (World.cell?_setCell_far _ _ _ _ (show g7 ≠ (ad.add j).block by rw [blk_add]; omega)).trans hc⟩
set_option maxHeartbeats 8000000 in
theorem rop_nums (E : List Tk → Option Tr) {w : World} {A : Option Addr} {m c k : Nat} {L : List Tk} {t : Tk} (h : RdK w A m L) (hk : L[k]? = some t) (hm : m ≤ 65536) (hok : okL L) (ht2 : ¬ isG t gZil) (ht : t.k = 2) :
    Calls Tryd.prog 42 #[.slice A m c, .int .i64 k] w (OpTo w (rOp E (pre L (k + 1)))) := by
  have hkl := (List.getElem?_eq_some_iff.1 hk).1
  have ht1 : ¬ t.k = 1 := by omega
  have e0 : rOp E (pre L (k + 1)) = some (lit (((pre L (k + 1)).takeWhile isN).reverse.map Tk.n), (pre L (k + 1)).dropWhile isN) := by
    rw [pre_succ hk, rOp_cons, if_neg ht1, if_neg ht2, if_pos ht]
  rw [e0]
  obtain ⟨W, hW⟩ : ∃ W, W = w.alloc (.cells #[.int .i64 0, .int .i64 0, .int .i64 0, .string ⟨#[]⟩, .slice none 0 0, .slice none 0 0] 26) := ⟨_, rfl⟩
  obtain ⟨hS, hb, hs⟩ := six_new hW
  have P := Lib.hid (glyph_at (c := c) gZil (h.below hb) hk hm)
  rw [decide_eq_false ht2] at P
  obtain ⟨V, hV⟩ : ∃ V, V = W.alloc (.cells #[.int .i64 1, .int .i64 0, .int .i64 (-1), .string ⟨#[]⟩, .slice none 0 0, .slice none 0 0] 26) := ⟨_, rfl⟩
  obtain ⟨hS7, hb7, hs7⟩ := six_new hV
  have HRK := Lib.hid (fun X (h' : Below w.heap.size w X) => h.below h')
  have HN0 : Hid (RNums w V W.heap.size none 0 0 []) := Lib.hid ⟨hS.below hb7, hS7, Rd.nil_, (fun _ => rfl), Nat.le_refl _, (fun ad e => by cases e), hb.trans (hb7.mono hb.size), fun x hx => by simp at hx⟩
  obtain ⟨ad, rfl, hkn, d0, d1, d2⟩ := rdK_at (h.below hb) hk
  rw [ht] at d0
  have HW := Lib.hid hW
  have HV := Lib.hid hV
  have HG : Hid (W.heap.size = w.heap.size + 1) := Lib.hid hs
  have HADB : Hid (ad.block < w.heap.size) := Lib.hid (by
    obtain ⟨ad', e', hl', _⟩ := h.2 k t hk
    injection e' with e'; rw [e']; exact hl')
  have hmL := h.1
  have HML := Lib.hid hmL
  have HOKI := Lib.hid (fun t' (h' : t' ∈ L) => And.intro (hok t' h').2.2.2.1 (hok t' h').2.2.2.2.1)
  obtain ⟨Z, hZ⟩ : ∃ Z, Z = ((pre L (k + 1)).takeWhile isN).reverse.map Tk.n := ⟨_, rfl⟩
  obtain ⟨D, hD⟩ : ∃ D, D = (pre L (k + 1)).dropWhile isN := ⟨_, rfl⟩
  rw [← hZ, ← hD]
  have HZ0 : Hid (Z = ((pre L (k + 1)).takeWhile isN).reverse.map Tk.n ++ ([] : List Int)) := Lib.hid (by rw [hZ]; simp)
  have HD0 := Lib.hid hD
  have hk64 : k < 65536 := by omega
  clear hW hV hb hs hb7 hs7 hS hS7 h hk ht1 ht hok hkl hmL d1 d2 e0 hZ hD
  go_enter Tryd.func42, Tryd.ntmps42
  go_upto_region 1 with fail
  rw [← HW.out]
  go_wp2_with fail
  refine P.out.mono ?_
  rintro e w1 ⟨rfl, rfl⟩
  go_wp2_with fail
  rw [← HV.out]
  go_loopw [1] (fun i wr => ∃ (j : Int) (mm : Nat) (P : Option Addr) (qn cc : Nat) (xs : List Int), i = .int .i64 j ∧ -1 ≤ j ∧ j < 65536 ∧ qn ≤ 65536 ∧ Hid (j = (mm : Int) - 1 ∧ mm ≤ k + 1 ∧ qn + mm = k + 1) ∧ Hid (RNums w wr w1.heap.size P qn cc xs) ∧ Hid (Z = ((pre L mm).takeWhile isN).reverse.map Tk.n ++ xs) ∧ Hid (D = (pre L mm).dropWhile isN)) (fun i _ => (intOf i + 1).toNat)
  case atStart => exact ⟨k, k + 1, none, 0, 0, [], rfl, by omega, by omega, by omega, Lib.hid ⟨by omega, by omega, by omega⟩, HN0, HZ0, HD0⟩
  case round =>
    obtain ⟨j, mm, P, qn, cc, xs, rfl, hj1, hj2, hqn, HM, HN, HZ, HD⟩ := hrel
    have hfin : ∀ (hZ : Z = xs) (hD : D.length = mm), True := fun _ _ => trivial
    cases mm with
    | zero =>
      obtain rfl : j = -1 := by have := HM.out; omega
      have HZE : Hid (Z = xs) := Lib.hid (by rw [HZ.out, pre_zero]; simp)
      have HDE : Hid ((D.length : Int) - 1 = -1) := Lib.hid (by rw [HD.out, pre_zero]; simp)
      obtain ⟨c0, c1, c2, c3, c4, c5, f⟩ := HN.out.four
      have f0 := f 0; have f1 := f 1; have f2 := f 2; have f3 := f 3; have f4 := f 4; have f5 := f 5
      obtain ⟨y0, y1, y2, y3, y4, y5, -⟩ := HN.out.seven
      have ne : w.heap.size ≠ w1.heap.size := by have := HG.out; omega
      clear f hfin
      go_wp2_with fail
      refine bodyPost_ret (v := .tuple #[.agg #[.int .i64 1, .int .i64 0, .int .i64 (-1), .string ⟨#[]⟩, .slice P qn cc, .slice none 0 0], .int .i64 (-1), .bool true]) (by simp [results, Tryd.results42, go_sem, c0, c1, c2, c3, c4, c5]) rfl ?_
      have := opTo_put (q := D) HN.out.below (Nat.lt_succ_self _) (rd_lit (Q := fun k => w.heap.size + 1 ≤ k) HN.out.rd HN.out.cap hqn HN.out.nil HN.out.inn (fun ad e _ => by have := HN.out.lo ad e; have := HG.out; show _ ≤ ad.block; omega))
      rw [HDE.out] at this
      rw [HZE.out]
      exact this
    | succ q =>
      obtain rfl : j = (q : Int) := by have := HM.out; omega
      obtain ⟨t', ht'⟩ : ∃ t', L[q]? = some t' := ⟨_, List.getElem?_eq_getElem (by rw [HML.out]; have := HM.out; omega)⟩
      obtain ⟨ad', e', hqm, k0, k1, k2⟩ := rdK_at (HRK.out wr HN.out.below) ht'
      injection e' with e'
      subst e'
      by_cases hN' : t'.k = 2
      · have HZ2 : Hid (Z = ((pre L q).takeWhile isN).reverse.map Tk.n ++ (t'.n :: xs)) := Lib.hid (by rw [HZ.out, pre_succ ht']; simp [List.takeWhile_cons, isN, hN'])
        have HD2 : Hid (D = (pre L q).dropWhile isN) := Lib.hid (by rw [HD.out, pre_succ ht']; simp [List.dropWhile_cons, isN, hN'])
        have HI2 := Lib.hid (HOKI.out t' (List.mem_of_getElem? ht'))
        have HRKq := Lib.hid (fun X (hX : Below w.heap.size w X) => show X.cell? ⟨(ad.add (q * 3)).block, (ad.add (q * 3)).off + 2, none⟩ = some (.int .i64 t'.n) by
          obtain ⟨ad2, e2, _, _, _, r2⟩ := rdK_at (HRK.out X hX) ht'
          injection e2 with e2
          subst e2
          exact r2)
        rw [hN'] at k0
        have c2 := k2
        generalize t'.n = y at *
        obtain ⟨c0', c1', c2', c3', c4', c5', -⟩ := HN.out.seven
        clear ht' hN' k1 k2 hfin
        go_wp2_with fail
        obtain ⟨DD, hDD⟩ : ∃ DD, DD = wr.drew := ⟨_, rfl⟩
        have hdb : Below wr.heap.size wr DD := by rw [hDD]; exact Below.drew (Below.refl _ _)
        have HRD := Lib.hid (HN.out.rd.below hdb)
        have HNL := Lib.hid HN.out.nil
        have HQB := Lib.hid hqn
        have HS7D := Lib.hid (HN.out.seven.below hdb)
        have HS4D := Lib.hid (HN.out.four.below hdb)
        have HBD := Lib.hid (HN.out.below.trans (hdb.mono HN.out.below.size))
        have HKS : Hid (∀ X, Below DD.heap.size DD X → X.cell? ⟨(ad.add (q * 3)).block, (ad.add (q * 3)).off + 2, none⟩ = some (.int .i64 y)) := Lib.hid fun X hX => HRKq.out X (HBD.out.trans (hX.mono HBD.out.size))
        have HAP : Hid (w1.heap.size ≠ (⟨(ad.add (q * 3)).block, (ad.add (q * 3)).off + 2, none⟩ : Addr).block) := Lib.hid (by
          show w1.heap.size ≠ (ad.add (q * 3)).block
          rw [blk_add]
          have := HADB.out; have := HG.out; omega)
        have c2 := HKS.out DD (Below.refl _ _)
        have c4 := HS7D.out.c4
        have c4a := (HS7D.out.below (Joins.below_alloc1 DD (.cells #[.int .i64 y] 2))).c4
        have HDS := Lib.hid (show w1.heap.size < DD.heap.size from HS7D.out.lt)
        refine wp_region_noPanic ?_
        refine wp_region_held_drew (S := (fun w' => w'.cell? ⟨(ad.add (q * 3)).block, (ad.add (q * 3)).off + 2, none⟩ = some (.int .i64 y))) (by kernel_rfl) (by rw [← hDD]; exact c2) (fun hHeld => ?_)
        rw [← hDD]
        clear hDD
        refine wpAnyH_take (i := 0) (oi := ⟨some 52, _, _, _, _, _⟩) (v := ?_) rfl (by kernel_rfl) (by kernel_rfl) (by kernel_rfl) (fun _ _ _ h => h) (Or.inl ⟨by rfl, ?_⟩) (by assumption) ?_
        rotate_left
        · (intro w hSw; (try dsimp only at hSw); first | (go_simp; done) | (go_simp; with_reducible rfl))
        try simp only [Act.put, List.setIfInBounds_toArray, List.set_cons_zero, List.set_cons_succ]
        refine wpAnyH_take (i := 1) (oi := ⟨some 53, _, _, _, _, _⟩) (v := ?_) rfl (by kernel_rfl) (by kernel_rfl) (by kernel_rfl) (fun _ _ _ h => h) (Or.inl ⟨by rfl, ?_⟩) (by assumption) ?_
        rotate_left
        · (intro w hSw; (try dsimp only at hSw); first | (go_simp; done) | (go_simp; with_reducible rfl))
        try simp only [Act.put, List.setIfInBounds_toArray, List.set_cons_zero, List.set_cons_succ]
        refine wpAnyH_take (i := 2) (oi := ⟨some 54, _, _, _, _, _⟩) (v := ?_) rfl (by kernel_rfl) (by kernel_rfl) (by kernel_rfl) (fun _ _ _ h => h) (Or.inl ⟨by rfl, ?_⟩) (by assumption) ?_
        rotate_left
        · (intro w hSw; (try dsimp only at hSw); first | (go_simp; done) | (go_simp; with_reducible rfl))
        try simp only [Act.put, List.setIfInBounds_toArray, List.set_cons_zero, List.set_cons_succ]
        refine wpAnyH_take (i := 3) (oi := ⟨some 55, _, _, _, _, _⟩) (v := ?_) rfl (by kernel_rfl) (by kernel_rfl) (by kernel_rfl) (fun _ _ _ h => h) (Or.inl ⟨by rfl, ?_⟩) (by assumption) ?_
        rotate_left
        · (intro w hSw; (try dsimp only at hSw); first | (go_simp; done) | (go_simp; with_reducible rfl))
        try simp only [Act.put, List.setIfInBounds_toArray, List.set_cons_zero, List.set_cons_succ]
        refine wpAnyH_take (i := 4) (oi := ⟨some 56, _, _, _, _, _⟩) (v := ?_) rfl (by kernel_rfl) (by kernel_rfl) (by kernel_rfl) (fun _ _ _ h => h) (Or.inl ⟨by rfl, ?_⟩) (by assumption) ?_
        rotate_left
        · (intro w hSw; (try dsimp only at hSw); first | (go_simp; done) | (go_simp; with_reducible rfl))
        try simp only [Act.put, List.setIfInBounds_toArray, List.set_cons_zero, List.set_cons_succ]
        refine wpAnyH_take (i := 6) (oi := ⟨some 58, _, _, _, _, _⟩) (v := ?_) rfl (by kernel_rfl) (by kernel_rfl) (by kernel_rfl) (fun _ _ _ h => h) (Or.inl ⟨by rfl, ?_⟩) (by assumption) ?_
        rotate_left
        · (intro w hSw; (try dsimp only at hSw); first | (go_simp; done) | (go_simp; with_reducible rfl))
        try simp only [Act.put, List.setIfInBounds_toArray, List.set_cons_zero, List.set_cons_succ]
        refine wpAnyH_ready (rs := [5, 7]) (by kernel_rfl) (by simp) ?_
        refine (AllReadyH.cons (o := ⟨some 57, _, _, _, _, _⟩) rfl (fun K hK => ?_) (AllReadyH.cons (o := ⟨some 59, _, _, _, _, _⟩) rfl (fun K hK => ?_) AllReadyH.nil))
        go_simp
        refine hK.out _ _ ?_ (fun hHeld => ?_)
        · exact HKS.out _ (Joins.below_alloc1 _ _)
        clear hK K
        try simp only [Act.put, List.setIfInBounds_toArray, List.set_cons_zero, List.set_cons_succ]
        refine wpAnyH_ready (rs := [7]) (by kernel_rfl) (by simp) ?_
        refine (AllReadyH.cons (o := ⟨some 59, _, _, _, _, _⟩) rfl (fun K hK => ?_) AllReadyH.nil)
        go_simp
        refine hK.out _ _ ?_ (fun hHeld => ?_)
        · exact HKS.out _ (Joins.below_alloc1 _ _)
        clear hK K
        try simp only [Act.put, List.setIfInBounds_toArray, List.set_cons_zero, List.set_cons_succ]
        rotate_left
        go_simp
        refine hK.out _ _ ?_ (fun hHeld => ?_)
        · exact c2
        clear hK K
        try simp only [Act.put, List.setIfInBounds_toArray, List.set_cons_zero, List.set_cons_succ]
        refine wpAnyH_ready (rs := [5]) (by kernel_rfl) (by simp) ?_
        refine (AllReadyH.cons (o := ⟨some 57, _, _, _, _, _⟩) rfl (fun K hK => ?_) AllReadyH.nil)
        go_simp
        refine hK.out _ _ ?_ (fun hHeld => ?_)
        · exact HKS.out _ (Joins.below_alloc1 _ _)
        clear hK K
        try simp only [Act.put, List.setIfInBounds_toArray, List.set_cons_zero, List.set_cons_succ]
        all_goals
          refine wpAnyH_ready (rs := [8]) (by kernel_rfl) (by simp) ?_
          refine (AllReadyH.cons (o := ⟨some 60, _, _, _, _, _⟩) rfl (fun K hK => ?_) AllReadyH.nil)
          refine step_cons8 (by rfl) (.tmp 57) (.tmp 59) (by rfl) y P qn cc xs (by rfl) (by rfl) HRD.out HNL.out HQB.out ?_
          intro P5 c5 w5 hO5 hB5
          have HO5 := Lib.hid hO5
          have HB5 := Lib.hid hB5
          obtain ⟨j0, j1, j2, j3, j4, j5, jf⟩ := HS7D.out.below hB5
          have jf4 := jf 4
          clear hO5 hB5 jf
          refine hK.out _ _ ?_ (fun hHeld => ?_)
          · exact HKS.out _ HB5.out
          clear hK K
          try simp only [Act.put, List.setIfInBounds_toArray, List.set_cons_zero, List.set_cons_succ]
          refine wpAnyH_take (i := 9) (oi := ⟨some 61, _, _, _, _, _⟩) (v := ?_) rfl (by kernel_rfl) (by kernel_rfl) (by kernel_rfl) (fun _ _ _ h => h) (Or.inl ⟨by rfl, ?_⟩) (by assumption) ?_
          rotate_left
          · (intro w hSw; (try dsimp only at hSw); first | (go_simp; done) | (go_simp; with_reducible rfl))
          try simp only [Act.put, List.setIfInBounds_toArray, List.set_cons_zero, List.set_cons_succ]
          refine wpAnyH_ready (rs := [10]) (by kernel_rfl) (by simp) ?_
          refine (AllReadyH.cons (o := ⟨none, _, _, _, _, _⟩) rfl (fun K hK => ?_) AllReadyH.nil)
          go_simp
          refine hK.out _ _ ?_ (fun hHeld => ?_)
          · exact (World.cell?_setCell_far _ _ _ _ HAP.out).trans (HKS.out _ HB5.out)
          clear hK K
          try simp only [Act.put, List.setIfInBounds_toArray, List.set_cons_zero, List.set_cons_succ]
          refine wpAnyH_done (by kernel_rfl) ?_ _
          refine NoPanic.normal ?_
          go_wp2_with fail
        all_goals
          refine ⟨⟨(q : Int) - 1, q, P5, qn + 1, c5, y :: xs, by first | rfl | go_num, by omega, by omega, by have := HM.out; omega, Lib.hid ⟨by omega, by have := HM.out; omega, by have := HM.out; omega⟩, Lib.hid ?_, HZ2, HD2⟩, ?_⟩
          · exact rnums_step HS4D.out HS7D.out HBD.out HB5.out HO5.out HI2.out HN.out.inn HG.out HDS.out
          · first | (simp [intOf]; done) | (simp [intOf]; omega)
      · have HZE : Hid (Z = xs) := Lib.hid (by rw [HZ.out, pre_succ ht']; simp [List.takeWhile_cons, isN, hN'])
        have HDE : Hid ((D.length : Int) - 1 = (q : Int)) := Lib.hid (by
          rw [HD.out, pre_succ ht']
          simp [List.dropWhile_cons, isN, hN']
          rw [pre_len (by have := HM.out; rw [HML.out]; omega)])
        have hk2 : (t'.k == 2) = false := by simpa using hN'
        generalize t'.k = tk' at *
        obtain ⟨c0, c1, c2, c3, c4, c5, f⟩ := HN.out.four
        have f0 := f 0; have f1 := f 1; have f2 := f 2; have f3 := f 3; have f4 := f 4; have f5 := f 5
        obtain ⟨y0, y1, y2, y3, y4, y5, -⟩ := HN.out.seven
        have ne : w.heap.size ≠ w1.heap.size := by have := HG.out; omega
        clear f hfin ht' hN' k1 k2
        go_wp2_with fail
        refine bodyPost_ret (v := .tuple #[.agg #[.int .i64 1, .int .i64 0, .int .i64 (-1), .string ⟨#[]⟩, .slice P qn cc, .slice none 0 0], .int .i64 q, .bool true]) (by simp [results, Tryd.results42, go_sem, c0, c1, c2, c3, c4, c5]) rfl ?_
        have := opTo_put (q := D) HN.out.below (Nat.lt_succ_self _) (rd_lit (Q := fun k => w.heap.size + 1 ≤ k) HN.out.rd HN.out.cap hqn HN.out.nil HN.out.inn (fun ad e _ => by have := HN.out.lo ad e; have := HG.out; show _ ≤ ad.block; omega))
        rw [HDE.out] at this
        rw [HZE.out]
        exact this
end Go.Proofs.YtihkflpbccebmaaDoor.ps
