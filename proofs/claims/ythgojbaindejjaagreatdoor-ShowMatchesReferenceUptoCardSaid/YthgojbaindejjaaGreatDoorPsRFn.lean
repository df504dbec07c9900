/- The reference of package parse: operands that are numbers. The reference of package parse: functions with their axes; operands, all of them. -/
import Derived.Test.YthgojbaindejjaaGreatDoorPsROps
/- The reference of package parse: operands that are numbers. -/
namespace Go.Proofs.YthgojbaindejjaaGreatDoor.ps
open Go.ChangeShapes Go.WideShapes Go.ChangeAt Go.RowKit Go.Proofs.YthgojbaindejjaaGreatDoor.mem Go.Proofs.YthgojbaindejjaaGreatDoor.lx Go.Proofs.YthgojbaindejjaaGreatDoor.tr
set_option linter.unusedVariables false
set_option linter.unusedSimpArgs false

set_option maxRecDepth 20000 in
theorem run_cons8 (V : World) (ty : TypeId) (x : Int) (P : Option Addr) (q cc : Nat) (ys : List Int) (hr : Rd V P q ys) (hnil : P = none → cc = 0) (hq : q ≤ 65536) :
    ∃ P' c' w', (Builtin.append_ #[22, 22] ty #[.slice (some ⟨V.heap.size, 0, none⟩) 1 1, .slice P q cc]).run Tryz.prog (V.alloc (.cells #[.int .i64 x] 2)) = .ok (.slice P' (q + 1) c') w' ∧ Own8 w' V.heap.size (.slice P' (q + 1) c') (x :: ys) ∧ Below V.heap.size V w' := by
  have hba := Joins.below_alloc1 V (.cells #[.int .i64 x] 2)
  have hown := own8_one V x
  obtain ⟨i0, hi0, hz0, hz1, hz2⟩ := info_parts int64_info
  cases P with
  | none =>
    have hys : ys = [] := by
      cases q with
      | zero => exact List.eq_nil_of_length_eq_zero hr.1
      | succ q => obtain ⟨ad, e, _⟩ := hr.2 0 (by omega); cases e
    subst hys
    obtain rfl : q = 0 := hr.1.symm
    obtain rfl := hnil rfl
    exact ⟨_, _, _, run_append_owned_none (P := Tryz.prog) (w := V.alloc (.cells #[.int .i64 x] 2)) V.heap.size 22 ty 2 i0 1 Tryz.underlying22 hi0 _ _ _ hown, hown, hba⟩
  | some ad =>
    have hr' := hr.below hba
    obtain ⟨v', w', hrun, h2, h3, _, _⟩ := run_append_own_at (P := Tryz.prog) (V.alloc (.cells #[.int .i64 x] 2)) V.heap.size 22 ty 2 i0 _ 1 8 Tryz.underlying22 hi0 hz0 hz1 hz2 rfl (by omega) _ _ _ hown ad q cc (ys.map (Value.int .i64)) (by rw [List.length_map, hr.1]; omega)
      (fun j u hu => by
        rw [List.getElem?_map] at hu
        obtain ⟨z, hz, rfl⟩ := Option.map_eq_some_iff.1 hu
        have hj : j < q := by rw [← hr.1]; exact (List.getElem?_eq_some_iff.1 hz).1
        obtain ⟨ad', e, _, hc⟩ := hr'.2 j hj
        injection e with e
        subst e
        rw [hc]
        congr 2
        rw [List.getD, hz]; rfl)
      (fun u hu => by
        obtain ⟨z, _, rfl⟩ := List.mem_map.1 hu
        rfl) (by unfold maxLen; simp; omega) (by simp; omega) hba.size
    have hw : Own8 w' V.heap.size v' (x :: ys) := by
      have : Own8 w' V.heap.size v' ([x] ++ ys) := by
        unfold Own8
        rw [List.length_append, List.map_append, hr.1]
        exact h2
      simpa using this
    obtain ⟨P', c', rfl, _⟩ := hw.form
    have el : (x :: ys).length = q + 1 := by simp [hr.1]
    rw [el] at hw hrun
    exact ⟨P', c', w', hrun, hw, ⟨h3.os, h3.tape, h3.output, Nat.le_trans hba.size h3.size, fun i hi => (h3.block i (by have := hba.size; omega) (fun e => by simp [Value.ownBlock] at e; omega)).trans (hba.block i hi)⟩⟩
theorem step_cons8 {V : World} {ops : Array Oper} {o : Oper} {a : Act} {K : Act → World → Prop} {Q : Exit → Act → World → Prop} {E : Prop} (hgd : o.guard = none) (s x : Operand)
    (ho : o.op = .call { callee := .builtin .append, args := #[s, x], argTypes := #[22, 22] })
    (y : Int) (P : Option Addr) (q cc : Nat) (ys : List Int) (hs : a.eval s = .slice (some ⟨V.heap.size, 0, none⟩) 1 1) (hx : a.eval x = .slice P q cc) (hr : Rd V P q ys) (hnil : P = none → cc = 0) (hq : q ≤ 65536)
    (h : ∀ P' c' w', Own8 w' V.heap.size (.slice P' (q + 1) c') (y :: ys) → Below V.heap.size V w' → K (a.put o.dst (.slice P' (q + 1) c')) w') :
    if Region.wanted o (yielded ops a.tmps) = true then Oper.wp Tryz.prog o a (V.alloc (.cells #[.int .i64 y] 2)) K Q else E := by
  have hw : Region.wanted o (yielded ops a.tmps) = true := by simp [Region.wanted, hgd]
  rw [if_pos hw]
  obtain ⟨P', c', w', hrun, h2, h3⟩ := run_cons8 V o.type y P q cc ys hr hnil hq
  unfold Oper.wp execOp
  simp only [ho, resolve, invoke, builtin, Sem.run_bind, Sem.run_pure, Result.andThen_ok, List.map_toArray, List.map_cons, List.map_nil, hs, hx, hrun]
  exact h P' c' w' h2 h3
/-- Between two numbers, from the right. -/
structure RNums (w X : World) (g7 : Nat) (P : Option Addr) (q cc : Nat) (xs : List Int) : Prop where
  four : Six0 w.heap.size X (.int .i64 0) (.int .i64 0) (.int .i64 0) (.string ⟨#[]⟩) (.slice none 0 0) (.slice none 0 0)
  seven : Six0 g7 X (.int .i64 1) (.int .i64 0) (.int .i64 (-1)) (.string ⟨#[]⟩) (.slice P q cc) (.slice none 0 0)
  rd : Rd X P q xs
  nil : P = none → cc = 0
  cap : q ≤ cc
  lo : ∀ ad, P = some ad → g7 < ad.block
  below : Below w.heap.size w X
  inn : ∀ x ∈ xs, -9223372036854775808 ≤ x ∧ x ≤ 9223372036854775807
theorem rnums_step {w DD w5 : World} {g7 qn cc c5 : Nat} {P P5 : Option Addr} {xs : List Int} {y : Int} (h4 : Six0 w.heap.size DD (.int .i64 0) (.int .i64 0) (.int .i64 0) (.string ⟨#[]⟩) (.slice none 0 0) (.slice none 0 0))
    (h7 : Six0 g7 DD (.int .i64 1) (.int .i64 0) (.int .i64 (-1)) (.string ⟨#[]⟩) (.slice P qn cc) (.slice none 0 0)) (hbd : Below w.heap.size w DD) (hb5 : Below DD.heap.size DD w5) (ho : Own8 w5 DD.heap.size (.slice P5 (qn + 1) c5) (y :: xs)) (hy : -9223372036854775808 ≤ y ∧ y ≤ 9223372036854775807)
    (hi : ∀ x ∈ xs, -9223372036854775808 ≤ x ∧ x ≤ 9223372036854775807) (hg : g7 = w.heap.size + 1) (hd : g7 < DD.heap.size) :
    RNums w (w5.setCell ⟨g7, 4, none⟩ (.slice P5 (qn + 1) c5)) g7 P5 (qn + 1) c5 (y :: xs) := by
  obtain ⟨A0, c0, e, f1, f2, f3, f4⟩ := ho.form
  injection e with e1 e2 e3
  subst e1; subst e3
  obtain ⟨s0, s1, s2, s3, s4, s5, sf⟩ := h7.below hb5
  refine ⟨(h4.below hb5).as (Below.heap_setCell _ _ _ _ (show w.heap.size ≠ g7 by omega)), ⟨(set_other (by decide)).trans s0, (set_other (by decide)).trans s1, (set_other (by decide)).trans s2, (set_other (by decide)).trans s3, set_same s4, (set_other (by decide)).trans s5, fun j => (World.frozen?_setCell _ _ _ _).trans (sf j)⟩,
    ⟨ho.rd.1, fun j hj => ?_⟩, f3, by omega, fun ad e => by have := (f4 ad e).1; omega, (hbd.trans (hb5.mono hbd.size)).setCell (p := ⟨g7, 4, none⟩) (show w.heap.size ≤ g7 by omega) _, fun x hx => by
      rcases List.mem_cons.1 hx with rfl | hx
      · exact hy
      · exact hi x hx⟩
  obtain ⟨ad, e, hl, hc⟩ := ho.rd.2 j hj
  have hlo := (f4 ad e).1
  exact ⟨ad, e, by simpa [World.setCell] using hl, (World.cell?_setCell_far _ _ _ _ (show g7 ≠ (ad.add j).block by rw [blk_add]; omega)).trans hc⟩
set_option maxHeartbeats 8000000 in
theorem rop_nums (E : List Tk → Option Tr) {w : World} {A : Option Addr} {m c k : Nat} {L : List Tk} {t : Tk} (h : RdK w A m L) (hk : L[k]? = some t) (hm : m ≤ 65536) (hok : okL L) (ht2 : ¬ isG t gZil) (ht : t.k = 2) :
    Calls Tryz.prog 75 #[.slice A m c, .int .i64 k] w (OpTo w (rOp E (pre L (k + 1)))) := by
  have hkl := (List.getElem?_eq_some_iff.1 hk).1
  have ht1 : ¬ t.k = 1 := by omega
  have e0 : rOp E (pre L (k + 1)) = some (lit (((pre L (k + 1)).takeWhile isN).reverse.map Tk.n), (pre L (k + 1)).dropWhile isN) := by
    rw [pre_succ hk, rOp_cons, if_neg ht1, if_neg ht2, if_pos ht]
  rw [e0]
  obtain ⟨W, hW⟩ : ∃ W, W = w.alloc (.cells #[.int .i64 0, .int .i64 0, .int .i64 0, .string ⟨#[]⟩, .slice none 0 0, .slice none 0 0] 25) := ⟨_, rfl⟩
  obtain ⟨hS, hb, hs⟩ := six_new hW
  have P := Lib.hid (glyph_at (c := c) gZil (h.below hb) hk hm)
  rw [decide_eq_false ht2] at P
  obtain ⟨V, hV⟩ : ∃ V, V = W.alloc (.cells #[.int .i64 1, .int .i64 0, .int .i64 (-1), .string ⟨#[]⟩, .slice none 0 0, .slice none 0 0] 25) := ⟨_, rfl⟩
  obtain ⟨hS7, hb7, hs7⟩ := six_new hV
  have HRK := Lib.hid (fun X (h' : Below w.heap.size w X) => h.below h')
  have HN0 : Hid (RNums w V W.heap.size none 0 0 []) := Lib.hid ⟨hS.below hb7, hS7, Rd.nil_, (fun _ => rfl), Nat.le_refl _, (fun ad e => by cases e), hb.trans (hb7.mono hb.size), fun x hx => by simp at hx⟩
  obtain ⟨ad, rfl, hkn, d0, d1, d2⟩ := rdK_at (h.below hb) hk
  rw [ht] at d0
  have HW := Lib.hid hW
  have HV := Lib.hid hV
  have HG : Hid (W.heap.size = w.heap.size + 1) := Lib.hid hs
  have HADB : Hid (ad.block < w.heap.size) := Lib.hid (by
    obtain ⟨ad', e', hl', _⟩ := h.2 k t hk
    injection e' with e'; rw [e']; exact hl')
  have hmL := h.1
  have HML := Lib.hid hmL
  have HOKI := Lib.hid (fun t' (h' : t' ∈ L) => And.intro (hok t' h').2.2.2.1 (hok t' h').2.2.2.2.1)
  obtain ⟨Z, hZ⟩ : ∃ Z, Z = ((pre L (k + 1)).takeWhile isN).reverse.map Tk.n := ⟨_, rfl⟩
  obtain ⟨D, hD⟩ : ∃ D, D = (pre L (k + 1)).dropWhile isN := ⟨_, rfl⟩
  rw [← hZ, ← hD]
  have HZ0 : Hid (Z = ((pre L (k + 1)).takeWhile isN).reverse.map Tk.n ++ ([] : List Int)) := Lib.hid (by rw [hZ]; simp)
  have HD0 := Lib.hid hD
  have hk64 : k < 65536 := by omega
  clear hW hV hb hs hb7 hs7 hS hS7 h hk ht1 ht hok hkl hmL d1 d2 e0 hZ hD
  go_enter Tryz.func75, Tryz.ntmps75
  go_upto_region 1 with fail
  rw [← HW.out]
  go_wp2_with fail
  refine P.out.mono ?_
  rintro e w1 ⟨rfl, rfl⟩
  go_wp2_with fail
  rw [← HV.out]
  go_loopw [1] (fun i wr => ∃ (j : Int) (mm : Nat) (P : Option Addr) (qn cc : Nat) (xs : List Int), i = .int .i64 j ∧ -1 ≤ j ∧ j < 65536 ∧ qn ≤ 65536 ∧ Hid (j = (mm : Int) - 1 ∧ mm ≤ k + 1 ∧ qn + mm = k + 1) ∧ Hid (RNums w wr w1.heap.size P qn cc xs) ∧ Hid (Z = ((pre L mm).takeWhile isN).reverse.map Tk.n ++ xs) ∧ Hid (D = (pre L mm).dropWhile isN)) (fun i _ => (intOf i + 1).toNat)
  case atStart => exact ⟨k, k + 1, none, 0, 0, [], rfl, by omega, by omega, by omega, Lib.hid ⟨by omega, by omega, by omega⟩, HN0, HZ0, HD0⟩
  case round =>
    obtain ⟨j, mm, P, qn, cc, xs, rfl, hj1, hj2, hqn, HM, HN, HZ, HD⟩ := hrel
    have hfin : ∀ (hZ : Z = xs) (hD : D.length = mm), True := fun _ _ => trivial
    cases mm with
    | zero =>
      obtain rfl : j = -1 := by have := HM.out; omega
      have HZE : Hid (Z = xs) := Lib.hid (by rw [HZ.out, pre_zero]; simp)
      have HDE : Hid ((D.length : Int) - 1 = -1) := Lib.hid (by rw [HD.out, pre_zero]; simp)
      obtain ⟨c0, c1, c2, c3, c4, c5, f⟩ := HN.out.four
      have f0 := f 0; have f1 := f 1; have f2 := f 2; have f3 := f 3; have f4 := f 4; have f5 := f 5
      obtain ⟨y0, y1, y2, y3, y4, y5, -⟩ := HN.out.seven
      have ne : w.heap.size ≠ w1.heap.size := by have := HG.out; omega
      clear f hfin
      go_wp2_with fail
      refine bodyPost_ret (v := .tuple #[.agg #[.int .i64 1, .int .i64 0, .int .i64 (-1), .string ⟨#[]⟩, .slice P qn cc, .slice none 0 0], .int .i64 (-1), .bool true]) (by simp [results, Tryz.results75, go_sem, c0, c1, c2, c3, c4, c5]) rfl ?_
      have := opTo_put (q := D) HN.out.below (Nat.lt_succ_self _) (rd_lit (Q := fun k => w.heap.size + 1 ≤ k) HN.out.rd HN.out.cap hqn HN.out.nil HN.out.inn (fun ad e _ => by have := HN.out.lo ad e; have := HG.out; show _ ≤ ad.block; omega))
      rw [HDE.out] at this
      rw [HZE.out]
      exact this
    | succ q =>
      obtain rfl : j = (q : Int) := by have := HM.out; omega
      obtain ⟨t', ht'⟩ : ∃ t', L[q]? = some t' := ⟨_, List.getElem?_eq_getElem (by rw [HML.out]; have := HM.out; omega)⟩
      obtain ⟨ad', e', hqm, k0, k1, k2⟩ := rdK_at (HRK.out wr HN.out.below) ht'
      injection e' with e'
      subst e'
      by_cases hN' : t'.k = 2
      · have HZ2 : Hid (Z = ((pre L q).takeWhile isN).reverse.map Tk.n ++ (t'.n :: xs)) := Lib.hid (by rw [HZ.out, pre_succ ht']; simp [List.takeWhile_cons, isN, hN'])
        have HD2 : Hid (D = (pre L q).dropWhile isN) := Lib.hid (by rw [HD.out, pre_succ ht']; simp [List.dropWhile_cons, isN, hN'])
        have HI2 := Lib.hid (HOKI.out t' (List.mem_of_getElem? ht'))
        have HRKq := Lib.hid (fun X (hX : Below w.heap.size w X) => show X.cell? ⟨(ad.add (q * 3)).block, (ad.add (q * 3)).off + 2, none⟩ = some (.int .i64 t'.n) by
          obtain ⟨ad2, e2, _, _, _, r2⟩ := rdK_at (HRK.out X hX) ht'
          injection e2 with e2
          subst e2
          exact r2)
        rw [hN'] at k0
        have c2 := k2
        generalize t'.n = y at *
        obtain ⟨c0', c1', c2', c3', c4', c5', -⟩ := HN.out.seven
        clear ht' hN' k1 k2 hfin
        go_wp2_with fail
        obtain ⟨DD, hDD⟩ : ∃ DD, DD = wr.drew := ⟨_, rfl⟩
        have hdb : Below wr.heap.size wr DD := by rw [hDD]; exact Below.drew (Below.refl _ _)
        have HRD := Lib.hid (HN.out.rd.below hdb)
        have HNL := Lib.hid HN.out.nil
        have HQB := Lib.hid hqn
        have HS7D := Lib.hid (HN.out.seven.below hdb)
        have HS4D := Lib.hid (HN.out.four.below hdb)
        have HBD := Lib.hid (HN.out.below.trans (hdb.mono HN.out.below.size))
        have HKS : Hid (∀ X, Below DD.heap.size DD X → X.cell? ⟨(ad.add (q * 3)).block, (ad.add (q * 3)).off + 2, none⟩ = some (.int .i64 y)) := Lib.hid fun X hX => HRKq.out X (HBD.out.trans (hX.mono HBD.out.size))
        have HAP : Hid (w1.heap.size ≠ (⟨(ad.add (q * 3)).block, (ad.add (q * 3)).off + 2, none⟩ : Addr).block) := Lib.hid (by
          show w1.heap.size ≠ (ad.add (q * 3)).block
          rw [blk_add]
          have := HADB.out; have := HG.out; omega)
        have c2 := HKS.out DD (Below.refl _ _)
        have c4 := HS7D.out.c4
        have c4a := (HS7D.out.below (Joins.below_alloc1 DD (.cells #[.int .i64 y] 2))).c4
        have HDS := Lib.hid (show w1.heap.size < DD.heap.size from HS7D.out.lt)
        refine wp_region_noPanic ?_
        refine wp_region_held_drew (S := (fun w' => w'.cell? ⟨(ad.add (q * 3)).block, (ad.add (q * 3)).off + 2, none⟩ = some (.int .i64 y))) (by kernel_rfl) (by rw [← hDD]; exact c2) (fun hHeld => ?_)
        rw [← hDD]
        clear hDD
        refine wpAnyH_take (i := 0) (oi := ⟨some 52, _, _, _, _, _⟩) (v := ?_) rfl (by kernel_rfl) (by kernel_rfl) (by kernel_rfl) (fun _ _ _ h => h) (Or.inl ⟨by rfl, ?_⟩) (by assumption) ?_
        rotate_left
        · (intro w hSw; (try dsimp only at hSw); first | (go_simp; done) | (go_simp; with_reducible rfl))
        try simp only [Act.put, List.setIfInBounds_toArray, List.set_cons_zero, List.set_cons_succ]
        refine wpAnyH_take (i := 1) (oi := ⟨some 53, _, _, _, _, _⟩) (v := ?_) rfl (by kernel_rfl) (by kernel_rfl) (by kernel_rfl) (fun _ _ _ h => h) (Or.inl ⟨by rfl, ?_⟩) (by assumption) ?_
        rotate_left
        · (intro w hSw; (try dsimp only at hSw); first | (go_simp; done) | (go_simp; with_reducible rfl))
        try simp only [Act.put, List.setIfInBounds_toArray, List.set_cons_zero, List.set_cons_succ]
        refine wpAnyH_take (i := 2) (oi := ⟨some 54, _, _, _, _, _⟩) (v := ?_) rfl (by kernel_rfl) (by kernel_rfl) (by kernel_rfl) (fun _ _ _ h => h) (Or.inl ⟨by rfl, ?_⟩) (by assumption) ?_
        rotate_left
        · (intro w hSw; (try dsimp only at hSw); first | (go_simp; done) | (go_simp; with_reducible rfl))
        try simp only [Act.put, List.setIfInBounds_toArray, List.set_cons_zero, List.set_cons_succ]
        refine wpAnyH_take (i := 3) (oi := ⟨some 55, _, _, _, _, _⟩) (v := ?_) rfl (by kernel_rfl) (by kernel_rfl) (by kernel_rfl) (fun _ _ _ h => h) (Or.inl ⟨by rfl, ?_⟩) (by assumption) ?_
        rotate_left
        · (intro w hSw; (try dsimp only at hSw); first | (go_simp; done) | (go_simp; with_reducible rfl))
        try simp only [Act.put, List.setIfInBounds_toArray, List.set_cons_zero, List.set_cons_succ]
        refine wpAnyH_take (i := 4) (oi := ⟨some 56, _, _, _, _, _⟩) (v := ?_) rfl (by kernel_rfl) (by kernel_rfl) (by kernel_rfl) (fun _ _ _ h => h) (Or.inl ⟨by rfl, ?_⟩) (by assumption) ?_
        rotate_left
        · (intro w hSw; (try dsimp only at hSw); first | (go_simp; done) | (go_simp; with_reducible rfl))
        try simp only [Act.put, List.setIfInBounds_toArray, List.set_cons_zero, List.set_cons_succ]
        refine wpAnyH_take (i := 6) (oi := ⟨some 58, _, _, _, _, _⟩) (v := ?_) rfl (by kernel_rfl) (by kernel_rfl) (by kernel_rfl) (fun _ _ _ h => h) (Or.inl ⟨by rfl, ?_⟩) (by assumption) ?_
        rotate_left
        · (intro w hSw; (try dsimp only at hSw); first | (go_simp; done) | (go_simp; with_reducible rfl))
        try simp only [Act.put, List.setIfInBounds_toArray, List.set_cons_zero, List.set_cons_succ]
        refine wpAnyH_ready (rs := [5, 7]) (by kernel_rfl) (by simp) ?_
        refine (AllReadyH.cons (o := ⟨some 57, _, _, _, _, _⟩) rfl (fun K hK => ?_) (AllReadyH.cons (o := ⟨some 59, _, _, _, _, _⟩) rfl (fun K hK => ?_) AllReadyH.nil))
        go_simp
        refine hK.out _ _ ?_ (fun hHeld => ?_)
        · exact HKS.out _ (Joins.below_alloc1 _ _)
        clear hK K
        try simp only [Act.put, List.setIfInBounds_toArray, List.set_cons_zero, List.set_cons_succ]
        refine wpAnyH_ready (rs := [7]) (by kernel_rfl) (by simp) ?_
        refine (AllReadyH.cons (o := ⟨some 59, _, _, _, _, _⟩) rfl (fun K hK => ?_) AllReadyH.nil)
        go_simp
        refine hK.out _ _ ?_ (fun hHeld => ?_)
        · exact HKS.out _ (Joins.below_alloc1 _ _)
        clear hK K
        try simp only [Act.put, List.setIfInBounds_toArray, List.set_cons_zero, List.set_cons_succ]
        rotate_left
        go_simp
        refine hK.out _ _ ?_ (fun hHeld => ?_)
        · exact c2
        clear hK K
        try simp only [Act.put, List.setIfInBounds_toArray, List.set_cons_zero, List.set_cons_succ]
        refine wpAnyH_ready (rs := [5]) (by kernel_rfl) (by simp) ?_
        refine (AllReadyH.cons (o := ⟨some 57, _, _, _, _, _⟩) rfl (fun K hK => ?_) AllReadyH.nil)
        go_simp
        refine hK.out _ _ ?_ (fun hHeld => ?_)
        · exact HKS.out _ (Joins.below_alloc1 _ _)
        clear hK K
        try simp only [Act.put, List.setIfInBounds_toArray, List.set_cons_zero, List.set_cons_succ]
        all_goals
          refine wpAnyH_ready (rs := [8]) (by kernel_rfl) (by simp) ?_
          refine (AllReadyH.cons (o := ⟨some 60, _, _, _, _, _⟩) rfl (fun K hK => ?_) AllReadyH.nil)
          refine step_cons8 (by rfl) (.tmp 57) (.tmp 59) (by rfl) y P qn cc xs (by rfl) (by rfl) HRD.out HNL.out HQB.out ?_
          intro P5 c5 w5 hO5 hB5
          have HO5 := Lib.hid hO5
          have HB5 := Lib.hid hB5
          obtain ⟨j0, j1, j2, j3, j4, j5, jf⟩ := HS7D.out.below hB5
          have jf4 := jf 4
          clear hO5 hB5 jf
          refine hK.out _ _ ?_ (fun hHeld => ?_)
          · exact HKS.out _ HB5.out
          clear hK K
          try simp only [Act.put, List.setIfInBounds_toArray, List.set_cons_zero, List.set_cons_succ]
          refine wpAnyH_take (i := 9) (oi := ⟨some 61, _, _, _, _, _⟩) (v := ?_) rfl (by kernel_rfl) (by kernel_rfl) (by kernel_rfl) (fun _ _ _ h => h) (Or.inl ⟨by rfl, ?_⟩) (by assumption) ?_
          rotate_left
          · (intro w hSw; (try dsimp only at hSw); first | (go_simp; done) | (go_simp; with_reducible rfl))
          try simp only [Act.put, List.setIfInBounds_toArray, List.set_cons_zero, List.set_cons_succ]
          refine wpAnyH_ready (rs := [10]) (by kernel_rfl) (by simp) ?_
          refine (AllReadyH.cons (o := ⟨none, _, _, _, _, _⟩) rfl (fun K hK => ?_) AllReadyH.nil)
          go_simp
          refine hK.out _ _ ?_ (fun hHeld => ?_)
          · exact (World.cell?_setCell_far _ _ _ _ HAP.out).trans (HKS.out _ HB5.out)
          clear hK K
          try simp only [Act.put, List.setIfInBounds_toArray, List.set_cons_zero, List.set_cons_succ]
          refine wpAnyH_done (by kernel_rfl) ?_ _
          refine NoPanic.normal ?_
          go_wp2_with fail
        all_goals
          refine ⟨⟨(q : Int) - 1, q, P5, qn + 1, c5, y :: xs, by first | rfl | go_num, by omega, by omega, by have := HM.out; omega, Lib.hid ⟨by omega, by have := HM.out; omega, by have := HM.out; omega⟩, Lib.hid ?_, HZ2, HD2⟩, ?_⟩
          · exact rnums_step HS4D.out HS7D.out HBD.out HB5.out HO5.out HI2.out HN.out.inn HG.out HDS.out
          · first | (simp [intOf]; done) | (simp [intOf]; omega)
      · have HZE : Hid (Z = xs) := Lib.hid (by rw [HZ.out, pre_succ ht']; simp [List.takeWhile_cons, isN, hN'])
        have HDE : Hid ((D.length : Int) - 1 = (q : Int)) := Lib.hid (by
          rw [HD.out, pre_succ ht']
          simp [List.dropWhile_cons, isN, hN']
          rw [pre_len (by have := HM.out; rw [HML.out]; omega)])
        have hk2 : (t'.k == 2) = false := by simpa using hN'
        generalize t'.k = tk' at *
        obtain ⟨c0, c1, c2, c3, c4, c5, f⟩ := HN.out.four
        have f0 := f 0; have f1 := f 1; have f2 := f 2; have f3 := f 3; have f4 := f 4; have f5 := f 5
        obtain ⟨y0, y1, y2, y3, y4, y5, -⟩ := HN.out.seven
        have ne : w.heap.size ≠ w1.heap.size := by have := HG.out; omega
        clear f hfin ht' hN' k1 k2
        go_wp2_with fail
        refine bodyPost_ret (v := .tuple #[.agg #[.int .i64 1, .int .i64 0, .int .i64 (-1), .string ⟨#[]⟩, .slice P qn cc, .slice none 0 0], .int .i64 q, .bool true]) (by simp [results, Tryz.results75, go_sem, c0, c1, c2, c3, c4, c5]) rfl ?_
        have := opTo_put (q := D) HN.out.below (Nat.lt_succ_self _) (rd_lit (Q := fun k => w.heap.size + 1 ≤ k) HN.out.rd HN.out.cap hqn HN.out.nil HN.out.inn (fun ad e _ => by have := HN.out.lo ad e; have := HG.out; show _ ≤ ad.block; omega))
        rw [HDE.out] at this
        rw [HZE.out]
        exact this
end Go.Proofs.YthgojbaindejjaaGreatDoor.ps

/- The reference of package parse: functions with their axes; operands, all of them. -/
namespace Go.Proofs.YthgojbaindejjaaGreatDoor.ps
open Go.ChangeShapes Go.WideShapes Go.ChangeAt Go.RowKit Go.Proofs.YthgojbaindejjaaGreatDoor.mem Go.Proofs.YthgojbaindejjaaGreatDoor.lx Go.Proofs.YthgojbaindejjaaGreatDoor.tr
set_option linter.unusedVariables false
set_option linter.unusedSimpArgs false

theorem rop_any (n : Nat) (hE : RxAt n) {w : World} {A : Option Addr} {m c mm : Nat} {L : List Tk} (h : RdK w A m L) (hmm : mm ≤ m) (hm : m ≤ 65536) (hmc : m ≤ c) (hcm : c ≤ maxLen) (hok : okL L) (hmn : mm ≤ n + 1) {i : Int} (hi : i = (mm : Int) - 1) :
    Calls Tryz.prog 75 #[.slice A m c, .int .i64 i] w (OpTo w (rOp (rEx n) (pre L mm))) := by
  cases mm with
  | zero =>
    have : i < 0 := by omega
    exact rop_neg n this
  | succ k =>
    obtain rfl : i = (k : Int) := by omega
    obtain ⟨t, ht⟩ : ∃ t, L[k]? = some t := ⟨_, List.getElem?_eq_getElem (by rw [h.1]; omega)⟩
    by_cases h1 : t.k = 1
    · exact rop_name _ h ht hm hok h1
    by_cases h2 : isG t gZil
    · exact rop_zil _ h ht hm h1 h2
    by_cases h3 : t.k = 2
    · exact rop_nums _ h ht hm hok h2 h3
    by_cases h4 : isG t gR
    · exact rop_paren n hE h ht hm hmc hcm hok (by omega) h1 h2 h3 h4
    · exact rop_none _ h ht hm h1 h2 h3 h4
theorem rFn_cons (b : Tk) (r : List Tk) : rFn (b :: r) = if isG b gRB then (match r with
      | x :: lb :: t :: q => if x.k = 2 ∧ 0 ≤ x.n ∧ x.n ≤ 15 ∧ isG lb gLB ∧ t.k = 3 ∧ (fnT t.t = 3 ∨ fnT t.t = 6) then some (fnT t.t, x.n, q) else none
      | _ => none)
    else if b.k = 3 ∧ fnT b.t ≠ 0 then some (fnT b.t, -1, r) else none := rfl
/-- What function answers. -/
def FnTo (w : World) (r : Option (Int × Int × List Tk)) (e : Ending) (w' : World) : Prop := Below w.heap.size w w' ∧ match r with
  | none => ∃ j : Int, e = .returned (.tuple #[.int .i64 0, .int .i64 0, .int .i64 j, .bool false])
  | some (F, ax, q) => e = .returned (.tuple #[.int .i64 F, .int .i64 ax, .int .i64 ((q.length : Int) - 1), .bool true])
set_option maxHeartbeats 2000000 in
/-- A glyph that is no bracket. -/
theorem rfn_plain {w : World} {A : Option Addr} {m c k : Nat} {L : List Tk} {t : Tk} (h : RdK w A m L) (hk : L[k]? = some t) (hm : m ≤ 65536) (ht : ¬ isG t gRB) :
    Calls Tryz.prog 76 #[.slice A m c, .int .i64 k] w (FnTo w (rFn (pre L (k + 1)))) := by
  have hkl := (List.getElem?_eq_some_iff.1 hk).1
  have hmL := h.1
  rw [pre_succ hk, rFn_cons, if_neg ht]
  have HQ := Lib.hid (pre_len (L := L) (m := k) (by omega))
  have P := Lib.hid (glyph_at (c := c) gRB h hk hm)
  rw [decide_eq_false ht] at P
  have PF := Lib.hid (fun V => refFn_any t.k t.n t.t V)
  have HRK := Lib.hid (fun V (hV : Below w.heap.size w V) => h.below hV)
  obtain ⟨ad, rfl, hkn, d0, d1, d2⟩ := rdK_at h hk
  have HC := Lib.hid (fun V (hV : Below w.heap.size w V) => show V.cell? (ad.add (k * 3)) = some (.int .i64 t.k) ∧ V.cell? ⟨(ad.add (k * 3)).block, (ad.add (k * 3)).off + 1, none⟩ = some (.string (txt.strOf t.t)) ∧ V.cell? ⟨(ad.add (k * 3)).block, (ad.add (k * 3)).off + 2, none⟩ = some (.int .i64 t.n) by
    obtain ⟨ad2, e2, _, r0, r1, r2⟩ := rdK_at (HRK.out V hV) hk
    injection e2 with e2
    subst e2
    exact ⟨r0, r1, r2⟩)
  by_cases hF : t.k = 3 ∧ fnT t.t ≠ 0
  · rw [if_pos hF]
    have e1 : fnK t.k t.t = fnT t.t := by unfold fnK; rw [if_pos hF.1]
    rw [e1] at PF
    have e2 : (fnT t.t == 0) = false := by simpa using hF.2
    generalize fnT t.t = F at *
    generalize t.t = tt, t.n = tn, t.k = tk at *
    generalize pre L k = q at *
    clear h hk hkl hmL ht hF e1
    go_enter Tryz.func76, Tryz.ntmps76
    go_wp2_with fail
    refine P.out.mono ?_
    rintro e w1 ⟨rfl, rfl⟩
    go_wp2_with fail
    refine (PF.out _).mono ?_
    rintro e w2 ⟨rfl, hb⟩
    have HB := Lib.hid hb
    obtain ⟨r0, r1, r2⟩ := HC.out w2 hb
    clear hb d0 d1 d2
    go_wp2_with fail
    refine (PF.out _).mono ?_
    rintro e w3 ⟨rfl, hb⟩
    have HB2 := Lib.hid (HB.out.trans (hb.mono HB.out.size))
    clear hb
    go_wp2_with fail
    refine bodyPost_ret (v := .tuple #[.int .i64 F, .int .i64 (-1), .int .i64 ((k : Int) - 1), .bool true]) (by simp [results, Tryz.results76, go_sem]) rfl ?_
    exact ⟨HB2.out, by simp only []; rw [HQ.out]⟩
  · rw [if_neg hF]
    have e1 : fnK t.k t.t = 0 := by
      unfold fnK
      by_cases h3 : t.k = 3
      · rw [if_pos h3]; exact Decidable.byContradiction fun e => hF ⟨h3, e⟩
      · rw [if_neg h3]
    rw [e1] at PF
    generalize t.t = tt, t.n = tn, t.k = tk at *
    clear h hk hkl hmL ht hF e1
    go_enter Tryz.func76, Tryz.ntmps76
    go_wp2_with fail
    refine P.out.mono ?_
    rintro e w1 ⟨rfl, rfl⟩
    go_wp2_with fail
    refine (PF.out _).mono ?_
    rintro e w2 ⟨rfl, hb⟩
    have HB := Lib.hid hb
    clear hb
    go_wp2_with fail
    refine bodyPost_ret (v := .tuple #[.int .i64 0, .int .i64 0, .int .i64 k, .bool false]) (by simp [results, Tryz.results76, go_sem]) rfl ?_
    exact ⟨HB.out, k, rfl⟩
/-- A token's cells in every world behind. -/
theorem rdK_all {w : World} {ad : Addr} {m k : Nat} {L : List Tk} {t : Tk} (h : RdK w (some ad) m L) (hk : L[k]? = some t) : ∀ V, Below w.heap.size w V → V.cell? (ad.add (k * 3)) = some (.int .i64 t.k) ∧ V.cell? ⟨(ad.add (k * 3)).block, (ad.add (k * 3)).off + 1, none⟩ = some (.string (txt.strOf t.t)) ∧ V.cell? ⟨(ad.add (k * 3)).block, (ad.add (k * 3)).off + 2, none⟩ = some (.int .i64 t.n) := fun V hV => by
  obtain ⟨ad2, e2, _, r0, r1, r2⟩ := rdK_at (h.below hV) hk
  injection e2 with e2
  subst e2
  exact ⟨r0, r1, r2⟩
set_option maxHeartbeats 4000000 in
theorem rfn_few {w : World} {A : Option Addr} {m c k : Nat} {L : List Tk} {b : Tk} (h : RdK w A m L) (hk : L[k]? = some b) (hm : m ≤ 65536) (hb : isG b gRB) (h3 : k < 3) :
    Calls Tryz.prog 76 #[.slice A m c, .int .i64 k] w (FnTo w (rFn (pre L (k + 1)))) := by
  have hkl := (List.getElem?_eq_some_iff.1 hk).1
  have e0 : rFn (pre L (k + 1)) = none := by
    rw [pre_succ hk, rFn_cons, if_pos hb]
    have hl := pre_len (L := L) (m := k) (by omega)
    match hp : pre L k with
    | [] => rfl
    | [_] => rfl
    | [_, _] => rfl
    | x :: y :: z :: q => rw [hp] at hl; simp at hl; omega
  rw [e0]
  have P := Lib.hid (glyph_at (c := c) gRB h hk hm)
  rw [decide_eq_true hb] at P
  have hlt : decide ((k : Int) < 3) = true := decide_eq_true (by omega)
  clear h hk hkl e0 hb
  go_enter Tryz.func76, Tryz.ntmps76
  go_wp2_with fail
  refine P.out.mono ?_
  rintro e w1 ⟨rfl, rfl⟩
  go_wp2_with fail
  refine bodyPost_ret (v := .tuple #[.int .i64 0, .int .i64 0, .int .i64 k, .bool false]) (by simp [results, Tryz.results76, go_sem]) rfl ?_
  exact ⟨Below.refl _ _, k, rfl⟩
set_option maxHeartbeats 8000000 in
theorem rfn_axis {w : World} {A : Option Addr} {m c k k1 k2 k3 : Nat} {L : List Tk} {b x lb t : Tk} (h : RdK w A m L) (hk : L[k]? = some b) (hm : m ≤ 65536) (hb : isG b gRB) (e1 : k = k1 + 1) (e2 : k1 = k2 + 1) (e3 : k2 = k3 + 1) (hx : L[k1]? = some x) (hlb : L[k2]? = some lb) (ht : L[k3]? = some t) :
    Calls Tryz.prog 76 #[.slice A m c, .int .i64 k] w (FnTo w (rFn (pre L (k + 1)))) := by
  have hkl := (List.getElem?_eq_some_iff.1 hk).1
  have hmL := h.1
  have e0 : rFn (pre L (k + 1)) = if x.k = 2 ∧ 0 ≤ x.n ∧ x.n ≤ 15 ∧ isG lb gLB ∧ t.k = 3 ∧ (fnT t.t = 3 ∨ fnT t.t = 6) then some (fnT t.t, x.n, pre L k3) else none := by
    rw [pre_succ hk, rFn_cons, if_pos hb, e1, pre_succ hx, e2, pre_succ hlb, e3, pre_succ ht]
  rw [e0]
  have HQ := Lib.hid (pre_len (L := L) (m := k3) (by omega))
  have P := Lib.hid (glyph_at (c := c) gRB h hk hm)
  rw [decide_eq_true hb] at P
  have P2 := Lib.hid (glyph_at (c := c) gLB h hlb hm)
  have PF := Lib.hid (fun V => refFn_any t.k t.n t.t V)
  obtain ⟨ad, rfl, hkn, d0, d1, d2⟩ := rdK_at h hk
  have HX := Lib.hid (rdK_all h hx)
  have HT := Lib.hid (rdK_all h ht)
  obtain ⟨x0, x1, x2⟩ := HX.out w (Below.refl _ _)
  obtain ⟨t0, t1, t2⟩ := HT.out w (Below.refl _ _)
  have i1 : (k : Int) - 1 = (k1 : Int) := by omega
  have i2 : (k : Int) - 2 = (k2 : Int) := by omega
  have i3 : (k : Int) - 3 = (k3 : Int) := by omega
  have i4 : decide ((k : Int) < 3) = false := decide_eq_false (by omega)
  have i5 : (k3 : Int) - 1 = (k3 : Int) - 1 := rfl
  have b1 : k1 < m := by omega
  have b3 : k3 < m := by omega
  clear hk e1 e2 e3 hx hlb ht hb e0 hkl hmL h d0 d1 d2 i5
  by_cases h1 : x.k = 2
  · have g1 : (x.k != 2) = false := by rw [h1]; rfl
    have g1' : (x.k == 2) = true := by rw [h1]; rfl
    by_cases h2 : x.n < 0
    · rw [if_neg (fun e => by omega)]
      generalize x.k = xk, x.t = xt, x.n = xn at *
      clear h1 HX HT
      go_enter Tryz.func76, Tryz.ntmps76
      go_wp2_with fail
      refine P.out.mono ?_
      rintro e w1 ⟨rfl, rfl⟩
      go_wp2_with fail
      refine bodyPost_ret (v := .tuple #[.int .i64 0, .int .i64 0, .int .i64 k, .bool false]) (by simp [results, Tryz.results76, go_sem]) rfl ?_
      exact ⟨Below.refl _ _, k, rfl⟩
    · by_cases h3 : 15 < x.n
      · rw [if_neg (fun e => by omega)]
        generalize x.k = xk, x.t = xt, x.n = xn at *
        clear h1 HX HT
        go_enter Tryz.func76, Tryz.ntmps76
        go_wp2_with fail
        refine P.out.mono ?_
        rintro e w1 ⟨rfl, rfl⟩
        go_wp2_with fail
        refine bodyPost_ret (v := .tuple #[.int .i64 0, .int .i64 0, .int .i64 k, .bool false]) (by simp [results, Tryz.results76, go_sem]) rfl ?_
        exact ⟨Below.refl _ _, k, rfl⟩
      · by_cases h4 : isG lb gLB
        · rw [decide_eq_true h4] at P2
          have HF : Hid ((x.k = 2 ∧ 0 ≤ x.n ∧ x.n ≤ 15 ∧ isG lb gLB ∧ t.k = 3 ∧ (fnT t.t = 3 ∨ fnT t.t = 6)) ↔ (fnK t.k t.t = 3 ∨ fnK t.k t.t = 6)) := Lib.hid (by
            unfold fnK
            constructor
            · rintro ⟨_, _, _, _, q1, q2⟩; rw [if_pos q1]; exact q2
            · intro q
              by_cases q1 : t.k = 3
              · rw [if_pos q1] at q; exact ⟨h1, by omega, by omega, h4, q1, q⟩
              · rw [if_neg q1] at q; omega)
          by_cases h5 : fnK t.k t.t = 3 ∨ fnK t.k t.t = 6
          · rw [if_pos (HF.out.2 h5)]
            have HFE : Hid (fnT t.t = fnK t.k t.t) := Lib.hid (by unfold fnK; rw [if_pos (HF.out.2 h5).2.2.2.2.1])
            rw [HFE.out]
            have hf0 : (fnK t.k t.t == 0) = false := by simp; omega
            have hf : ((fnK t.k t.t != 3) = false ∧ (fnK t.k t.t == 3) = true) ∨ ((fnK t.k t.t != 3) = true ∧ (fnK t.k t.t == 3) = false ∧ (fnK t.k t.t != 6) = false ∧ (fnK t.k t.t == 6) = true) := by
              rcases h5 with q | q
              · left; rw [q]; exact ⟨rfl, rfl⟩
              · right; rw [q]; exact ⟨rfl, rfl, rfl, rfl⟩
            have hx0 : 0 ≤ x.n := by omega
            generalize fnK t.k t.t = F at *
            generalize x.k = xk, x.t = xt, x.n = xn, t.k = tk, t.t = tt, t.n = tn at *
            generalize pre L k3 = q at *
            clear h1 HF HFE h5
            rcases hf with ⟨hf1, hf2⟩ | ⟨hf1, hf2, hf3, hf4⟩
            · go_enter Tryz.func76, Tryz.ntmps76
              go_wp2_with fail
              refine P.out.mono ?_
              rintro e w1 ⟨rfl, rfl⟩
              go_wp2_with fail
              refine P2.out.mono ?_
              rintro e w1 ⟨rfl, rfl⟩
              go_wp2_with fail
              refine (PF.out _).mono ?_
              rintro e v1 ⟨rfl, hb⟩
              have HB1 := Lib.hid (hb)
              clear hb t0 t1 t2
              obtain ⟨t0, t1, t2⟩ := HT.out v1 HB1.out
              go_wp2_with fail
              refine (PF.out _).mono ?_
              rintro e v2 ⟨rfl, hb⟩
              have HB2 := Lib.hid (HB1.out.trans (hb.mono HB1.out.size))
              clear hb t0 t1 t2
              obtain ⟨t0, t1, t2⟩ := HT.out v2 HB2.out
              go_wp2_with fail
              refine (PF.out _).mono ?_
              rintro e v3 ⟨rfl, hb⟩
              have HB3 := Lib.hid (HB2.out.trans (hb.mono HB2.out.size))
              clear hb t0 t1 t2
              obtain ⟨t0, t1, t2⟩ := HT.out v3 HB3.out
              go_wp2_with fail
              refine bodyPost_ret (v := .tuple #[.int .i64 F, .int .i64 xn, .int .i64 ((k3 : Int) - 1), .bool true]) (by simp [results, Tryz.results76, go_sem]) rfl ?_
              exact ⟨HB3.out, by simp only []; rw [HQ.out]⟩
            · go_enter Tryz.func76, Tryz.ntmps76
              go_wp2_with fail
              refine P.out.mono ?_
              rintro e w1 ⟨rfl, rfl⟩
              go_wp2_with fail
              refine P2.out.mono ?_
              rintro e w1 ⟨rfl, rfl⟩
              go_wp2_with fail
              refine (PF.out _).mono ?_
              rintro e v1 ⟨rfl, hb⟩
              have HB1 := Lib.hid (hb)
              clear hb t0 t1 t2
              obtain ⟨t0, t1, t2⟩ := HT.out v1 HB1.out
              go_wp2_with fail
              refine (PF.out _).mono ?_
              rintro e v2 ⟨rfl, hb⟩
              have HB2 := Lib.hid (HB1.out.trans (hb.mono HB1.out.size))
              clear hb t0 t1 t2
              obtain ⟨t0, t1, t2⟩ := HT.out v2 HB2.out
              go_wp2_with fail
              refine (PF.out _).mono ?_
              rintro e v3 ⟨rfl, hb⟩
              have HB3 := Lib.hid (HB2.out.trans (hb.mono HB2.out.size))
              clear hb t0 t1 t2
              obtain ⟨t0, t1, t2⟩ := HT.out v3 HB3.out
              go_wp2_with fail
              refine (PF.out _).mono ?_
              rintro e v4 ⟨rfl, hb⟩
              have HB4 := Lib.hid (HB3.out.trans (hb.mono HB3.out.size))
              clear hb t0 t1 t2
              obtain ⟨t0, t1, t2⟩ := HT.out v4 HB4.out
              go_wp2_with fail
              refine bodyPost_ret (v := .tuple #[.int .i64 F, .int .i64 xn, .int .i64 ((k3 : Int) - 1), .bool true]) (by simp [results, Tryz.results76, go_sem]) rfl ?_
              exact ⟨HB4.out, by simp only []; rw [HQ.out]⟩
          · rw [if_neg (fun e => h5 (HF.out.1 e))]
            have hx0 : 0 ≤ x.n := by omega
            have hf : (fnK t.k t.t == 0) = true ∨ ((fnK t.k t.t == 0) = false ∧ (fnK t.k t.t != 3) = true ∧ (fnK t.k t.t == 3) = false ∧ (fnK t.k t.t != 6) = true ∧ (fnK t.k t.t == 6) = false) := by
              by_cases q : fnK t.k t.t = 0
              · left; rw [q]; rfl
              · right
                have q3 : fnK t.k t.t ≠ 3 := fun e => h5 (.inl e)
                have q6 : fnK t.k t.t ≠ 6 := fun e => h5 (.inr e)
                exact ⟨by simpa using q, by simpa using q3, by simpa using q3, by simpa using q6, by simpa using q6⟩
            generalize fnK t.k t.t = F at *
            generalize x.k = xk, x.t = xt, x.n = xn, t.k = tk, t.t = tt, t.n = tn at *
            clear h1 HF h5
            rcases hf with hf0 | ⟨hf0, hf1, hf2, hf3, hf4⟩
            · go_enter Tryz.func76, Tryz.ntmps76
              go_wp2_with fail
              refine P.out.mono ?_
              rintro e w1 ⟨rfl, rfl⟩
              go_wp2_with fail
              refine P2.out.mono ?_
              rintro e w1 ⟨rfl, rfl⟩
              go_wp2_with fail
              refine (PF.out _).mono ?_
              rintro e v1 ⟨rfl, hb⟩
              have HB1 := Lib.hid (hb)
              clear hb t0 t1 t2
              obtain ⟨t0, t1, t2⟩ := HT.out v1 HB1.out
              go_wp2_with fail
              refine bodyPost_ret (v := .tuple #[.int .i64 0, .int .i64 0, .int .i64 k3, .bool false]) (by simp [results, Tryz.results76, go_sem]) rfl ?_
              exact ⟨HB1.out, k3, rfl⟩
            · go_enter Tryz.func76, Tryz.ntmps76
              go_wp2_with fail
              refine P.out.mono ?_
              rintro e w1 ⟨rfl, rfl⟩
              go_wp2_with fail
              refine P2.out.mono ?_
              rintro e w1 ⟨rfl, rfl⟩
              go_wp2_with fail
              refine (PF.out _).mono ?_
              rintro e v1 ⟨rfl, hb⟩
              have HB1 := Lib.hid (hb)
              clear hb t0 t1 t2
              obtain ⟨t0, t1, t2⟩ := HT.out v1 HB1.out
              go_wp2_with fail
              refine (PF.out _).mono ?_
              rintro e v2 ⟨rfl, hb⟩
              have HB2 := Lib.hid (HB1.out.trans (hb.mono HB1.out.size))
              clear hb t0 t1 t2
              obtain ⟨t0, t1, t2⟩ := HT.out v2 HB2.out
              go_wp2_with fail
              refine (PF.out _).mono ?_
              rintro e v3 ⟨rfl, hb⟩
              have HB3 := Lib.hid (HB2.out.trans (hb.mono HB2.out.size))
              clear hb t0 t1 t2
              obtain ⟨t0, t1, t2⟩ := HT.out v3 HB3.out
              go_wp2_with fail
              refine bodyPost_ret (v := .tuple #[.int .i64 0, .int .i64 0, .int .i64 k3, .bool false]) (by simp [results, Tryz.results76, go_sem]) rfl ?_
              exact ⟨HB3.out, k3, rfl⟩
        · rw [if_neg (fun e => h4 e.2.2.2.1)]
          rw [decide_eq_false h4] at P2
          generalize x.k = xk, x.t = xt, x.n = xn at *
          clear h1 HX HT
          go_enter Tryz.func76, Tryz.ntmps76
          go_wp2_with fail
          refine P.out.mono ?_
          rintro e w1 ⟨rfl, rfl⟩
          go_wp2_with fail
          refine P2.out.mono ?_
          rintro e w1 ⟨rfl, rfl⟩
          go_wp2_with fail
          refine bodyPost_ret (v := .tuple #[.int .i64 0, .int .i64 0, .int .i64 k, .bool false]) (by simp [results, Tryz.results76, go_sem]) rfl ?_
          exact ⟨Below.refl _ _, k, rfl⟩
  · have g1 : (x.k != 2) = true := by simpa using h1
    have g1' : (x.k == 2) = false := by simpa using h1
    rw [if_neg (fun e => h1 e.1)]
    generalize x.k = xk, x.t = xt, x.n = xn at *
    clear h1 HX HT
    go_enter Tryz.func76, Tryz.ntmps76
    go_wp2_with fail
    refine P.out.mono ?_
    rintro e w1 ⟨rfl, rfl⟩
    go_wp2_with fail
    refine bodyPost_ret (v := .tuple #[.int .i64 0, .int .i64 0, .int .i64 k, .bool false]) (by simp [results, Tryz.results76, go_sem]) rfl ?_
    exact ⟨Below.refl _ _, k, rfl⟩
theorem rfn_any {w : World} {A : Option Addr} {m c mm : Nat} {L : List Tk} (h : RdK w A m L) (hmm : mm ≤ m) (hm : m ≤ 65536) (h1 : 1 ≤ mm) {i : Int} (hi : i = (mm : Int) - 1) :
    Calls Tryz.prog 76 #[.slice A m c, .int .i64 i] w (FnTo w (rFn (pre L mm))) := by
  cases mm with
  | zero => omega
  | succ k =>
    obtain rfl : i = (k : Int) := by omega
    have hat : ∀ q, q < m → ∃ t, L[q]? = some t := fun q hq => ⟨_, List.getElem?_eq_getElem (by rw [h.1]; exact hq)⟩
    obtain ⟨b, hb⟩ := hat k (by omega)
    by_cases hg : isG b gRB
    · by_cases h3 : k < 3
      · exact rfn_few h hb hm hg h3
      · obtain ⟨x, hx⟩ := hat (k - 1) (by omega)
        obtain ⟨lb, hlb⟩ := hat (k - 2) (by omega)
        obtain ⟨t, ht⟩ := hat (k - 3) (by omega)
        exact rfn_axis h hb hm hg (k1 := k - 1) (k2 := k - 2) (k3 := k - 3) (by omega) (by omega) (by omega) hx hlb ht
    · exact rfn_plain h hb hm hg
end Go.Proofs.YthgojbaindejjaaGreatDoor.ps
