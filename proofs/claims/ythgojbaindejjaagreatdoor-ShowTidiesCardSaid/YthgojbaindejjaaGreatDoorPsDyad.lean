/- Package parse: expressions with two operands. -/
import Derived.Test.YthgojbaindejjaaGreatDoorPsExpr
namespace Go.Proofs.YthgojbaindejjaaGreatDoor.ps
open Go.ChangeShapes Go.WideShapes Go.ChangeAt Go.RowKit Go.Proofs.YthgojbaindejjaaGreatDoor.mem Go.Proofs.YthgojbaindejjaaGreatDoor.lx Go.Proofs.YthgojbaindejjaaGreatDoor.tr
set_option linter.unusedVariables false
set_option linter.unusedSimpArgs false
attribute [local go_sem] tk_kind tk_text tk_num

/-- Two branches in a row of their own. -/
theorem rowB_two {Q : Nat → Prop} {X Y : World} {U T : Tr} {u v : S6} {t : TypeId} (hu : RdQ Q X U u.agg) (hv : RdQ Q X T v.agg) (hY : Y = X.alloc (.cells #[u.c0, u.c1, u.c2, u.c3, u.c4, u.c5, .int .i64 (deepT U), v.c0, v.c1, v.c2, v.c3, v.c4, v.c5, .int .i64 (deepT T)] t)) : RowB Q Y ⟨X.heap.size, 0, none⟩ [U, T] ∧ Below X.heap.size X Y := by
  have hb : Below X.heap.size X Y := by rw [hY]; exact Joins.below_alloc1 _ _
  have hz : Y.heap.size = X.heap.size + 1 := by rw [hY]; simp
  refine ⟨?_, hb⟩
  intro k W hk
  match k, hk with
  | 0, hk =>
    simp at hk
    subst hk
    refine ⟨by show X.heap.size < Y.heap.size; omega, u, hu.below hb, ?_⟩
    rw [Nat.zero_mul, add_at]
    simp only [Nat.zero_add]
    rw [hY]
    exact ⟨by simp, by simp, by simp, by simp, by simp, by simp, by simp⟩
  | 1, hk =>
    simp at hk
    subst hk
    refine ⟨by show X.heap.size < Y.heap.size; omega, v, hv.below hb, ?_⟩
    rw [Nat.one_mul, add_at]
    rw [hY]
    exact ⟨by simp, by simp, by simp, by simp, by simp, by simp, by simp⟩
  | k + 2, hk => simp at hk
theorem deepL_two (U T : Tr) : deepL [U, T] = max (deepT U) (deepT T) := by simp [deepL]
theorem deep_dy (F ax : Int) (U T : Tr) : deepT (dy F ax U T) = max (deepT U) (deepT T) + 1 := by unfold dy; rw [deep_node, deepL_two]
theorem rd_dy {Q : Nat → Prop} {w : World} {F ax : Int} {U T : Tr} {B : Option Addr} {d : Nat} (hF : 0 ≤ F ∧ F ≤ 6) (hx : -1 ≤ ax ∧ ax ≤ 15) (h1 : 2 ≤ d) (hn : B = none → d = 0) (hr : RdQL Q w [U, T] B 0) :
    RdQ Q w (dy F ax U T) (.agg #[.int .i64 4, .int .i64 F, .int .i64 ax, .string ⟨#[]⟩, .slice none 0 0, .slice B 2 d]) := by
  unfold dy
  rw [rdQ_node]
  exact ⟨none, 0, 0, B, 2, d, rfl, in64_k (by decide) (by decide), in64_k (by omega) (by omega), in64_k (by omega) (by omega), by decide, Rd.nil_, Nat.le_refl _, by omega, (fun _ => rfl), (fun x hx => by simp at hx), rfl, h1, by omega, hn, (fun ad e _ => by cases e), hr⟩
/-- A node of two operands is made. -/
theorem apply_two {X v1 : World} {U T : Tr} {u v : S6} {F ax : Int} {mm : Bool} {B0 : Nat} (hu : RdQ (fun k => B0 ≤ k) v1 U u.agg) (hv : RdQ (fun k => B0 ≤ k) v1 T v.agg) (hB : B0 ≤ v1.heap.size) (hX : Below v1.heap.size v1 X) (hd : deepT U ≤ 65536 ∧ deepT T ≤ 65536) (hF : 0 ≤ F ∧ F ≤ 6) (hx : -1 ≤ ax ∧ ax ≤ 15) :
    Calls Tryz.prog 56 #[.agg #[.int .i64 F, .bool mm], .int .i64 4, .int .i64 ax, .slice (some ⟨X.heap.size, 0, none⟩) 2 2] (X.alloc (.cells #[u.c0, u.c1, u.c2, u.c3, u.c4, u.c5, .int .i64 (deepT U), v.c0, v.c1, v.c2, v.c3, v.c4, v.c5, .int .i64 (deepT T)] 68)) fun e w' => ∃ B d,
      e = .returned (.agg #[.int .i64 4, .int .i64 F, .int .i64 ax, .string ⟨#[]⟩, .slice none 0 0, .slice B 2 d, .int .i64 (deepT (dy F ax U T) : Nat)]) ∧ RdQ (fun k => B0 ≤ k) w' (dy F ax U T) (.agg #[.int .i64 4, .int .i64 F, .int .i64 ax, .string ⟨#[]⟩, .slice none 0 0, .slice B 2 d]) ∧ Below v1.heap.size v1 w' := by
  obtain ⟨Y, hY⟩ : ∃ Y, Y = X.alloc (.cells #[u.c0, u.c1, u.c2, u.c3, u.c4, u.c5, .int .i64 (deepT U), v.c0, v.c1, v.c2, v.c3, v.c4, v.c5, .int .i64 (deepT T)] 68) := ⟨_, rfl⟩
  obtain ⟨hr, hbY⟩ := rowB_two (Q := fun k => B0 ≤ k ∧ k < v1.heap.size) (hu.old.below hX) (hv.old.below hX) hY
  rw [← hY]
  refine (apply_any (fun k => B0 ≤ k ∧ k < v1.heap.size) mm F 4 ax ⟨X.heap.size, 0, none⟩ 2 2 [U, T] Y (fun k hk => by have := hk.2; have := hX.size; have := hbY.size; omega) rfl (by omega) hr (fun V hV => by simp at hV; rcases hV with rfl | rfl <;> omega)).mono ?_
  rintro e w' ⟨B, d, rfl, h1, h2, h3, h4⟩
  refine ⟨B, d, by rw [deep_dy, deepL_two]; rfl, rd_dy hF hx h1 h2 (RdQL.keep (Nat.le_refl _) (fun a _ _ => rfl) (fun k hk => ?_) h3), (hX.trans (hbY.mono hX.size)).trans (h4.mono (by have := hX.size; have := hbY.size; omega))⟩
  rcases hk with hk | hk
  · exact hk.1
  · have := hX.size
    have := hbY.size
    show B0 ≤ k
    omega
set_option maxHeartbeats 8000000 in
theorem expr_dy {b m1 m2 : Nat} {w : World} {L : List Tk} (n : Nat) (h : At b m1 m2 w L) (hE : ExAt b m1 m2 n) (hn : L.length < n + 1) (hc : mnT (hd L) = 0) :
    Calls Tryz.prog 42 #[.pointer (some ⟨b, 0, none⟩)] w (AnsT b m1 m2 w (dEx (n + 1) L)) := by
  obtain ⟨W, hW⟩ : ∃ W, W = w.alloc (.cells #[.int .i64 0, .int .i64 0, .int .i64 0, .string ⟨#[]⟩, .slice none 0 0, .slice none 0 0, .int .i64 0] 68) := ⟨_, rfl⟩
  have HO := Lib.hid (op0_new h hW)
  have PF := Lib.hid (function_any false HO.out.at_)
  have hmap := HO.out.at_.mon
  rw [dEx_succ, if_neg (by rw [hc]; decide)]
  change Hid (Calls Tryz.prog 54 #[.pointer (some ⟨b, 0, none⟩), .map (some m1)] W (fun e w' => e = .returned (.tuple #[.agg #[.int .i64 (mnT (hd L)), .bool (decide (mnT (hd L) = 3))], .bool (decide (mnT (hd L) ≠ 0))]) ∧ Mv b W w' ∧ At b m1 m2 w' (if mnT (hd L) ≠ 0 then L.tail else L))) at PF
  rw [hc] at PF
  rw [if_neg (by decide), show decide ((0 : Int) ≠ 0) = false from rfl, show decide ((0 : Int) = 3) = false from rfl] at PF
  have PO := Lib.hid (fun V (h : At b m1 m2 V L) => operand_any n h hE (by omega))
  have HW := Lib.hid hW
  have HLN := Lib.hid (show L.length ≤ n by omega)
  have HOKL := Lib.hid h.ok
  have HL65 := Lib.hid h.len
  clear h hW hn hc
  cases ho : dOp (dEx n) L with
  | none =>
    rw [ho] at PO
    simp only [] at PO ⊢
    clear ho
    go_enter Tryz.func42, Tryz.ntmps42
    go_upto_region 1 with fail
    rw [← HW.out]
    go_wp2_with fail
    refine PF.out.mono ?_
    rintro e w1 ⟨rfl, hm, ha⟩
    have HO1 := Lib.hid (HO.out.mvs hm ha)
    obtain ⟨V, hV⟩ : ∃ V, V = w1.alloc (.cells #[.int .i64 0, .bool false] 91) := ⟨_, rfl⟩
    obtain ⟨hT, hbV, hsV⟩ := two_new hV
    have HOV := Lib.hid (HO1.out.below hbV)
    have P1 := Lib.hid (PO.out V HOV.out.at_)
    have HV := Lib.hid hV
    clear hm ha hV hbV hsV hT
    go_wp2_with fail
    rw [← HV.out]
    refine P1.out.mono ?_
    rintro e w3 ⟨hm, rfl⟩
    exact ⟨rfl, HOV.out.mv.trans hm, rfl⟩
  | some p =>
    obtain ⟨U, r⟩ := p
    have hod := dOp_deep HOKL.out ho
    rw [ho] at PO
    simp only [] at PO ⊢
    have PG := Lib.hid (fun V (h : At b m1 m2 V r) => function_any true h)
    change Hid (∀ V, At b m1 m2 V r → Calls Tryz.prog 54 #[.pointer (some ⟨b, 0, none⟩), .map (some m2)] V (fun e w' => e = .returned (.tuple #[.agg #[.int .i64 (fnT (hd r)), .bool (mayB (fnT (hd r)))], .bool (decide (fnT (hd r) ≠ 0))]) ∧ Mv b V w' ∧ At b m1 m2 w' (if fnT (hd r) ≠ 0 then r.tail else r))) at PG
    have HF : Hid (0 ≤ fnT (hd r) ∧ fnT (hd r) ≤ 6) := Lib.hid (fn_range (hd r))
    have HUD := Lib.hid (show deepT U ≤ 65536 by have := HL65.out; omega)
    by_cases hf : fnT (hd r) = 0
    · rw [if_pos hf]
      rw [hf] at PG
      rw [if_neg (by decide), show decide ((0 : Int) ≠ 0) = false from rfl, show mayB 0 = false from rfl] at PG
      clear hf ho hod HF
      go_enter Tryz.func42, Tryz.ntmps42
      go_upto_region 1 with fail
      rw [← HW.out]
      go_wp2_with fail
      refine PF.out.mono ?_
      rintro e w1 ⟨rfl, hm, ha⟩
      have HO1 := Lib.hid (HO.out.mvs hm ha)
      obtain ⟨V, hV⟩ : ∃ V, V = w1.alloc (.cells #[.int .i64 0, .bool false] 91) := ⟨_, rfl⟩
      obtain ⟨hT, hbV, hsV⟩ := two_new hV
      have HOV := Lib.hid (HO1.out.below hbV)
      have P1 := Lib.hid (PO.out V HOV.out.at_)
      have HV := Lib.hid hV
      clear hm ha hV hbV hsV hT
      go_wp2_with fail
      rw [← HV.out]
      refine P1.out.mono ?_
      rintro e w3 ⟨hm, u, rfl, hu, ha⟩
      obtain ⟨k0, f0, a0, s0, A0, n0, q0, B0, m0, d0, rfl, hk0⟩ := RdQ_six hu
      have HO3 := Lib.hid (HOV.out.mvs hm ha)
      obtain ⟨V3, hV3⟩ : ∃ V3, V3 = w3.alloc (.cells #[.int .i64 k0, .int .i64 f0, .int .i64 a0, .string s0, .slice A0 n0 q0, .slice B0 m0 d0, .int .i64 (deepT U)] 68) := ⟨_, rfl⟩
      obtain ⟨hS6, hb3, hs3⟩ := seven_new hV3
      have HOV3 := Lib.hid (HO3.out.below hb3)
      have HS6 := Lib.hid hS6
      have HU := Lib.hid ((hu.below hb3).le (Q' := fun k => w.heap.size + 1 ≤ k) (fun k hk => Nat.le_trans HOV.out.size hk))
      have HG6 := Lib.hid (show w3.heap.size ≠ b ∧ w.heap.size ≠ w3.heap.size by have := HO3.out.lt; have := HO3.out.size; omega)
      have P2 := Lib.hid (PG.out V3 HOV3.out.at_)
      have hmap2 := HOV3.out.at_.dya
      have HV3 := Lib.hid hV3
      have HK0 := Lib.hid hk0
      clear hm ha hu hV3 hb3 hs3 hS6 hk0
      go_upto_region 6 with fail
      rw [← HV3.out]
      go_wp2_with fail
      refine P2.out.mono ?_
      rintro e w4 ⟨rfl, hm, ha⟩
      have HO4 := Lib.hid (HOV3.out.mvs hm ha)
      have HS64 := Lib.hid (HS6.out.mv hm HG6.out.1)
      have HU4 := Lib.hid (HU.out.keep hm.size (fun ad hq hl => World.cell?_of_block (hm.block _ hl (by have : w.heap.size + 1 ≤ ad.block := hq; have := HO.out.lt; omega))) (fun _ h => h))
      obtain ⟨V4, hV4⟩ : ∃ V4, V4 = w4.alloc (.cells #[.int .i64 0, .bool false] 91) := ⟨_, rfl⟩
      obtain ⟨hT7, hb4, hs4⟩ := two_new hV4
      have HOV4 := Lib.hid (HO4.out.below hb4)
      have HS6V := Lib.hid (HS64.out.below hb4)
      have HUV := Lib.hid (HU4.out.below hb4)
      have HT7 := Lib.hid hT7
      have HG7 := Lib.hid (show w4.heap.size ≠ b ∧ w.heap.size ≠ w4.heap.size by have := HO4.out.lt; have := HO4.out.size; omega)
      have HV4 := Lib.hid hV4
      clear hm ha hV4 hb4 hs4 hT7 hmap2
      go_upto_region 8 with fail
      rw [← HV4.out]
      obtain ⟨b0', b1', b2', b3', b4', b5', b6', -⟩ := HS6V.out
      have HSX := HOV4.out.seven
      obtain ⟨s0', s1', s2', s3', s4', s5', s6', sf⟩ := HSX
      have sf0 := sf 0; have sf1 := sf 1; have sf2 := sf 2; have sf3 := sf 3; have sf4 := sf 4; have sf5 := sf 5; have sf6 := sf 6
      clear sf
      go_wp2_with fail
      refine bodyPost_ret (v := .agg #[.int .i64 k0, .int .i64 f0, .int .i64 a0, .string s0, .slice A0 n0 q0, .slice B0 m0 d0, .int .i64 (deepT U)]) (by simp [results, Tryz.results42, go_sem, s0', s1', s2', s3', s4', s5', s6']) rfl ?_
      exact ansT_put (B := w.heap.size + 1) HOV4.out.mv HOV4.out.at_ HUV.out (Nat.le_refl _) (Nat.lt_succ_self _) HOV4.out.lt
    · rw [if_neg hf]
      rw [if_pos hf, decide_eq_true hf] at PG
      have hrl : r.tail.length + 1 = r.length := by
        cases r with
        | nil => exact absurd rfl hf
        | cons t s => simp
      have HRL := Lib.hid (show r.tail.length < n ∧ r.tail.length ≤ 65536 by have := HLN.out; have := HL65.out; omega)
      have PX := Lib.hid (fun V may (h : At b m1 m2 V r.tail) => axis_any (fnT (hd r)) may h)
      generalize fnT (hd r) = G at *
      generalize mayB G = mm at *
      generalize r.tail = R at *
      clear hf ho hod hrl
      by_cases hkd : G ≠ 6 ∧ U.kind ≠ 1 ∧ U.kind ≠ 2
      · rw [if_pos hkd]
        have HKD := Lib.hid hkd
        clear hkd PX hE HRL
        go_enter Tryz.func42, Tryz.ntmps42
        go_upto_region 1 with fail
        rw [← HW.out]
        go_wp2_with fail
        refine PF.out.mono ?_
        rintro e w1 ⟨rfl, hm, ha⟩
        have HO1 := Lib.hid (HO.out.mvs hm ha)
        obtain ⟨V, hV⟩ : ∃ V, V = w1.alloc (.cells #[.int .i64 0, .bool false] 91) := ⟨_, rfl⟩
        obtain ⟨hT, hbV, hsV⟩ := two_new hV
        have HOV := Lib.hid (HO1.out.below hbV)
        have P1 := Lib.hid (PO.out V HOV.out.at_)
        have HV := Lib.hid hV
        clear hm ha hV hbV hsV hT
        go_wp2_with fail
        rw [← HV.out]
        refine P1.out.mono ?_
        rintro e w3 ⟨hm, u, rfl, hu, ha⟩
        obtain ⟨k0, f0, a0, s0, A0, n0, q0, B0, m0, d0, rfl, hk0⟩ := RdQ_six hu
        have HO3 := Lib.hid (HOV.out.mvs hm ha)
        obtain ⟨V3, hV3⟩ : ∃ V3, V3 = w3.alloc (.cells #[.int .i64 k0, .int .i64 f0, .int .i64 a0, .string s0, .slice A0 n0 q0, .slice B0 m0 d0, .int .i64 (deepT U)] 68) := ⟨_, rfl⟩
        obtain ⟨hS6, hb3, hs3⟩ := seven_new hV3
        have HOV3 := Lib.hid (HO3.out.below hb3)
        have HS6 := Lib.hid hS6
        have HU := Lib.hid ((hu.below hb3).le (Q' := fun k => w.heap.size + 1 ≤ k) (fun k hk => Nat.le_trans HOV.out.size hk))
        have HG6 := Lib.hid (show w3.heap.size ≠ b ∧ w.heap.size ≠ w3.heap.size by have := HO3.out.lt; have := HO3.out.size; omega)
        have P2 := Lib.hid (PG.out V3 HOV3.out.at_)
        have hmap2 := HOV3.out.at_.dya
        have HV3 := Lib.hid hV3
        have HK0 := Lib.hid hk0
        clear hm ha hu hV3 hb3 hs3 hS6 hk0
        go_upto_region 6 with fail
        rw [← HV3.out]
        go_wp2_with fail
        refine P2.out.mono ?_
        rintro e w4 ⟨rfl, hm, ha⟩
        have HO4 := Lib.hid (HOV3.out.mvs hm ha)
        have HS64 := Lib.hid (HS6.out.mv hm HG6.out.1)
        have HU4 := Lib.hid (HU.out.keep hm.size (fun ad hq hl => World.cell?_of_block (hm.block _ hl (by have : w.heap.size + 1 ≤ ad.block := hq; have := HO.out.lt; omega))) (fun _ h => h))
        obtain ⟨V4, hV4⟩ : ∃ V4, V4 = w4.alloc (.cells #[.int .i64 G, .bool mm] 91) := ⟨_, rfl⟩
        obtain ⟨hT7, hb4, hs4⟩ := two_new hV4
        have HOV4 := Lib.hid (HO4.out.below hb4)
        have HS6V := Lib.hid (HS64.out.below hb4)
        have HUV := Lib.hid (HU4.out.below hb4)
        have HT7 := Lib.hid hT7
        have HG7 := Lib.hid (show w4.heap.size ≠ b ∧ w.heap.size ≠ w4.heap.size by have := HO4.out.lt; have := HO4.out.size; omega)
        have HV4 := Lib.hid hV4
        clear hm ha hV4 hb4 hs4 hT7 hmap2
        have hh : (G != 6) = true ∧ (G == 6) = false ∧ (k0 != 1) = true ∧ (k0 == 1) = false ∧ (k0 != 2) = true ∧ (k0 == 2) = false := by
          have := HKD.out
          rw [← HK0.out] at this
          simp [this]
        obtain ⟨hh1, hh2, hh3, hh4, hh5, hh6⟩ := hh
        have PFL := Lib.hid fail_any
        go_upto_region 9 with fail
        rw [← HV4.out]
        obtain ⟨b0', b1', b2', b3', b4', b5', b6', -⟩ := HS6V.out
        obtain ⟨c0, c1⟩ := HT7.out
        go_wp2_with fail
        refine (PFL.out _).mono ?_
        rintro e w9 ⟨rfl, rfl⟩
        exact ⟨rfl, HOV4.out.mv, rfl⟩
      · rw [if_neg hkd]
        have HKD := Lib.hid (show G = 6 ∨ U.kind = 1 ∨ U.kind = 2 by omega)
        clear hkd
        have PX := Lib.hid (fun V h => PX.out V mm h)
        cases ha : dAx mm R with
        | none =>
          rw [ha] at PX
          simp only [Option.map_none] at PX ⊢
          clear ha hE HRL
          go_enter Tryz.func42, Tryz.ntmps42
          go_upto_region 1 with fail
          rw [← HW.out]
          go_wp2_with fail
          refine PF.out.mono ?_
          rintro e w1 ⟨rfl, hm, ha⟩
          have HO1 := Lib.hid (HO.out.mvs hm ha)
          obtain ⟨V, hV⟩ : ∃ V, V = w1.alloc (.cells #[.int .i64 0, .bool false] 91) := ⟨_, rfl⟩
          obtain ⟨hT, hbV, hsV⟩ := two_new hV
          have HOV := Lib.hid (HO1.out.below hbV)
          have P1 := Lib.hid (PO.out V HOV.out.at_)
          have HV := Lib.hid hV
          clear hm ha hV hbV hsV hT
          go_wp2_with fail
          rw [← HV.out]
          refine P1.out.mono ?_
          rintro e w3 ⟨hm, u, rfl, hu, ha⟩
          obtain ⟨k0, f0, a0, s0, A0, n0, q0, B0, m0, d0, rfl, hk0⟩ := RdQ_six hu
          have HO3 := Lib.hid (HOV.out.mvs hm ha)
          obtain ⟨V3, hV3⟩ : ∃ V3, V3 = w3.alloc (.cells #[.int .i64 k0, .int .i64 f0, .int .i64 a0, .string s0, .slice A0 n0 q0, .slice B0 m0 d0, .int .i64 (deepT U)] 68) := ⟨_, rfl⟩
          obtain ⟨hS6, hb3, hs3⟩ := seven_new hV3
          have HOV3 := Lib.hid (HO3.out.below hb3)
          have HS6 := Lib.hid hS6
          have HU := Lib.hid ((hu.below hb3).le (Q' := fun k => w.heap.size + 1 ≤ k) (fun k hk => Nat.le_trans HOV.out.size hk))
          have HG6 := Lib.hid (show w3.heap.size ≠ b ∧ w.heap.size ≠ w3.heap.size by have := HO3.out.lt; have := HO3.out.size; omega)
          have P2 := Lib.hid (PG.out V3 HOV3.out.at_)
          have hmap2 := HOV3.out.at_.dya
          have HV3 := Lib.hid hV3
          have HK0 := Lib.hid hk0
          clear hm ha hu hV3 hb3 hs3 hS6 hk0
          go_upto_region 6 with fail
          rw [← HV3.out]
          go_wp2_with fail
          refine P2.out.mono ?_
          rintro e w4 ⟨rfl, hm, ha⟩
          have HO4 := Lib.hid (HOV3.out.mvs hm ha)
          have HS64 := Lib.hid (HS6.out.mv hm HG6.out.1)
          have HU4 := Lib.hid (HU.out.keep hm.size (fun ad hq hl => World.cell?_of_block (hm.block _ hl (by have : w.heap.size + 1 ≤ ad.block := hq; have := HO.out.lt; omega))) (fun _ h => h))
          obtain ⟨V4, hV4⟩ : ∃ V4, V4 = w4.alloc (.cells #[.int .i64 G, .bool mm] 91) := ⟨_, rfl⟩
          obtain ⟨hT7, hb4, hs4⟩ := two_new hV4
          have HOV4 := Lib.hid (HO4.out.below hb4)
          have HS6V := Lib.hid (HS64.out.below hb4)
          have HUV := Lib.hid (HU4.out.below hb4)
          have HT7 := Lib.hid hT7
          have HG7 := Lib.hid (show w4.heap.size ≠ b ∧ w.heap.size ≠ w4.heap.size by have := HO4.out.lt; have := HO4.out.size; omega)
          have HV4 := Lib.hid hV4
          clear hm ha hV4 hb4 hs4 hT7 hmap2
          have P5 := Lib.hid (PX.out V4 HOV4.out.at_)
          go_upto_region 9 with fail
          rw [← HV4.out]
          have hways : (G = 6 ∧ (G != 6) = false ∧ (G == 6) = true) ∨ ((G != 6) = true ∧ (G == 6) = false ∧ (k0 != 1) = false ∧ (k0 == 1) = true) ∨ ((G != 6) = true ∧ (G == 6) = false ∧ (k0 != 1) = true ∧ (k0 == 1) = false ∧ (k0 != 2) = false ∧ (k0 == 2) = true) := by
            have := HKD.out
            rw [← HK0.out] at this
            by_cases g1 : G = 6
            · left; exact ⟨g1, by rw [g1]; rfl, by rw [g1]; rfl⟩
            · by_cases g2 : k0 = 1
              · right; left; exact ⟨by simpa using g1, by simpa using g1, by rw [g2]; rfl, by rw [g2]; rfl⟩
              · have g3 : k0 = 2 := by omega
                right; right; exact ⟨by simpa using g1, by simpa using g1, by simpa using g2, by simpa using g2, by rw [g3]; rfl, by rw [g3]; rfl⟩
          obtain ⟨b0', b1', b2', b3', b4', b5', b6', -⟩ := HS6V.out
          obtain ⟨c0, c1⟩ := HT7.out
          rcases hways with ⟨-, hh1, hh2⟩ | ⟨hh1, hh2, hh3, hh4⟩ | ⟨hh1, hh2, hh3, hh4, hh5, hh6⟩
          all_goals
            go_wp2_with fail
            refine P5.out.mono ?_
            rintro e w5 ⟨hm, rfl⟩
            exact ⟨rfl, HOV4.out.mv.trans hm, rfl⟩
        | some p =>
          obtain ⟨ax, r2⟩ := p
          rw [ha] at PX
          simp only [Option.map_some] at PX ⊢
          have PE := Lib.hid (fun V (h : At b m1 m2 V r2) (hl : r2.length < n) => hE V r2 h hl)
          have HA := Lib.hid ha
          clear ha hE
          cases hx : dEx n r2 with
          | none =>
            rw [hx] at PE
            simp only [] at PE ⊢
            clear hx
            go_enter Tryz.func42, Tryz.ntmps42
            go_upto_region 1 with fail
            rw [← HW.out]
            go_wp2_with fail
            refine PF.out.mono ?_
            rintro e w1 ⟨rfl, hm, ha⟩
            have HO1 := Lib.hid (HO.out.mvs hm ha)
            obtain ⟨V, hV⟩ : ∃ V, V = w1.alloc (.cells #[.int .i64 0, .bool false] 91) := ⟨_, rfl⟩
            obtain ⟨hT, hbV, hsV⟩ := two_new hV
            have HOV := Lib.hid (HO1.out.below hbV)
            have P1 := Lib.hid (PO.out V HOV.out.at_)
            have HV := Lib.hid hV
            clear hm ha hV hbV hsV hT
            go_wp2_with fail
            rw [← HV.out]
            refine P1.out.mono ?_
            rintro e w3 ⟨hm, u, rfl, hu, ha⟩
            obtain ⟨k0, f0, a0, s0, A0, n0, q0, B0, m0, d0, rfl, hk0⟩ := RdQ_six hu
            have HO3 := Lib.hid (HOV.out.mvs hm ha)
            obtain ⟨V3, hV3⟩ : ∃ V3, V3 = w3.alloc (.cells #[.int .i64 k0, .int .i64 f0, .int .i64 a0, .string s0, .slice A0 n0 q0, .slice B0 m0 d0, .int .i64 (deepT U)] 68) := ⟨_, rfl⟩
            obtain ⟨hS6, hb3, hs3⟩ := seven_new hV3
            have HOV3 := Lib.hid (HO3.out.below hb3)
            have HS6 := Lib.hid hS6
            have HU := Lib.hid ((hu.below hb3).le (Q' := fun k => w.heap.size + 1 ≤ k) (fun k hk => Nat.le_trans HOV.out.size hk))
            have HG6 := Lib.hid (show w3.heap.size ≠ b ∧ w.heap.size ≠ w3.heap.size by have := HO3.out.lt; have := HO3.out.size; omega)
            have P2 := Lib.hid (PG.out V3 HOV3.out.at_)
            have hmap2 := HOV3.out.at_.dya
            have HV3 := Lib.hid hV3
            have HK0 := Lib.hid hk0
            clear hm ha hu hV3 hb3 hs3 hS6 hk0
            go_upto_region 6 with fail
            rw [← HV3.out]
            go_wp2_with fail
            refine P2.out.mono ?_
            rintro e w4 ⟨rfl, hm, ha⟩
            have HO4 := Lib.hid (HOV3.out.mvs hm ha)
            have HS64 := Lib.hid (HS6.out.mv hm HG6.out.1)
            have HU4 := Lib.hid (HU.out.keep hm.size (fun ad hq hl => World.cell?_of_block (hm.block _ hl (by have : w.heap.size + 1 ≤ ad.block := hq; have := HO.out.lt; omega))) (fun _ h => h))
            obtain ⟨V4, hV4⟩ : ∃ V4, V4 = w4.alloc (.cells #[.int .i64 G, .bool mm] 91) := ⟨_, rfl⟩
            obtain ⟨hT7, hb4, hs4⟩ := two_new hV4
            have HOV4 := Lib.hid (HO4.out.below hb4)
            have HS6V := Lib.hid (HS64.out.below hb4)
            have HUV := Lib.hid (HU4.out.below hb4)
            have HT7 := Lib.hid hT7
            have HG7 := Lib.hid (show w4.heap.size ≠ b ∧ w.heap.size ≠ w4.heap.size by have := HO4.out.lt; have := HO4.out.size; omega)
            have HV4 := Lib.hid hV4
            clear hm ha hV4 hb4 hs4 hT7 hmap2
            have hal := dAx_len HOV4.out.at_.ok HA.out
            have PE := Lib.hid (fun V h => PE.out V h (by have := HRL.out; omega))
            have HAL := Lib.hid hal
            clear hal
            have P5 := Lib.hid (PX.out V4 HOV4.out.at_)
            go_upto_region 9 with fail
            rw [← HV4.out]
            have hways : (G = 6 ∧ (G != 6) = false ∧ (G == 6) = true) ∨ ((G != 6) = true ∧ (G == 6) = false ∧ (k0 != 1) = false ∧ (k0 == 1) = true) ∨ ((G != 6) = true ∧ (G == 6) = false ∧ (k0 != 1) = true ∧ (k0 == 1) = false ∧ (k0 != 2) = false ∧ (k0 == 2) = true) := by
              have := HKD.out
              rw [← HK0.out] at this
              by_cases g1 : G = 6
              · left; exact ⟨g1, by rw [g1]; rfl, by rw [g1]; rfl⟩
              · by_cases g2 : k0 = 1
                · right; left; exact ⟨by simpa using g1, by simpa using g1, by rw [g2]; rfl, by rw [g2]; rfl⟩
                · have g3 : k0 = 2 := by omega
                  right; right; exact ⟨by simpa using g1, by simpa using g1, by simpa using g2, by simpa using g2, by rw [g3]; rfl, by rw [g3]; rfl⟩
            obtain ⟨b0', b1', b2', b3', b4', b5', b6', -⟩ := HS6V.out
            obtain ⟨c0, c1⟩ := HT7.out
            rcases hways with ⟨-, hh1, hh2⟩ | ⟨hh1, hh2, hh3, hh4⟩ | ⟨hh1, hh2, hh3, hh4, hh5, hh6⟩
            all_goals
              go_upto_region 11 with fail
              go_wp2_with fail
              refine P5.out.mono ?_
              rintro e w5 ⟨hm, rfl, ha⟩
              have HO5 := Lib.hid (HOV4.out.mvs hm ha)
              have HT75 := Lib.hid (HT7.out.mv hm HG7.out.1)
              have HS65 := Lib.hid (HS6V.out.mv hm HG6.out.1)
              have HU5 := Lib.hid (HUV.out.keep hm.size (fun ad hq hl => World.cell?_of_block (hm.block _ hl (by have : w.heap.size + 1 ≤ ad.block := hq; have := HO.out.lt; omega))) (fun _ h => h))
              clear hm ha c0 c1 b0' b1' b2' b3' b4' b5' b6'
              go_upto_region 12 with fail
              have HKA : Hid (∀ V', Below w5.heap.size w5 V' → At b m1 m2 V' r2) := Lib.hid fun V' h => HO5.out.at_.below h
              have HKM : Hid (∀ V' v1, Mv b V' v1 → Below w5.heap.size w5 V' → Mv b w v1 ∧ Two w4.heap.size v1 (.int .i64 G) (.bool mm) ∧ Seven w3.heap.size v1 (.int .i64 k0) (.int .i64 f0) (.int .i64 a0) (.string s0) (.slice A0 n0 q0) (.slice B0 m0 d0) (.int .i64 (deepT U)) ∧ Seven w.heap.size v1 (.int .i64 0) (.int .i64 0) (.int .i64 0) (.string ⟨#[]⟩) (.slice none 0 0) (.slice none 0 0) (.int .i64 0) ∧ w5.heap.size ≤ V'.heap.size ∧ w5.heap.size ≤ v1.heap.size ∧ RdQ (fun k => w.heap.size + 1 ≤ k) v1 U (S6.agg ⟨.int .i64 k0, .int .i64 f0, .int .i64 a0, .string s0, .slice A0 n0 q0, .slice B0 m0 d0⟩)) :=
                Lib.hid fun V' v1 hm h => ⟨(HO5.out.mv.trans (Mv.of_below h)).trans hm, (HT75.out.below h).mv hm HG7.out.1, (HS65.out.below h).mv hm HG6.out.1, (HO5.out.seven.below h).mv hm (by have := HO5.out.lt; omega), h.size, Nat.le_trans h.size hm.size,
                  (HU5.out.below h).keep hm.size (fun ad hq hl => World.cell?_of_block (hm.block _ hl (by have : w.heap.size + 1 ≤ ad.block := hq; have := HO.out.lt; omega))) (fun _ h => h)⟩
              have HD := Lib.hid (Below.refl w5.heap.size w5)
              have HWS := Lib.hid (show w.heap.size + 1 ≤ w5.heap.size from HO5.out.size)
              have HLS := Lib.hid HO5.out.lt
              obtain ⟨c0, c1⟩ := HT75.out
              obtain ⟨b0', b1', b2', b3', b4', b5', b6', -⟩ := HS65.out
              generalize hg7 : w4.heap.size = g7 at *
              generalize hg6 : w3.heap.size = g6 at *
              generalize hg2 : w.heap.size = g2 at *
              refine wp_region_held_drew (S := (fun w' => (w'.cell? ⟨g7, 0, none⟩ = some (.int .i64 G) ∧ w'.cell? ⟨g7, 1, none⟩ = some (.bool mm)) ∧ w'.cell? ⟨g6, 0, none⟩ = some (.int .i64 k0) ∧ w'.cell? ⟨g6, 1, none⟩ = some (.int .i64 f0) ∧ w'.cell? ⟨g6, 2, none⟩ = some (.int .i64 a0) ∧ w'.cell? ⟨g6, 3, none⟩ = some (.string s0) ∧ w'.cell? ⟨g6, 4, none⟩ = some (.slice A0 n0 q0) ∧ w'.cell? ⟨g6, 5, none⟩ = some (.slice B0 m0 d0) ∧ w'.cell? ⟨g6, 6, none⟩ = some (.int .i64 (deepT U)))) (by kernel_rfl) ⟨⟨c0, c1⟩, b0', b1', b2', b3', b4', b5', b6'⟩ (fun hHeld => ?_)
              refine wpAnyH_take (i := 0) (oi := ⟨some 62, _, _, _, _, _⟩) (v := ?_) rfl (by kernel_rfl) (by kernel_rfl) (by kernel_rfl) (fun _ _ _ h => h) (Or.inl ⟨by rfl, ?_⟩) (by assumption) ?_
              rotate_left
              · (intro w hSw; (try dsimp only at hSw); first | (go_simp; done) | (go_simp; with_reducible rfl))
              try simp only [Act.put, List.setIfInBounds_toArray, List.set_cons_zero, List.set_cons_succ]
              refine wpAnyH_take (i := 1) (oi := ⟨some 63, _, _, _, _, _⟩) (v := ?_) rfl (by kernel_rfl) (by kernel_rfl) (by kernel_rfl) (fun _ _ _ h => h) (Or.inl ⟨by rfl, ?_⟩) (by assumption) ?_
              rotate_left
              · (intro w hSw; (try dsimp only at hSw); first | (go_simp; done) | (go_simp; with_reducible rfl))
              try simp only [Act.put, List.setIfInBounds_toArray, List.set_cons_zero, List.set_cons_succ]
              refine wpAnyH_take (i := 2) (oi := ⟨some 64, _, _, _, _, _⟩) (v := ?_) rfl (by kernel_rfl) (by kernel_rfl) (by kernel_rfl) (fun _ _ _ h => h) (Or.inl ⟨by rfl, ?_⟩) (by assumption) ?_
              rotate_left
              · (intro w hSw; (try dsimp only at hSw); first | (go_simp; done) | (go_simp; with_reducible rfl))
              try simp only [Act.put, List.setIfInBounds_toArray, List.set_cons_zero, List.set_cons_succ]
              refine wpAnyH_take (i := 3) (oi := ⟨some 65, _, _, _, _, _⟩) (v := ?_) rfl (by kernel_rfl) (by kernel_rfl) (by kernel_rfl) (fun _ _ _ h => h) (Or.inl ⟨by rfl, ?_⟩) (by assumption) ?_
              rotate_left
              · (intro w hSw; (try dsimp only at hSw); first | (go_simp; done) | (go_simp; with_reducible rfl))
              try simp only [Act.put, List.setIfInBounds_toArray, List.set_cons_zero, List.set_cons_succ]
              refine wpAnyH_ready (rs := [4]) (by kernel_rfl) (by simp) ?_
              refine AllReadyH.cons (o := ⟨some 66, _, _, _, _, _⟩) rfl (fun K hK => ?_) AllReadyH.nil
              go_simp
              refine (PE.out _ (HKA.out _ (by repeat (first | exact HD.out | refine Below.drew ?_)))).mono ?_
              rintro e v1 ⟨hm, rfl⟩
              exact ⟨rfl, (HKM.out _ _ hm (by repeat (first | exact HD.out | refine Below.drew ?_))).1, rfl⟩
          | some q =>
            obtain ⟨T, r3⟩ := q
            have HX := Lib.hid hx
            rw [hx] at PE
            simp only [] at PE ⊢
            clear hx
            go_enter Tryz.func42, Tryz.ntmps42
            go_upto_region 1 with fail
            rw [← HW.out]
            go_wp2_with fail
            refine PF.out.mono ?_
            rintro e w1 ⟨rfl, hm, ha⟩
            have HO1 := Lib.hid (HO.out.mvs hm ha)
            obtain ⟨V, hV⟩ : ∃ V, V = w1.alloc (.cells #[.int .i64 0, .bool false] 91) := ⟨_, rfl⟩
            obtain ⟨hT, hbV, hsV⟩ := two_new hV
            have HOV := Lib.hid (HO1.out.below hbV)
            have P1 := Lib.hid (PO.out V HOV.out.at_)
            have HV := Lib.hid hV
            clear hm ha hV hbV hsV hT
            go_wp2_with fail
            rw [← HV.out]
            refine P1.out.mono ?_
            rintro e w3 ⟨hm, u, rfl, hu, ha⟩
            obtain ⟨k0, f0, a0, s0, A0, n0, q0, B0, m0, d0, rfl, hk0⟩ := RdQ_six hu
            have HO3 := Lib.hid (HOV.out.mvs hm ha)
            obtain ⟨V3, hV3⟩ : ∃ V3, V3 = w3.alloc (.cells #[.int .i64 k0, .int .i64 f0, .int .i64 a0, .string s0, .slice A0 n0 q0, .slice B0 m0 d0, .int .i64 (deepT U)] 68) := ⟨_, rfl⟩
            obtain ⟨hS6, hb3, hs3⟩ := seven_new hV3
            have HOV3 := Lib.hid (HO3.out.below hb3)
            have HS6 := Lib.hid hS6
            have HU := Lib.hid ((hu.below hb3).le (Q' := fun k => w.heap.size + 1 ≤ k) (fun k hk => Nat.le_trans HOV.out.size hk))
            have HG6 := Lib.hid (show w3.heap.size ≠ b ∧ w.heap.size ≠ w3.heap.size by have := HO3.out.lt; have := HO3.out.size; omega)
            have P2 := Lib.hid (PG.out V3 HOV3.out.at_)
            have hmap2 := HOV3.out.at_.dya
            have HV3 := Lib.hid hV3
            have HK0 := Lib.hid hk0
            clear hm ha hu hV3 hb3 hs3 hS6 hk0
            go_upto_region 6 with fail
            rw [← HV3.out]
            go_wp2_with fail
            refine P2.out.mono ?_
            rintro e w4 ⟨rfl, hm, ha⟩
            have HO4 := Lib.hid (HOV3.out.mvs hm ha)
            have HS64 := Lib.hid (HS6.out.mv hm HG6.out.1)
            have HU4 := Lib.hid (HU.out.keep hm.size (fun ad hq hl => World.cell?_of_block (hm.block _ hl (by have : w.heap.size + 1 ≤ ad.block := hq; have := HO.out.lt; omega))) (fun _ h => h))
            obtain ⟨V4, hV4⟩ : ∃ V4, V4 = w4.alloc (.cells #[.int .i64 G, .bool mm] 91) := ⟨_, rfl⟩
            obtain ⟨hT7, hb4, hs4⟩ := two_new hV4
            have HOV4 := Lib.hid (HO4.out.below hb4)
            have HS6V := Lib.hid (HS64.out.below hb4)
            have HUV := Lib.hid (HU4.out.below hb4)
            have HT7 := Lib.hid hT7
            have HG7 := Lib.hid (show w4.heap.size ≠ b ∧ w.heap.size ≠ w4.heap.size by have := HO4.out.lt; have := HO4.out.size; omega)
            have HV4 := Lib.hid hV4
            clear hm ha hV4 hb4 hs4 hT7 hmap2
            have hal := dAx_len HOV4.out.at_.ok HA.out
            have PE := Lib.hid (fun V h => PE.out V h (by have := HRL.out; omega))
            have HAL := Lib.hid hal
            clear hal
            have P5 := Lib.hid (PX.out V4 HOV4.out.at_)
            go_upto_region 9 with fail
            rw [← HV4.out]
            have hways : (G = 6 ∧ (G != 6) = false ∧ (G == 6) = true) ∨ ((G != 6) = true ∧ (G == 6) = false ∧ (k0 != 1) = false ∧ (k0 == 1) = true) ∨ ((G != 6) = true ∧ (G == 6) = false ∧ (k0 != 1) = true ∧ (k0 == 1) = false ∧ (k0 != 2) = false ∧ (k0 == 2) = true) := by
              have := HKD.out
              rw [← HK0.out] at this
              by_cases g1 : G = 6
              · left; exact ⟨g1, by rw [g1]; rfl, by rw [g1]; rfl⟩
              · by_cases g2 : k0 = 1
                · right; left; exact ⟨by simpa using g1, by simpa using g1, by rw [g2]; rfl, by rw [g2]; rfl⟩
                · have g3 : k0 = 2 := by omega
                  right; right; exact ⟨by simpa using g1, by simpa using g1, by simpa using g2, by simpa using g2, by rw [g3]; rfl, by rw [g3]; rfl⟩
            obtain ⟨b0', b1', b2', b3', b4', b5', b6', -⟩ := HS6V.out
            obtain ⟨c0, c1⟩ := HT7.out
            rcases hways with ⟨-, hh1, hh2⟩ | ⟨hh1, hh2, hh3, hh4⟩ | ⟨hh1, hh2, hh3, hh4, hh5, hh6⟩
            all_goals
              go_upto_region 11 with fail
              go_wp2_with fail
              refine P5.out.mono ?_
              rintro e w5 ⟨hm, rfl, ha⟩
              have HO5 := Lib.hid (HOV4.out.mvs hm ha)
              have HT75 := Lib.hid (HT7.out.mv hm HG7.out.1)
              have HS65 := Lib.hid (HS6V.out.mv hm HG6.out.1)
              have HU5 := Lib.hid (HUV.out.keep hm.size (fun ad hq hl => World.cell?_of_block (hm.block _ hl (by have : w.heap.size + 1 ≤ ad.block := hq; have := HO.out.lt; omega))) (fun _ h => h))
              clear hm ha c0 c1 b0' b1' b2' b3' b4' b5' b6'
              go_upto_region 12 with fail
              have HKA : Hid (∀ V', Below w5.heap.size w5 V' → At b m1 m2 V' r2) := Lib.hid fun V' h => HO5.out.at_.below h
              have HKM : Hid (∀ V' v1, Mv b V' v1 → Below w5.heap.size w5 V' → Mv b w v1 ∧ Two w4.heap.size v1 (.int .i64 G) (.bool mm) ∧ Seven w3.heap.size v1 (.int .i64 k0) (.int .i64 f0) (.int .i64 a0) (.string s0) (.slice A0 n0 q0) (.slice B0 m0 d0) (.int .i64 (deepT U)) ∧ Seven w.heap.size v1 (.int .i64 0) (.int .i64 0) (.int .i64 0) (.string ⟨#[]⟩) (.slice none 0 0) (.slice none 0 0) (.int .i64 0) ∧ w5.heap.size ≤ V'.heap.size ∧ w5.heap.size ≤ v1.heap.size ∧ RdQ (fun k => w.heap.size + 1 ≤ k) v1 U (S6.agg ⟨.int .i64 k0, .int .i64 f0, .int .i64 a0, .string s0, .slice A0 n0 q0, .slice B0 m0 d0⟩)) :=
                Lib.hid fun V' v1 hm h => ⟨(HO5.out.mv.trans (Mv.of_below h)).trans hm, (HT75.out.below h).mv hm HG7.out.1, (HS65.out.below h).mv hm HG6.out.1, (HO5.out.seven.below h).mv hm (by have := HO5.out.lt; omega), h.size, Nat.le_trans h.size hm.size,
                  (HU5.out.below h).keep hm.size (fun ad hq hl => World.cell?_of_block (hm.block _ hl (by have : w.heap.size + 1 ≤ ad.block := hq; have := HO.out.lt; omega))) (fun _ h => h)⟩
              have HD := Lib.hid (Below.refl w5.heap.size w5)
              have HWS := Lib.hid (show w.heap.size + 1 ≤ w5.heap.size from HO5.out.size)
              have HLS := Lib.hid HO5.out.lt
              obtain ⟨c0, c1⟩ := HT75.out
              obtain ⟨b0', b1', b2', b3', b4', b5', b6', -⟩ := HS65.out
              generalize hg7 : w4.heap.size = g7 at *
              generalize hg6 : w3.heap.size = g6 at *
              generalize hg2 : w.heap.size = g2 at *
              have HDE := Lib.hid (show deepT T ≤ 65536 from by have := (dEx_deep HO5.out.at_.ok HX.out).1; have := HO5.out.at_.len; omega)
              have HN7 := Lib.hid (show g2 ≠ g7 ∧ g2 ≠ g6 from ⟨HG7.out.2, HG6.out.2⟩)
              go_region_held3 (fun w' => (w'.cell? ⟨g7, 0, none⟩ = some (.int .i64 G) ∧ w'.cell? ⟨g7, 1, none⟩ = some (.bool mm)) ∧ w'.cell? ⟨g6, 0, none⟩ = some (.int .i64 k0) ∧ w'.cell? ⟨g6, 1, none⟩ = some (.int .i64 f0) ∧ w'.cell? ⟨g6, 2, none⟩ = some (.int .i64 a0) ∧ w'.cell? ⟨g6, 3, none⟩ = some (.string s0) ∧ w'.cell? ⟨g6, 4, none⟩ = some (.slice A0 n0 q0) ∧ w'.cell? ⟨g6, 5, none⟩ = some (.slice B0 m0 d0) ∧ w'.cell? ⟨g6, 6, none⟩ = some (.int .i64 (deepT U)))
                ((first | go_keep | exact ⟨⟨(put7_apart HN7.out.1).trans z0, (put7_apart HN7.out.1).trans z1⟩, (put7_apart HN7.out.2).trans y0, (put7_apart HN7.out.2).trans y1, (put7_apart HN7.out.2).trans y2, (put7_apart HN7.out.2).trans y3, (put7_apart HN7.out.2).trans y4, (put7_apart HN7.out.2).trans y5, (put7_apart HN7.out.2).trans y6⟩))
                (first
                  | (go_at_call 42; refine (PE.out _ (HKA.out _ (by repeat (first | exact HD.out | refine Below.drew ?_)))).mono ?_
                     rintro e v1 ⟨hm, u, rfl, hu, ha⟩
                     obtain ⟨x0, f0x, a0x, s0x, A0x, nn0, cc0, B0x, mm0, d0x, rfl, -⟩ := RdQ_six hu
                     obtain ⟨q1, q2, q3, q4, q5, q6, q7⟩ := HKM.out _ _ hm (by repeat (first | exact HD.out | refine Below.drew ?_))
                     have HM1 := Lib.hid q1
                     have HA1 := Lib.hid ha
                     have HT1 := Lib.hid q2
                     have HS1 := Lib.hid q3
                     have HR1 := Lib.hid q4
                     obtain ⟨p0, p1⟩ := HT1.out
                     obtain ⟨o0, o1, o2, o3, o4, o5, o6, -⟩ := HS1.out
                     have HAP := Lib.hid (fun X (h : Below v1.heap.size v1 X) => apply_two (mm := mm) (B0 := g2 + 1) q7 (hu.le (fun k hk => Nat.le_trans (Nat.le_trans HWS.out q5) hk)) (Nat.le_trans HWS.out q6) h ⟨HUD.out, HDE.out⟩ HF.out HAL.out.2)
                     have HB1 := Lib.hid (Below.refl v1.heap.size v1)
                     clear hm hu ha q1 q2 q3 q4 q5 q6 q7)
                  | (go_at_call 56; refine (HAP.out _ (by repeat (first | exact HB1.out | refine Below.drew ?_))).mono ?_
                     rintro e v2 ⟨B, d, rfl, hr, hb⟩
                     have HR2 := Lib.hid hr
                     have HB2 := Lib.hid hb
                     obtain ⟨z0, z1⟩ := HT1.out.below hb
                     obtain ⟨y0, y1, y2, y3, y4, y5, y6, -⟩ := HS1.out.below hb
                     obtain ⟨s0', s1', s2', s3', s4', s5', s6', sf⟩ := HR1.out.below hb
                     have sf0 := sf 0; have sf1 := sf 1; have sf2 := sf 2; have sf3 := sf 3; have sf4 := sf 4; have sf5 := sf 5; have sf6 := sf 6
                     clear hr hb sf))
              rename_i hHeld; clear hHeld
              go_wp2_with fail
              refine bodyPost_ret (v := .agg #[.int .i64 4, .int .i64 G, .int .i64 ax, .string ⟨#[]⟩, .slice none 0 0, .slice B 2 d, .int .i64 (deepT (dy G ax U T))]) (by simp [results, Tryz.results42, go_sem, s0', s1', s2', s3', s4', s5', s6']) rfl ?_
              exact ansT_put (B := g2 + 1) (HM1.out.trans (Mv.of_below HB2.out)) (HA1.out.below HB2.out) HR2.out (by omega) (Nat.lt_succ_self _) HLS.out
theorem expr_any {b m1 m2 : Nat} : ∀ n, ExAt b m1 m2 n := by
  intro n
  induction n with
  | zero => intro w L _ h; omega
  | succ n ih =>
    intro w L h hl
    by_cases hc : mnT (hd L) = 0
    · exact expr_dy n h ih hl hc
    · exact expr_mon n h ih hl hc
end Go.Proofs.YthgojbaindejjaaGreatDoor.ps
