/- Package parse: expressions. -/
import Derived.Test.YtihkflpbccebmaaDoorPsOperands
import Derived.Deep.RegionHeld3
namespace Go.Proofs.YtihkflpbccebmaaDoor.ps
open Go.ChangeShapes Go.WideShapes Go.ChangeAt Go.RowKit Go.Proofs.YtihkflpbccebmaaDoor.mem Go.Proofs.YtihkflpbccebmaaDoor.lx Go.Proofs.YtihkflpbccebmaaDoor.tr
set_option linter.unusedVariables false
set_option linter.unusedSimpArgs false
attribute [local go_sem] tk_kind tk_text tk_num

structure Two (g : Nat) (X : World) (x0 x1 : Value) : Prop where
  c0 : X.cell? ⟨g, 0, none⟩ = some x0
  c1 : X.cell? ⟨g, 1, none⟩ = some x1
theorem Two.lt {g : Nat} {X : World} {x0 x1 : Value} (h : Two g X x0 x1) : g < X.heap.size := cell_lt h.c0
theorem Two.mv {b g : Nat} {X X' : World} {x0 x1 : Value} (h : Two g X x0 x1) (hm : Mv b X X') (hg : g ≠ b) : Two g X' x0 x1 := ⟨(hm.cell h.lt hg).trans h.c0, (hm.cell h.lt hg).trans h.c1⟩
theorem Two.below {g : Nat} {X X' : World} {x0 x1 : Value} (h : Two g X x0 x1) (hb : Below X.heap.size X X') : Two g X' x0 x1 := ⟨(hb.cell (p := ⟨g, 0, none⟩) h.lt).trans h.c0, (hb.cell (p := ⟨g, 1, none⟩) h.lt).trans h.c1⟩
theorem two_new {w V : World} {x0 x1 : Value} {t : TypeId} (hV : V = w.alloc (.cells #[x0, x1] t)) : Two w.heap.size V x0 x1 ∧ Below w.heap.size w V ∧ V.heap.size = w.heap.size + 1 := by
  obtain ⟨c0, c1, _, _, s, b⟩ := two_cells hV
  exact ⟨⟨c0, c1⟩, b, s⟩
theorem dEx_succ (n : Nat) (L : List Tk) : dEx (n + 1) L = (if mnT (hd L) ≠ 0 then (match dAx (decide (mnT (hd L) = 3)) L.tail with
      | none => none
      | some (ax, r) => match dEx n r with
        | none => none
        | some (T, r') => some (mon (mnT (hd L)) ax T, r'))
    else match dOp (dEx n) L with
      | none => none
      | some (u, r) => if fnT (hd r) = 0 then some (u, r) else if fnT (hd r) ≠ 6 ∧ u.kind ≠ 1 ∧ u.kind ≠ 2 then none else
        match dAx (mayB (fnT (hd r))) r.tail with
        | none => none
        | some (ax, r') => match dEx n r' with
          | none => none
          | some (T, r'') => some (dy (fnT (hd r)) ax u T, r'')) := rfl
theorem dAx_len {may : Bool} {l : List Tk} {ax : Int} {r : List Tk} (hok : okL l) (h : dAx may l = some (ax, r)) : r.length ≤ l.length ∧ -1 ≤ ax ∧ ax ≤ 15 := by
  rcases dAx_some hok h with ⟨rfl, rfl⟩ | ⟨_, lb, x, rb, rfl, _, _, h4, h5, _, rfl⟩
  · exact ⟨Nat.le_refl _, by omega, by omega⟩
  · exact ⟨by simp; omega, by omega, by omega⟩
theorem fn_deep {b : Bool} {l : List Tk} {T : Tr} (h : G b l T) : deepT T ≤ l.length := by
  induction h with
  | name t h => show deepT (Tr.node _ _ _ _ _ _) ≤ _; rw [deep_node]; simp [deepL]
  | zil t h => rw [deep_lit]; simp
  | nums l h1 h2 =>
    rw [deep_lit]
    cases l with
    | nil => exact absurd rfl h1
    | cons t r => simp
  | paren a b l T _ _ _ ih => simp; omega
  | op l T _ ih => exact ih
  | mon f F ax l T hf _ _ ih =>
    have := fn_len hf
    show deepT (Tr.node _ _ _ _ _ _) ≤ _
    rw [deep_node, List.length_append]; simp [deepL]; omega
  | dy o u f F ax l T _ hf _ _ ih1 ih2 =>
    have := fn_len hf
    show deepT (Tr.node _ _ _ _ _ _) ≤ _
    rw [deep_node]; simp [deepL]; omega
theorem dEx_deep {n : Nat} {L : List Tk} {T : Tr} {r : List Tk} (hok : okL L) (h : dEx n L = some (T, r)) : deepT T ≤ L.length ∧ r.length ≤ L.length := by
  obtain ⟨a, rfl, hG⟩ := dEx_sound n L T r hok h
  have := fn_deep hG
  rw [List.length_append]; omega
theorem dOp_deep {n : Nat} {L : List Tk} {T : Tr} {r : List Tk} (hok : okL L) (h : dOp (dEx n) L = some (T, r)) : deepT T ≤ L.length ∧ r.length ≤ L.length := by
  obtain ⟨a, rfl, hG⟩ := dOp_sound (dEx_sound n) hok h
  have := fn_deep hG
  rw [List.length_append]; omega

theorem put7_apart {X : World} {g g3 j : Nat} {x0 x1 x2 x3 x4 x5 x6 : Value} (h : g ≠ g3) : (((((((X.setCell ⟨g, 0, none⟩ x0).setCell ⟨g, 1, none⟩ x1).setCell ⟨g, 2, none⟩ x2).setCell ⟨g, 3, none⟩ x3).setCell ⟨g, 4, none⟩ x4).setCell ⟨g, 5, none⟩ x5).setCell ⟨g, 6, none⟩ x6).cell? ⟨g3, j, none⟩ = X.cell? ⟨g3, j, none⟩ :=
  ((((((set_apart h).trans (set_apart h)).trans (set_apart h)).trans (set_apart h)).trans (set_apart h)).trans (set_apart h)).trans (set_apart h)
/-- One branch in a row of its own. -/
theorem rowB_one {Q : Nat → Prop} {X Y : World} {T : Tr} {u : S6} {t : TypeId} (hu : RdQ Q X T u.agg) (hY : Y = X.alloc (.cells #[u.c0, u.c1, u.c2, u.c3, u.c4, u.c5, .int .i64 (deepT T)] t)) : RowB Q Y ⟨X.heap.size, 0, none⟩ [T] := by
  obtain ⟨hs, hb, hz⟩ := seven_new hY
  intro k U hk
  cases k with
  | succ k => simp at hk
  | zero =>
    simp at hk
    subst hk
    refine ⟨by show X.heap.size < Y.heap.size; omega, u, hu.below hb, ?_⟩
    rw [Nat.zero_mul, add_at]
    simp only [Nat.zero_add]
    exact ⟨hs.c0, hs.c1, hs.c2, hs.c3, hs.c4, hs.c5, hs.c6⟩
theorem deepL_one (T : Tr) : deepL [T] = deepT T := by simp [deepL]
theorem deep_mon (F ax : Int) (T : Tr) : deepT (mon F ax T) = deepT T + 1 := by unfold mon; rw [deep_node, deepL_one]
theorem rd_mon {Q : Nat → Prop} {w : World} {F ax : Int} {T : Tr} {B : Option Addr} {d : Nat} (hF : 0 ≤ F ∧ F ≤ 6) (hx : -1 ≤ ax ∧ ax ≤ 15) (h1 : 1 ≤ d) (hn : B = none → d = 0) (hr : RdQL Q w [T] B 0) :
    RdQ Q w (mon F ax T) (.agg #[.int .i64 3, .int .i64 F, .int .i64 ax, .string ⟨#[]⟩, .slice none 0 0, .slice B 1 d]) := by
  unfold mon
  rw [rdQ_node]
  exact ⟨none, 0, 0, B, 1, d, rfl, in64_k (by decide) (by decide), in64_k (by omega) (by omega), in64_k (by omega) (by omega), by decide, Rd.nil_, Nat.le_refl _, by omega, (fun _ => rfl), (fun x hx => by simp at hx), rfl, h1, by omega, hn, (fun ad e _ => by cases e), hr⟩
/-- A node of one operand is made. -/
theorem apply_one {X v1 : World} {T : Tr} {u : S6} {F ax : Int} {mm : Bool} {B0 : Nat} (hu : RdQ (fun k => B0 ≤ k) v1 T u.agg) (hB : B0 ≤ v1.heap.size) (hX : Below v1.heap.size v1 X) (hd : deepT T ≤ 65536) (hF : 0 ≤ F ∧ F ≤ 6) (hx : -1 ≤ ax ∧ ax ≤ 15) :
    Calls Tryd.prog 40 #[.agg #[.int .i64 F, .bool mm], .int .i64 3, .int .i64 ax, .slice (some ⟨X.heap.size, 0, none⟩) 1 1] (X.alloc (.cells #[u.c0, u.c1, u.c2, u.c3, u.c4, u.c5, .int .i64 (deepT T)] 63)) fun e w' => ∃ B d,
      e = .returned (.agg #[.int .i64 3, .int .i64 F, .int .i64 ax, .string ⟨#[]⟩, .slice none 0 0, .slice B 1 d, .int .i64 (deepT (mon F ax T) : Nat)]) ∧ RdQ (fun k => B0 ≤ k) w' (mon F ax T) (.agg #[.int .i64 3, .int .i64 F, .int .i64 ax, .string ⟨#[]⟩, .slice none 0 0, .slice B 1 d]) ∧ Below v1.heap.size v1 w' := by
  obtain ⟨Y, hY⟩ : ∃ Y, Y = X.alloc (.cells #[u.c0, u.c1, u.c2, u.c3, u.c4, u.c5, .int .i64 (deepT T)] 63) := ⟨_, rfl⟩
  have hr := rowB_one (Q := fun k => B0 ≤ k ∧ k < v1.heap.size) (hu.old.below hX) hY
  obtain ⟨-, hbY, hsY⟩ := seven_new hY
  rw [← hY]
  refine (apply_any (fun k => B0 ≤ k ∧ k < v1.heap.size) mm F 3 ax ⟨X.heap.size, 0, none⟩ 1 1 [T] Y (fun k hk => by have := hk.2; have := hX.size; omega) rfl (by omega) hr (fun U hU => by simp at hU; subst hU; omega)).mono ?_
  rintro e w' ⟨B, d, rfl, h1, h2, h3, h4⟩
  refine ⟨B, d, by rw [deep_mon, deepL_one]; rfl, rd_mon hF hx h1 h2 (RdQL.keep (Nat.le_refl _) (fun a _ _ => rfl) (fun k hk => ?_) h3), (hX.trans (hbY.mono hX.size)).trans (h4.mono (by have := hX.size; omega))⟩
  rcases hk with hk | hk
  · exact hk.1
  · have := hX.size
    show B0 ≤ k
    omega
set_option maxHeartbeats 4000000 in
theorem expr_mon {b m1 m2 : Nat} {w : World} {L : List Tk} (n : Nat) (h : At b m1 m2 w L) (hE : ExAt b m1 m2 n) (hn : L.length < n + 1) (hc : mnT (hd L) ≠ 0) :
    Calls Tryd.prog 31 #[.pointer (some ⟨b, 0, none⟩)] w (AnsT b m1 m2 w (dEx (n + 1) L)) := by
  obtain ⟨W, hW⟩ : ∃ W, W = w.alloc (.cells #[.int .i64 0, .int .i64 0, .int .i64 0, .string ⟨#[]⟩, .slice none 0 0, .slice none 0 0, .int .i64 0] 63) := ⟨_, rfl⟩
  have HO := Lib.hid (op0_new h hW)
  have PF := Lib.hid (function_any false HO.out.at_)
  have hmap := HO.out.at_.mon
  rw [dEx_succ, if_pos hc]
  have hlen : L.tail.length + 1 = L.length := by
    cases L with
    | nil => exact absurd rfl hc
    | cons t r => simp
  have hok : okL L.tail := by
    cases L with
    | nil => exact absurd rfl hc
    | cons t r => exact h.ok.cons.2
  change Hid (Calls Tryd.prog 38 #[.pointer (some ⟨b, 0, none⟩), .map (some m1)] W (fun e w' => e = .returned (.tuple #[.agg #[.int .i64 (mnT (hd L)), .bool (decide (mnT (hd L) = 3))], .bool (decide (mnT (hd L) ≠ 0))]) ∧ Mv b W w' ∧ At b m1 m2 w' (if mnT (hd L) ≠ 0 then L.tail else L))) at PF
  rw [if_pos hc, decide_eq_true hc] at PF
  have PX := Lib.hid (fun V may (h : At b m1 m2 V L.tail) => axis_any (mnT (hd L)) may h)
  have HF : Hid (0 ≤ mnT (hd L) ∧ mnT (hd L) ≤ 6) := Lib.hid (by rw [mnT_fnT]; have := fn_range (hd L); split <;> omega)
  generalize mnT (hd L) = F at *
  generalize hR : L.tail = R at *
  have HLB := Lib.hid (show R.length < n by omega)
  have HOK := Lib.hid hok
  have HW := Lib.hid hW
  have hL65 := h.len
  have HL65 := Lib.hid (show R.length ≤ 65536 by omega)
  clear h hW hlen hok hn hc hL65
  cases ha : dAx (decide (F = 3)) R with
  | none =>
    have PX := Lib.hid (fun V h => PX.out V (decide (F = 3)) h)
    rw [ha] at PX
    simp only [Option.map_none] at PX ⊢
    generalize hmm : decide (F = 3) = mm at *
    clear ha hmm hE
    go_enter Tryd.func31, Tryd.ntmps31
    go_upto_region 1 with fail
    rw [← HW.out]
    go_wp2_with fail
    refine PF.out.mono ?_
    rintro e w1 ⟨rfl, hm, ha⟩
    have HO1 := Lib.hid (HO.out.mvs hm ha)
    obtain ⟨V, hV⟩ : ∃ V, V = w1.alloc (.cells #[.int .i64 F, .bool mm] 76) := ⟨_, rfl⟩
    obtain ⟨hT, hbV, hsV⟩ := two_new hV
    have HOV := Lib.hid (HO1.out.below hbV)
    have HT := Lib.hid hT
    have P1 := Lib.hid (PX.out V (HOV.out.at_))
    have HV := Lib.hid hV
    obtain ⟨c0, c1⟩ := hT
    clear hm ha hV hbV hsV
    go_upto_region 3 with fail
    rw [← HV.out]
    go_wp2_with fail
    refine P1.out.mono ?_
    rintro e w2 ⟨hm, rfl⟩
    exact ⟨rfl, HOV.out.mv.trans hm, rfl⟩
  | some p =>
    obtain ⟨ax, r⟩ := p
    have hal := dAx_len HOK.out ha
    have PX := Lib.hid (fun V h => PX.out V (decide (F = 3)) h)
    rw [ha] at PX
    simp only [Option.map_some] at PX ⊢
    have PE := Lib.hid (fun V (h : At b m1 m2 V r) => hE V r h (by have := HLB.out; omega))
    generalize hmm : decide (F = 3) = mm at *
    clear ha hmm hE
    have HAL := Lib.hid hal
    clear hal
    cases hx : dEx n r with
    | none =>
      rw [hx] at PE
      clear hx
      go_enter Tryd.func31, Tryd.ntmps31
      go_upto_region 1 with fail
      rw [← HW.out]
      go_wp2_with fail
      refine PF.out.mono ?_
      rintro e w1 ⟨rfl, hm, ha⟩
      have HO1 := Lib.hid (HO.out.mvs hm ha)
      obtain ⟨V, hV⟩ : ∃ V, V = w1.alloc (.cells #[.int .i64 F, .bool mm] 76) := ⟨_, rfl⟩
      obtain ⟨hT, hbV, hsV⟩ := two_new hV
      have HOV := Lib.hid (HO1.out.below hbV)
      have HT := Lib.hid hT
      have P1 := Lib.hid (PX.out V (HOV.out.at_))
      have HV := Lib.hid hV
      have HG := Lib.hid (show w1.heap.size ≠ b ∧ w.heap.size < w1.heap.size ∧ V.heap.size = w1.heap.size + 1 by have := HO1.out.lt; have := HO1.out.size; omega)
      obtain ⟨c0, c1⟩ := hT
      clear hm ha hV hbV hsV
      go_upto_region 3 with fail
      rw [← HV.out]
      go_wp2_with fail
      refine P1.out.mono ?_
      rintro e w2 ⟨hm, rfl, ha⟩
      have HO2 := Lib.hid (HOV.out.mvs hm ha)
      have HT2 := Lib.hid (HT.out.mv hm HG.out.1)
      clear hm ha c0 c1
      go_upto_region 4 with fail
      obtain ⟨c0, c1⟩ := HT2.out
      have HKA : Hid (∀ V', Below w2.heap.size w2 V' → At b m1 m2 V' r ∧ Mv b w V') := Lib.hid fun V' h => ⟨HO2.out.at_.below h, HO2.out.mv.trans (Mv.of_below h)⟩
      have HD := Lib.hid (Below.refl w2.heap.size w2)
      have HKM : Hid (∀ V' v1, Mv b V' v1 → Below w2.heap.size w2 V' → Mv b w v1) := Lib.hid fun V' v1 hm h => (HO2.out.mv.trans (Mv.of_below h)).trans hm
      generalize hg3 : w1.heap.size = g3 at *
      refine wp_region_held_drew (S := (fun w' => w'.cell? ⟨g3, 0, none⟩ = some (.int .i64 F) ∧ w'.cell? ⟨g3, 1, none⟩ = some (.bool mm))) (by kernel_rfl) ⟨c0, c1⟩ (fun hHeld => ?_)
      refine wpAnyH_take (i := 0) (oi := ⟨some 23, _, _, _, _, _⟩) (v := ?_) rfl (by kernel_rfl) (by kernel_rfl) (by kernel_rfl) (fun _ _ _ h => h) (Or.inl ⟨by rfl, ?_⟩) (by assumption) ?_
      rotate_left
      · (intro w hSw; (try dsimp only at hSw); first | (go_simp; done) | (go_simp; with_reducible rfl))
      try simp only [Act.put, List.setIfInBounds_toArray, List.set_cons_zero, List.set_cons_succ]
      refine wpAnyH_take (i := 1) (oi := ⟨some 24, _, _, _, _, _⟩) (v := ?_) rfl (by kernel_rfl) (by kernel_rfl) (by kernel_rfl) (fun _ _ _ h => h) (Or.inl ⟨by rfl, ?_⟩) (by assumption) ?_
      rotate_left
      · (intro w hSw; (try dsimp only at hSw); first | (go_simp; done) | (go_simp; with_reducible rfl))
      try simp only [Act.put, List.setIfInBounds_toArray, List.set_cons_zero, List.set_cons_succ]
      refine wpAnyH_take (i := 2) (oi := ⟨some 25, _, _, _, _, _⟩) (v := ?_) rfl (by kernel_rfl) (by kernel_rfl) (by kernel_rfl) (fun _ _ _ h => h) (Or.inl ⟨by rfl, ?_⟩) (by assumption) ?_
      rotate_left
      · (intro w hSw; (try dsimp only at hSw); first | (go_simp; done) | (go_simp; with_reducible rfl))
      try simp only [Act.put, List.setIfInBounds_toArray, List.set_cons_zero, List.set_cons_succ]
      refine wpAnyH_ready (rs := [3]) (by kernel_rfl) (by simp) ?_
      refine AllReadyH.cons (o := ⟨some 26, _, _, _, _, _⟩) rfl (fun K hK => ?_) AllReadyH.nil
      go_simp
      refine (PE.out _ (HKA.out _ (by repeat (first | exact HD.out | refine Below.drew ?_))).1).mono ?_
      rintro e v1 ⟨hm, rfl⟩
      exact ⟨rfl, HKM.out _ _ hm (by repeat (first | exact HD.out | refine Below.drew ?_)), rfl⟩
    | some q =>
      obtain ⟨T, r2⟩ := q
      rw [hx] at PE
      have HX := Lib.hid hx
      clear hx
      go_enter Tryd.func31, Tryd.ntmps31
      go_upto_region 1 with fail
      rw [← HW.out]
      go_wp2_with fail
      refine PF.out.mono ?_
      rintro e w1 ⟨rfl, hm, ha⟩
      have HO1 := Lib.hid (HO.out.mvs hm ha)
      obtain ⟨V, hV⟩ : ∃ V, V = w1.alloc (.cells #[.int .i64 F, .bool mm] 76) := ⟨_, rfl⟩
      obtain ⟨hT, hbV, hsV⟩ := two_new hV
      have HOV := Lib.hid (HO1.out.below hbV)
      have HT := Lib.hid hT
      have P1 := Lib.hid (PX.out V (HOV.out.at_))
      have HV := Lib.hid hV
      have HG := Lib.hid (show w1.heap.size ≠ b ∧ w.heap.size < w1.heap.size ∧ V.heap.size = w1.heap.size + 1 by have := HO1.out.lt; have := HO1.out.size; omega)
      obtain ⟨c0, c1⟩ := hT
      clear hm ha hV hbV hsV
      go_upto_region 3 with fail
      rw [← HV.out]
      go_wp2_with fail
      refine P1.out.mono ?_
      rintro e w2 ⟨hm, rfl, ha⟩
      have HO2 := Lib.hid (HOV.out.mvs hm ha)
      have HT2 := Lib.hid (HT.out.mv hm HG.out.1)
      clear hm ha c0 c1
      go_upto_region 4 with fail
      obtain ⟨c0, c1⟩ := HT2.out
      have HDE := Lib.hid (show deepT T ≤ 65536 from by have := (dEx_deep HO2.out.at_.ok HX.out).1; have := HO2.out.at_.len; omega)
      have HKA : Hid (∀ V', Below w2.heap.size w2 V' → At b m1 m2 V' r) := Lib.hid fun V' h => HO2.out.at_.below h
      have HKM : Hid (∀ V' v1, Mv b V' v1 → Below w2.heap.size w2 V' → Mv b w v1 ∧ Two w1.heap.size v1 (.int .i64 F) (.bool mm) ∧ Seven w.heap.size v1 (.int .i64 0) (.int .i64 0) (.int .i64 0) (.string ⟨#[]⟩) (.slice none 0 0) (.slice none 0 0) (.int .i64 0) ∧ w2.heap.size ≤ V'.heap.size ∧ w2.heap.size ≤ v1.heap.size) :=
        Lib.hid fun V' v1 hm h => ⟨(HO2.out.mv.trans (Mv.of_below h)).trans hm, (HT2.out.below h).mv hm HG.out.1, (HO2.out.seven.below h).mv hm (by have := HO2.out.lt; omega), h.size, Nat.le_trans h.size hm.size⟩
      have HD := Lib.hid (Below.refl w2.heap.size w2)
      have HNE := Lib.hid (show w.heap.size ≠ w1.heap.size by have := HG.out; omega)
      have HLS := Lib.hid (show w.heap.size < w2.heap.size ∧ b < w.heap.size by have := HO2.out.lt; have := HO2.out.size; omega)
      generalize hg3 : w1.heap.size = g3 at *
      generalize hg2 : w.heap.size = g2 at *
      go_region_held3 (fun w' => w'.cell? ⟨g3, 0, none⟩ = some (.int .i64 F) ∧ w'.cell? ⟨g3, 1, none⟩ = some (.bool mm))
        ((first | go_keep | exact ⟨(put7_apart HNE.out).trans z0, (put7_apart HNE.out).trans z1⟩))
        (first
          | (go_at_call 31; refine (PE.out _ (HKA.out _ (by repeat (first | exact HD.out | refine Below.drew ?_)))).mono ?_
             rintro e v1 ⟨hm, u, rfl, hu, ha⟩
             obtain ⟨x0, f0, a0, s0, A0, nn0, cc0, B0, mm0, d0, rfl, -⟩ := RdQ_six hu
             obtain ⟨q1, q2, q3, q4, q5⟩ := HKM.out _ _ hm (by repeat (first | exact HD.out | refine Below.drew ?_))
             have HM1 := Lib.hid q1
             have HA1 := Lib.hid ha
             have HT1 := Lib.hid q2
             have HS1 := Lib.hid q3
             obtain ⟨y0, y1⟩ := HT1.out
             have HAP := Lib.hid (fun X (h : Below v1.heap.size v1 X) => apply_one (mm := mm) (B0 := w2.heap.size) (hu.le (fun k hk => Nat.le_trans q4 hk)) q5 h HDE.out HF.out HAL.out.2)
             have HB1 := Lib.hid (Below.refl v1.heap.size v1)
             clear hm hu ha q1 q2 q3 q4 q5)
          | (go_at_call 40; refine (HAP.out _ (by repeat (first | exact HB1.out | refine Below.drew ?_))).mono ?_
             rintro e v2 ⟨B, d, rfl, hr, hb⟩
             have HR2 := Lib.hid hr
             have HB2 := Lib.hid hb
             obtain ⟨z0, z1⟩ := HT1.out.below hb
             obtain ⟨s0', s1', s2', s3', s4', s5', s6', sf⟩ := HS1.out.below hb
             have sf0 := sf 0; have sf1 := sf 1; have sf2 := sf 2; have sf3 := sf 3; have sf4 := sf 4; have sf5 := sf 5; have sf6 := sf 6
             clear hr hb sf))
      rename_i hHeld; clear hHeld
      go_wp2_with fail
      refine bodyPost_ret (v := .agg #[.int .i64 3, .int .i64 F, .int .i64 ax, .string ⟨#[]⟩, .slice none 0 0, .slice B 1 d, .int .i64 (deepT (mon F ax T))]) (by simp [results, Tryd.results31, go_sem, s0', s1', s2', s3', s4', s5', s6']) rfl ?_
      exact ansT_put (B := w2.heap.size) (HM1.out.trans (Mv.of_below HB2.out)) (HA1.out.below HB2.out) HR2.out (by omega) HLS.out.1 HLS.out.2
end Go.Proofs.YtihkflpbccebmaaDoor.ps
