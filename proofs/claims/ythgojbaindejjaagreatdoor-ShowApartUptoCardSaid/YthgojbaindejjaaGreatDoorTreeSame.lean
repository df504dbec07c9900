/- The reference of package tree: Same: two trees are the same as data. -/
import Derived.Test.YthgojbaindejjaaGreatDoorTreeRef
import Derived.Test.YthgojbaindejjaaGreatDoorLexLead
import Derived.Deep.QuietTactic
import Derived.BigQuiet
import Derived.RegionTactic
import Derived.Deep.RegionHeld3
namespace Go.Proofs.YthgojbaindejjaaGreatDoor.tr
open Go.ChangeShapes Go.WideShapes Go.ChangeAt Go.RowKit Go.Proofs.YthgojbaindejjaaGreatDoor.mem
set_option linter.unusedVariables false

noncomputable def sameT (T U : Tr) : Bool := @decide (T = U) (Classical.propDecidable _)
theorem same_yes {T U : Tr} (h : T = U) : sameT T U = true := by unfold sameT; exact @decide_eq_true _ (Classical.propDecidable _) h
theorem same_no {T U : Tr} (h : T ≠ U) : sameT T U = false := by unfold sameT; exact @decide_eq_false _ (Classical.propDecidable _) h
theorem same_self (T : Tr) : sameT T T = true := same_yes rfl
theorem of_same {T U : Tr} (h : sameT T U = true) : T = U := by unfold sameT at h; exact @of_decide_eq_true _ (Classical.propDecidable _) h
theorem of_not_same {T U : Tr} (h : sameT T U = false) : T ≠ U := by unfold sameT at h; exact @of_decide_eq_false _ (Classical.propDecidable _) h
theorem str_ne {s t : ByteArray} (h : s ≠ t) : (s.toList != t.toList) = true ∧ (s.toList == t.toList) = false := by
  have e := lx.str_same (lx.bl s) (lx.bl t)
  rw [lx.str_bl, lx.str_bl] at e
  unfold bne
  rw [e]
  have : (lx.bl s == lx.bl t) = false := by
    simp only [beq_eq_false_iff_ne]
    intro h2
    exact h (by rw [← lx.str_bl s, ← lx.str_bl t, h2])
  rw [this]; exact ⟨rfl, rfl⟩
theorem int_ne {x y : Int} (h : x ≠ y) : (x != y) = true := by simpa using h
theorem take_step {α : Type} {l m : List α} {k : Nat} {x : α} (h : l.take k = m.take k) (h1 : l[k]? = some x) (h2 : m[k]? = some x) : l.take (k + 1) = m.take (k + 1) := by
  obtain ⟨a1, rfl⟩ := List.getElem?_eq_some_iff.1 h1
  obtain ⟨a2, e⟩ := List.getElem?_eq_some_iff.1 h2
  rw [List.take_succ_eq_append_getElem a1, List.take_succ_eq_append_getElem a2, h, e]
theorem take_all {α : Type} {l m : List α} {k : Nat} (h : l.take k = m.take k) (h1 : l.length ≤ k) (h2 : m.length ≤ k) : l = m := by
  rwa [List.take_of_length_le h1, List.take_of_length_le h2] at h

theorem two_boxes6 {w W : World} {x0 x1 x2 x3 x4 x5 y0 y1 y2 y3 y4 y5 : Value} {t u : TypeId} (hW : W = (w.alloc (.cells #[x0, x1, x2, x3, x4, x5] t)).alloc (.cells #[y0, y1, y2, y3, y4, y5] u)) :
    Below w.heap.size w W ∧ W.heap.size = w.heap.size + 2 ∧ ∀ V, Below W.heap.size W V →
      (V.cell? ⟨w.heap.size, 0, none⟩ = some x0 ∧ V.cell? ⟨w.heap.size, 1, none⟩ = some x1 ∧ V.cell? ⟨w.heap.size, 2, none⟩ = some x2 ∧ V.cell? ⟨w.heap.size, 3, none⟩ = some x3 ∧ V.cell? ⟨w.heap.size, 4, none⟩ = some x4 ∧ V.cell? ⟨w.heap.size, 5, none⟩ = some x5) ∧
      (V.cell? ⟨w.heap.size + 1, 0, none⟩ = some y0 ∧ V.cell? ⟨w.heap.size + 1, 1, none⟩ = some y1 ∧ V.cell? ⟨w.heap.size + 1, 2, none⟩ = some y2 ∧ V.cell? ⟨w.heap.size + 1, 3, none⟩ = some y3 ∧ V.cell? ⟨w.heap.size + 1, 4, none⟩ = some y4 ∧ V.cell? ⟨w.heap.size + 1, 5, none⟩ = some y5) := by
  obtain ⟨V1, hV1⟩ : ∃ V1, V1 = w.alloc (.cells #[x0, x1, x2, x3, x4, x5] t) := ⟨_, rfl⟩
  rw [← hV1] at hW
  obtain ⟨b1, s1, c1⟩ := one_box6 hV1
  obtain ⟨b2, s2, c2⟩ := one_box6 hW
  refine ⟨later b1 b2, by omega, fun V h => ⟨c1 V (later b2 h), ?_⟩⟩
  have := c2 V h
  rw [s1] at this
  exact this

set_option maxHeartbeats 4000000 in
set_option maxRecDepth 100000 in
theorem refSame_any (T : Tr) : ∀ (U : Tr) (u v : Value) (w : World), RdT w T u → RdT w U v → Calls Tryz.prog 16 #[u, v] w (Say w (sameT T U)) := by
  induction T using Tr.ind with
  | h k f a s ns ks ih =>
    intro U u v w hr hr'
    obtain ⟨k', f', a', s', ns', ks'⟩ := U
    obtain ⟨A, n, c, B, m, d, rfl, _, _, _, _, hns, hnc, hcm, _, _, hm, hmd, hd, _, hL⟩ := rdT_node.1 hr
    obtain ⟨A', n', c', B', m', d', rfl, _, _, _, _, hns', hnc', hcm', _, _, hm', hmd', hd', _, hL'⟩ := rdT_node.1 hr'
    obtain ⟨W, hW⟩ : ∃ W, W = (w.alloc (.cells #[.int .i64 k, .int .i64 f, .int .i64 a, .string s, .slice A n c, .slice B m d] 25)).alloc (.cells #[.int .i64 k', .int .i64 f', .int .i64 a', .string s', .slice A' n' c', .slice B' m' d'] 25) := ⟨_, rfl⟩
    obtain ⟨hb, hsz, KC⟩ := two_boxes6 hW
    have HSZ := Lib.hid hsz; clear hsz
    have HL := Lib.hid (hL.below hb)
    have HL' := Lib.hid (hL'.below hb)
    have HA := Lib.hid (hns.below hb)
    have HA' := Lib.hid (hns'.below hb)
    have HW := Lib.hid hW
    have HB := Lib.hid hb
    have HKC := Lib.hid KC
    have IH := Lib.hid ih
    have HM := Lib.hid hm
    have HM' := Lib.hid hm'
    clear hr hr' hL hL' hW hb KC ih hm hm' hns hns'
    obtain ⟨⟨k0, k1, k2, k3, k4, k5⟩, j0, j1, j2, j3, j4, j5⟩ := HKC.out W (Below.refl _ _)
    by_cases hk : k = k'
    case neg =>
      have hb := int_ne hk
      have HX := Lib.hid (same_no (T := .node k f a s ns ks) (U := .node k' f' a' s' ns' ks') (by intro e; injection e with e1 e2 e3 e4 e5 e6; exact hk e1))
      clear hk
      go_enter Tryz.func16, Tryz.ntmps16
      go_wp2_with fail
      rw [← HW.out]
      try go_wp2_with fail
      go_ret
      exact ⟨ret_bool HX.out.symm, HB.out⟩
    subst hk
    by_cases hf : f = f'
    case neg =>
      have hb := int_ne hf
      have HX := Lib.hid (same_no (T := .node k f a s ns ks) (U := .node k f' a' s' ns' ks') (by intro e; injection e with e1 e2 e3 e4 e5 e6; exact hf e2))
      clear hf
      go_enter Tryz.func16, Tryz.ntmps16
      go_wp2_with fail
      rw [← HW.out]
      try go_wp2_with fail
      go_ret
      exact ⟨ret_bool HX.out.symm, HB.out⟩
    subst hf
    by_cases ha : a = a'
    case neg =>
      have hb := int_ne ha
      have HX := Lib.hid (same_no (T := .node k f a s ns ks) (U := .node k f a' s' ns' ks') (by intro e; injection e with e1 e2 e3 e4 e5 e6; exact ha e3))
      clear ha
      go_enter Tryz.func16, Tryz.ntmps16
      go_wp2_with fail
      rw [← HW.out]
      try go_wp2_with fail
      go_ret
      exact ⟨ret_bool HX.out.symm, HB.out⟩
    subst ha
    by_cases hs : s = s'
    case neg =>
      have hb := str_ne hs
      have HX := Lib.hid (same_no (T := .node k f a s ns ks) (U := .node k f a s' ns' ks') (by intro e; injection e with e1 e2 e3 e4 e5 e6; exact hs e4))
      clear hs
      go_enter Tryz.func16, Tryz.ntmps16
      go_wp2_with fail
      rw [← HW.out]
      try go_wp2_with fail
      go_ret
      exact ⟨ret_bool HX.out.symm, HB.out⟩
    subst hs
    by_cases hn : n = n'
    case neg =>
      have hb : ((n : Int) != (n' : Int)) = true := by simp; omega
      have HX := Lib.hid (same_no (T := .node k f a s ns ks) (U := .node k f a s ns' ks') (by intro e; injection e with e1 e2 e3 e4 e5 e6; exact hn (by rw [← HA.out.1, ← HA'.out.1, e5])))
      clear hn
      go_enter Tryz.func16, Tryz.ntmps16
      go_wp2_with fail
      rw [← HW.out]
      try go_wp2_with fail
      go_ret
      exact ⟨ret_bool HX.out.symm, HB.out⟩
    subst hn
    by_cases hm : m = m'
    case neg =>
      have hb : ((m : Int) != (m' : Int)) = true := by simp; omega
      have HX := Lib.hid (same_no (T := .node k f a s ns ks) (U := .node k f a s ns' ks') (by intro e; injection e with e1 e2 e3 e4 e5 e6; exact hm (by rw [← HM.out, ← HM'.out, e6])))
      clear hm
      go_enter Tryz.func16, Tryz.ntmps16
      go_wp2_with fail
      rw [← HW.out]
      try go_wp2_with fail
      go_ret
      exact ⟨ret_bool HX.out.symm, HB.out⟩
    subst hm
    have HNO := Lib.hid (show (ns ≠ ns' ∨ ks ≠ ks') → sameT (.node k f a s ns ks) (.node k f a s ns' ks') = false from fun h => same_no (by
      intro e; injection e with e1 e2 e3 e4 e5 e6
      rcases h with h | h
      · exact h e5
      · exact h e6))
    clear k0 k1 k2 k3 k4 k5 j0 j1 j2 j3 j4 j5
    go_enter Tryz.func16, Tryz.ntmps16
    go_wp2_with fail
    rw [← HW.out]
    go_loopw [5] (fun i wr => ∃ j : Nat, j ≤ n ∧ i = .int .i64 j ∧ Hid (ns.take j = ns'.take j) ∧ Hid (Below W.heap.size W wr)) (fun i _ => n - (intOf i).toNat)
    case atStart => exact ⟨0, Nat.zero_le _, rfl, Lib.hid rfl, Lib.hid (Below.refl _ _)⟩
    case round =>
      obtain ⟨wo, rfl⟩ : ∃ wo : World, wo = wr := ⟨_, rfl⟩
      obtain ⟨j, hj, rfl, HQ, HV⟩ := hrel
      obtain ⟨⟨_, _, _, _, k4, _⟩, _, _, _, _, j4, _⟩ := HKC.out wo HV.out
      by_cases hlt : j < n
      · obtain ⟨ad1, x, rfl, hx, hc1⟩ := (HA.out.below HV.out).at_ hlt
        obtain ⟨ad2, y, rfl, hy, hc2⟩ := (HA'.out.below HV.out).at_ hlt
        have HXY := Lib.hid (And.intro hx hy)
        clear hx hy
        have hi1 : (j : Int) < (n : Int) := by omega
        by_cases hxy : x = y
        · subst hxy
          go_wp2_with fail
          go_quiet (fail)
          go_wp2_with fail
          go_roundw
          case rel => exact ⟨j + 1, by omega, by go_num, Lib.hid (take_step HQ.out HXY.out.1 HXY.out.2), Lib.hid (by have := HV.out; first | exact this | exact below_drewN this _)⟩
          case measure => simp [intOf]; omega
        · have hb := int_ne hxy
          have HX := Lib.hid (HNO.out (.inl (by intro e; rw [e] at HXY; have h1 := HXY.out; rw [h1.1] at h1; simp at h1; exact hxy h1)))
          clear hxy
          go_wp2_with fail
          go_quiet (fail)
          go_wp2_with fail
          go_ret
          exact ⟨ret_bool HX.out.symm, by have := HV.out; exact later HB.out (by first | exact this | exact below_drewN this _)⟩
      · have HE := Lib.hid (take_all HQ.out (by rw [HA.out.1]; omega) (by rw [HA'.out.1]; omega))
        go_wp2_with fail
        clear k4 j4
        go_loopw [6] (fun i wr => ∃ j : Nat, j ≤ m ∧ i = .int .i64 j ∧ Hid (ks.take j = ks'.take j) ∧ Hid (Below W.heap.size W wr)) (fun i _ => m - (intOf i).toNat)
        case atStart => exact ⟨0, Nat.zero_le _, rfl, Lib.hid rfl, HV⟩
        case round =>
          obtain ⟨wq, rfl⟩ : ∃ wq : World, wq = wr := ⟨_, rfl⟩
          clear HV
          obtain ⟨j, hj, rfl, HQ2, HV⟩ := hrel
          obtain ⟨⟨_, _, _, _, _, k5⟩, _, _, _, _, _, j5⟩ := HKC.out wq HV.out
          by_cases hlt : j < m
          · obtain ⟨T, hT⟩ : ∃ T, ks[j]? = some T := ⟨_, List.getElem?_eq_getElem (by rw [HM.out]; exact hlt)⟩
            obtain ⟨U, hU⟩ : ∃ U, ks'[j]? = some U := ⟨_, List.getElem?_eq_getElem (by rw [HM'.out]; exact hlt)⟩
            have HT := Lib.hid (And.intro hT hU)
            obtain ⟨ad1, c0, c1, c2, c3, c4, c5, rfl, l1, q0, q1, q2, q3, q4, q5, hR⟩ := (HL.out.below HV.out).kid hT
            obtain ⟨ad2, b0, b1, b2, b3, b4, b5, rfl, l2, p0, p1, p2, p3, p4, p5, hR'⟩ := (HL'.out.below HV.out).kid hU
            have hi1 : (j : Int) < (m : Int) := by omega
            obtain ⟨r, hr⟩ : ∃ r, r = sameT T U := ⟨_, rfl⟩
            have HRR := Lib.hid hr
            have HD := Lib.hid (show Below wq.heap.size wq wq.drew from Below.drew (Below.refl _ _))
            have P1 : ∀ V, Hid (Below wq.heap.size wq V) → Hid (Calls Tryz.prog 16 #[.agg #[c0, c1, c2, c3, c4, c5], .agg #[b0, b1, b2, b3, b4, b5]] V fun e V' => e = .returned (.bool r) ∧ Hid (Below wq.heap.size wq V')) := fun V h =>
              Lib.hid ((IH.out T (List.mem_of_getElem? hT) U _ _ V (hR.below h.out) (hR'.below h.out)).mono fun e V' hm => by
                obtain ⟨rfl, hb⟩ := hm
                exact ⟨by rw [hr], Lib.hid (later h.out hb)⟩)
            clear hT hU hR hR' hr
            go_wp2_with fail
            go_region_held3 (fun w' => w'.cell? ⟨w.heap.size, 5, none⟩ = some (.slice (some ad1) m d) ∧ w'.cell? ⟨w.heap.size + 1, 5, none⟩ = some (.slice (some ad2) m d') ∧
                w'.cell? (ad1.add (j * 6)) = some c0 ∧ w'.cell? ⟨(ad1.add (j * 6)).block, (ad1.add (j * 6)).off + 1, none⟩ = some c1 ∧ w'.cell? ⟨(ad1.add (j * 6)).block, (ad1.add (j * 6)).off + 2, none⟩ = some c2 ∧ w'.cell? ⟨(ad1.add (j * 6)).block, (ad1.add (j * 6)).off + 3, none⟩ = some c3 ∧ w'.cell? ⟨(ad1.add (j * 6)).block, (ad1.add (j * 6)).off + 4, none⟩ = some c4 ∧ w'.cell? ⟨(ad1.add (j * 6)).block, (ad1.add (j * 6)).off + 5, none⟩ = some c5 ∧
                w'.cell? (ad2.add (j * 6)) = some b0 ∧ w'.cell? ⟨(ad2.add (j * 6)).block, (ad2.add (j * 6)).off + 1, none⟩ = some b1 ∧ w'.cell? ⟨(ad2.add (j * 6)).block, (ad2.add (j * 6)).off + 2, none⟩ = some b2 ∧ w'.cell? ⟨(ad2.add (j * 6)).block, (ad2.add (j * 6)).off + 3, none⟩ = some b3 ∧ w'.cell? ⟨(ad2.add (j * 6)).block, (ad2.add (j * 6)).off + 4, none⟩ = some b4 ∧ w'.cell? ⟨(ad2.add (j * 6)).block, (ad2.add (j * 6)).off + 5, none⟩ = some b5) (go_keep)
              (first
                | (go_at_call 16;
                   with_reducible refine (P1 _ (by assumption)).out.mono ?_
                   rintro e w1 ⟨rfl, HK1⟩
                   have hc := HK1.out
                   have z0 := hc.cell (p := ⟨w.heap.size, 5, none⟩) (by have := (HB.out.size); have := HV.out.size; have := HSZ.out; show w.heap.size < wq.heap.size; omega)
                   have z1 := hc.cell (p := ⟨w.heap.size + 1, 5, none⟩) (by have := (HB.out.size); have := HV.out.size; have := HSZ.out; show w.heap.size + 1 < wq.heap.size; omega)
                   have y0 := hc.cell (p := ad1.add (j * 6)) (by rw [blk_add]; exact l1)
                   have y1 := fun o => hc.cell (p := ⟨(ad1.add (j * 6)).block, o, none⟩) (by show (ad1.add (j * 6)).block < _; rw [blk_add]; exact l1)
                   have x0 := hc.cell (p := ad2.add (j * 6)) (by rw [blk_add]; exact l2)
                   have x1 := fun o => hc.cell (p := ⟨(ad2.add (j * 6)).block, o, none⟩) (by show (ad2.add (j * 6)).block < _; rw [blk_add]; exact l2)
                   rw [k5] at z0
                   rw [j5] at z1
                   rw [q0] at y0
                   rw [p0] at x0
                   have y11 := (y1 _).trans q1
                   have y12 := (y1 _).trans q2
                   have y13 := (y1 _).trans q3
                   have y14 := (y1 _).trans q4
                   have y15 := (y1 _).trans q5
                   have x11 := (x1 _).trans p1
                   have x12 := (x1 _).trans p2
                   have x13 := (x1 _).trans p3
                   have x14 := (x1 _).trans p4
                   have x15 := (x1 _).trans p5
                   clear hc x1 y1))
            all_goals
              have HV2 := Lib.hid (later HV.out HK1.out)
              cases r with
              | false =>
                go_wp2_with fail
                go_ret
                have hne : ks ≠ ks' := by
                  intro e
                  have h1 := HT.out
                  rw [e, h1.2] at h1
                  exact of_not_same HRR.out.symm (Option.some.inj h1.1).symm
                exact ⟨ret_bool (HNO.out (.inr hne)).symm, later HB.out HV2.out⟩
              | true =>
                go_wp2_with fail
                go_roundw
                case rel =>
                  have h1 := HT.out
                  have h2 := of_same HRR.out.symm
                  subst h2
                  exact ⟨j + 1, by omega, by go_num, Lib.hid (take_step HQ2.out h1.1 h1.2), HV2⟩
                case measure => simp [intOf]; omega
          · have HE2 := Lib.hid (take_all HQ2.out (by rw [HM.out]; omega) (by rw [HM'.out]; omega))
            have HX := Lib.hid (show sameT (.node k f a s ns ks) (.node k f a s ns' ks') = true from same_yes (by rw [HE.out, HE2.out]))
            go_wp2_with fail
            go_ret
            exact ⟨ret_bool HX.out.symm, later HB.out HV.out⟩
end Go.Proofs.YthgojbaindejjaaGreatDoor.tr
