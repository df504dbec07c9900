/- Package tree: same, Same: two trees are the same as data. -/
import Derived.Test.YtbcnilkenkmabaaTreeEq
namespace Go.Proofs.Ytbcnilkenkmabaa.tr
open Go.ChangeShapes Go.WideShapes Go.ChangeAt Go.RowKit Go.Proofs.Ytbcnilkenkmabaa.mem Go.Proofs.Ytbcnilkenkmabaa.sq
set_option linter.unusedVariables false

theorem int_eqf {x y : Int} (h : x ≠ y) : (x == y) = false := by simpa using h
set_option maxHeartbeats 4000000 in
set_option maxRecDepth 100000 in
theorem same_any (T : Tr) : ∀ (U : Tr) (u v : Value) (w : World), RdT w T u → RdT w U v → Calls Try.prog 34 #[u, v] w (Say w (sameT T U)) := by
  induction T using Tr.ind with
  | h k f a s ns ks ih =>
    intro U u v w hr hr'
    obtain ⟨k', f', a', s', ns', ks'⟩ := U
    obtain ⟨A, n, c, B, m, d, rfl, -, -, -, -, hns, hnc, hcm, -, -, hm, hmd, hd, -, hL⟩ := rdT_node.1 hr
    obtain ⟨A', n', c', B', m', d', rfl, -, -, -, -, hns', hnc', hcm', -, -, hm', hmd', hd', -, hL'⟩ := rdT_node.1 hr'
    obtain ⟨W, hW⟩ : ∃ W, W = (w.alloc (.cells #[.int .i64 k, .int .i64 f, .int .i64 a, .string s, .slice A n c, .slice B m d] 25)).alloc (.cells #[.int .i64 k', .int .i64 f', .int .i64 a', .string s', .slice A' n' c', .slice B' m' d'] 25) := ⟨_, rfl⟩
    obtain ⟨hb, hsz, KC⟩ := two_boxes6 hW
    have PN := Lib.hid (slicesEqual8 A A' n c n' c' ns ns' W hcm hcm' (hns.below hb) (hns'.below hb))
    have PK := fun V (h : Below W.heap.size W V) => Lib.hid (equalFunc_any ks ks' (fun T hT U u v w => ih T hT U u v w) B B' m m' d d' V ((hL.below hb).below h) ((hL'.below hb).below h) hm hm' hd hd')
    have HW := Lib.hid hW
    have HB := Lib.hid hb
    have HKC := Lib.hid KC
    clear hr hr' hL hL' hW hb KC ih hm hm' hns hns' hsz hnc hcm hnc' hcm' hmd hd hmd' hd'
    obtain ⟨⟨k0, k1, k2, k3, k4, k5⟩, j0, j1, j2, j3, j4, j5⟩ := HKC.out W (Below.refl _ _)
    by_cases h0 : k = k'
    case neg =>
      have hb := int_eqf h0
      have HX := Lib.hid (same_no (T := .node k f a s ns ks) (U := .node k' f' a' s' ns' ks') (by intro e; injection e with e1 e2 e3 e4 e5 e6; exact h0 e1))
      clear h0
      go_enter Try.func34, Try.ntmps34
      go_upto_region 1 with fail
      rw [← HW.out]
      go_wp2_with fail
      go_ret
      exact ⟨ret_bool HX.out.symm, HB.out⟩
    subst h0
    by_cases h1 : f = f'
    case neg =>
      have hb := int_eqf h1
      have HX := Lib.hid (same_no (T := .node k f a s ns ks) (U := .node k f' a' s' ns' ks') (by intro e; injection e with e1 e2 e3 e4 e5 e6; exact h1 e2))
      clear h1
      go_enter Try.func34, Try.ntmps34
      go_upto_region 1 with fail
      rw [← HW.out]
      go_wp2_with fail
      go_ret
      exact ⟨ret_bool HX.out.symm, HB.out⟩
    subst h1
    by_cases h2 : a = a'
    case neg =>
      have hb := int_eqf h2
      have HX := Lib.hid (same_no (T := .node k f a s ns ks) (U := .node k f a' s' ns' ks') (by intro e; injection e with e1 e2 e3 e4 e5 e6; exact h2 e3))
      clear h2
      go_enter Try.func34, Try.ntmps34
      go_upto_region 1 with fail
      rw [← HW.out]
      go_wp2_with fail
      go_ret
      exact ⟨ret_bool HX.out.symm, HB.out⟩
    subst h2
    by_cases h3 : s = s'
    case neg =>
      have hb := (str_ne h3).2
      have HX := Lib.hid (same_no (T := .node k f a s ns ks) (U := .node k f a s' ns' ks') (by intro e; injection e with e1 e2 e3 e4 e5 e6; exact h3 e4))
      clear h3
      go_enter Try.func34, Try.ntmps34
      go_upto_region 1 with fail
      rw [← HW.out]
      go_wp2_with fail
      go_ret
      exact ⟨ret_bool HX.out.symm, HB.out⟩
    subst h3
    obtain ⟨b1, hb1⟩ : ∃ b, b = decide (ns = ns') := ⟨_, rfl⟩
    rw [← hb1] at PN
    obtain ⟨b2, hb2⟩ : ∃ b, b = sameL ks ks' := ⟨_, rfl⟩
    rw [← hb2] at PK
    have HB1 := Lib.hid hb1; have HB2 := Lib.hid hb2
    clear hb1 hb2
    have hst : (s.toList == s.toList) = true := by simp
    cases b1
    · have HX := Lib.hid (same_no (T := .node k f a s ns ks) (U := .node k f a s ns' ks') (by intro e; injection e with e1 e2 e3 e4 e5 e6; have := HB1.out; simp [e5] at this))
      clear PK HB1 HB2
      go_enter Try.func34, Try.ntmps34
      go_upto_region 1 with fail
      rw [← HW.out]
      go_wp2_with fail
      refine PN.out.mono ?_
      rintro e w1 ⟨rfl, h1⟩
      have H1 := Lib.hid (HB.out.trans (h1.mono HB.out.size))
      clear h1 PN
      go_wp2_with fail
      go_ret
      exact ⟨ret_bool HX.out.symm, H1.out⟩
    · have HX := Lib.hid (show b2 = sameT (.node k f a s ns ks) (.node k f a s ns' ks') from by
        have e5 : ns = ns' := by have := HB1.out; simpa using this
        cases b2
        · exact (same_no (by intro e; injection e with e1 e2 e3 e4 e5 e6; exact of_not_sameL HB2.out.symm e6)).symm
        · exact (same_yes (by rw [e5, of_sameL HB2.out.symm])).symm)
      clear HB1 HB2
      go_enter Try.func34, Try.ntmps34
      go_upto_region 1 with fail
      rw [← HW.out]
      go_wp2_with fail
      refine PN.out.mono ?_
      rintro e w1 ⟨rfl, h1⟩
      have H1 := Lib.hid h1
      have PA := PK w1 h1
      obtain ⟨⟨x0, x1, x2, x3, x4, x5⟩, y0, y1, y2, y3, y4, y5⟩ := HKC.out w1 h1
      clear h1 PN PK k0 k1 k2 k3 k4 k5 j0 j1 j2 j3 j4 j5
      go_wp2_with fail
      refine PA.out.mono ?_
      rintro e w2 ⟨rfl, h2⟩
      have H2 := Lib.hid ((HB.out.trans (H1.out.mono HB.out.size)).trans (h2.mono (HB.out.trans (H1.out.mono HB.out.size)).size))
      clear h2 PA x0 x1 x2 x3 x4 x5 y0 y1 y2 y3 y4 y5
      go_wp2_with fail
      go_ret
      exact ⟨ret_bool HX.out, H2.out⟩
set_option maxHeartbeats 4000000 in
theorem Same_any (T U : Tr) (u v : Value) (w : World) (hT : RdT w T u) (hU : RdT w U v) (hd : deepT T ≤ 999) (hz : sizeT T ≤ 1000000) : Calls Try.prog 16 #[u, v] w (Say w (sameT T U)) := by
  obtain ⟨k, f, a, s, ns, ks⟩ := T
  obtain ⟨k', f', a', s', ns', ks'⟩ := U
  obtain ⟨A, n, c, B, m, d, rfl, -⟩ := rdT_node.1 hT
  obtain ⟨A', n', c', B', m', d', rfl, -⟩ := rdT_node.1 hU
  obtain ⟨W, hW⟩ : ∃ W, W = (w.alloc (.cells #[.int .i64 k, .int .i64 f, .int .i64 a, .string s, .slice A n c, .slice B m d] 25)).alloc (.cells #[.int .i64 k', .int .i64 f', .int .i64 a', .string s', .slice A' n' c', .slice B' m' d'] 25) := ⟨_, rfl⟩
  obtain ⟨hb, hsz, KC⟩ := two_boxes6 hW
  have P1 := Lib.hid (within_any _ _ W (hT.below hb) hd hz)
  have P2 := fun V (h : Below W.heap.size W V) => Lib.hid (same_any _ _ _ _ V ((hT.below hb).below h) ((hU.below hb).below h))
  have HW := Lib.hid hW; have HB := Lib.hid hb; have HKC := Lib.hid KC
  obtain ⟨⟨k0, k1, k2, k3, k4, k5⟩, j0, j1, j2, j3, j4, j5⟩ := KC W (Below.refl _ _)
  clear hT hU hd hz hW hb KC hsz
  obtain ⟨r, hr⟩ : ∃ r, r = sameT (.node k f a s ns ks) (.node k' f' a' s' ns' ks') := ⟨_, rfl⟩
  rw [← hr] at P2 ⊢
  clear hr
  go_enter Try.func16, Try.ntmps16
  go_upto_region 1 with fail
  rw [← HW.out]
  go_wp2_with fail
  refine P1.out.mono ?_
  rintro e w1 ⟨rfl, h1⟩
  have H1 := Lib.hid h1
  have PA := P2 w1 h1
  obtain ⟨⟨x0, x1, x2, x3, x4, x5⟩, y0, y1, y2, y3, y4, y5⟩ := HKC.out w1 h1
  clear h1 P1 P2 k0 k1 k2 k3 k4 k5 j0 j1 j2 j3 j4 j5
  go_wp2_with fail
  refine PA.out.mono ?_
  rintro e w2 ⟨rfl, h2⟩
  have H2 := Lib.hid ((HB.out.trans (H1.out.mono HB.out.size)).trans (h2.mono (HB.out.trans (H1.out.mono HB.out.size)).size))
  clear h2 PA x0 x1 x2 x3 x4 x5 y0 y1 y2 y3 y4 y5
  go_wp2_with fail
  go_ret
  exact ⟨rfl, H2.out⟩
end Go.Proofs.Ytbcnilkenkmabaa.tr
