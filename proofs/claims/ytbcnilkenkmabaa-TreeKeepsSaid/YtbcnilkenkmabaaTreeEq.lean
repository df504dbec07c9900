/- Package tree: same, Same (with the library's Equal and EqualFunc). -/
import Derived.Test.YtbcnilkenkmabaaTreeMeasure
import Derived.Test.YtbcnilkenkmabaaTreeSame
import Derived.Test.YtbcnilkenkmabaaTreeDup
namespace Go.Proofs.Ytbcnilkenkmabaa.tr
open Go.ChangeShapes Go.WideShapes Go.ChangeAt Go.RowKit Go.Proofs.Ytbcnilkenkmabaa.mem Go.Proofs.Ytbcnilkenkmabaa.sq
set_option linter.unusedVariables false

noncomputable def sameL (ks ks' : List Tr) : Bool := @decide (ks = ks') (Classical.propDecidable _)
theorem sameL_yes {T U : List Tr} (h : T = U) : sameL T U = true := by unfold sameL; exact @decide_eq_true _ (Classical.propDecidable _) h
theorem sameL_no {T U : List Tr} (h : T ≠ U) : sameL T U = false := by unfold sameL; exact @decide_eq_false _ (Classical.propDecidable _) h
theorem of_sameL {T U : List Tr} (h : sameL T U = true) : T = U := by unfold sameL at h; exact @of_decide_eq_true _ (Classical.propDecidable _) h
theorem of_not_sameL {T U : List Tr} (h : sameL T U = false) : T ≠ U := by unfold sameL at h; exact @of_decide_eq_false _ (Classical.propDecidable _) h
theorem below_drewN' {B : Nat} {A C : World} (h : Below B A C) (q : Nat) : Below B A (C.drewN q) := ⟨h.os, h.tape, h.output, h.size, h.block⟩

set_option maxHeartbeats 2000000 in
theorem slicesEqual8 (A B : Option Addr) (n c m d : Nat) (xs ys : List Int) (w : World) (hn : n ≤ 17592186044416) (hm : m ≤ 17592186044416) (hx : Rd w A n xs) (hy : Rd w B m ys) :
    Calls Try.prog 51 #[.slice A n c, .slice B m d] w (Say w (decide (xs = ys))) := by
  have HX := Lib.hid hx; have HY := Lib.hid hy; clear hx hy
  by_cases hnm : n = m
  · subst hnm
    obtain ⟨r, hr⟩ : ∃ r, r = decide (xs = ys) := ⟨_, rfl⟩
    rw [← hr]
    have HR := Lib.hid hr; clear hr
    go_enter Try.func51, Try.ntmps51
    go_wp2_with fail
    go_loopw [13] (fun i wr => ∃ k q : Nat, k ≤ n ∧ i = .int .i64 k ∧ wr = w.drewN q ∧ Hid (xs.take k = ys.take k)) (fun i _ => n - (intOf i).toNat)
    case atStart => exact ⟨0, 0, Nat.zero_le _, rfl, rfl, Lib.hid rfl⟩
    case round =>
      obtain ⟨k, q, hk, rfl, rfl, Hs⟩ := hrel
      by_cases hlt : k < n
      · obtain ⟨ad1, x, rfl, hx, hc1⟩ := HX.out.at_ hlt
        obtain ⟨ad2, y, rfl, hy, hc2⟩ := HY.out.at_ hlt
        by_cases hxy : x = y
        · subst hxy
          have Hx := Lib.hid hx; have Hy := Lib.hid hy; clear hx hy
          go_wp2_with fail
          go_quiet (fail)
          go_wp2_with fail
          go_roundw
          case rel => exact ⟨k + 1, _, by omega, by go_num, rfl, Lib.hid (take_step Hs.out Hx.out Hy.out)⟩
          case measure => first | (simp [intOf]; done) | (simp [intOf]; omega)
        · have HE := Lib.hid (HR.out.trans (decide_eq_false (fun e => by rw [e, hy] at hx; injection hx with hx; exact hxy hx.symm)))
          have Hx := Lib.hid hx; have Hy := Lib.hid hy; clear hx hy
          go_wp2_with fail
          go_quiet (fail)
          go_wp2_with fail
          go_ret
          exact ⟨ret_bool HE.out.symm, by repeat (first | exact Below.refl _ _ | apply below_drewN')⟩
      · have HE := Lib.hid (HR.out.trans (decide_eq_true (take_all Hs.out (by rw [HX.out.1]; omega) (by rw [HY.out.1]; omega))))
        go_wp2_with fail
        go_ret
        exact ⟨ret_bool HE.out.symm, by repeat (first | exact Below.refl _ _ | apply below_drewN')⟩
  · have hr : decide (xs = ys) = false := decide_eq_false (fun e => hnm (by rw [← HX.out.1, ← HY.out.1, e]))
    rw [hr]
    clear hr
    have hnm' : ¬ (n : Int) = (m : Int) := by omega
    go_enter Try.func51, Try.ntmps51
    go_wp2_with fail
    go_ret
    exact ⟨rfl, Below.refl _ _⟩
set_option maxHeartbeats 4000000 in
theorem equalFunc_any (ks ks' : List Tr) (IH : ∀ T ∈ ks, ∀ (U : Tr) (u v : Value) (w : World), RdT w T u → RdT w U v → Calls Try.prog 34 #[u, v] w (Say w (sameT T U)))
    (B B' : Option Addr) (m m' d d' : Nat) (w : World) (hL : RdL w ks B 0) (hL' : RdL w ks' B' 0) (hm : ks.length = m) (hm' : ks'.length = m') (h1 : m ≤ 17592186044416) (h2 : m' ≤ 17592186044416) :
    Calls Try.prog 52 #[.slice B m d, .slice B' m' d', .func (.func 34) #[] #[]] w (Say w (sameL ks ks')) := by
  have HL := Lib.hid hL; have HL' := Lib.hid hL'; have HM := Lib.hid hm; have HM' := Lib.hid hm'; have HIH := Lib.hid IH
  clear hL hL' hm hm' IH
  by_cases hnm : m = m'
  · subst hnm
    obtain ⟨r, hr⟩ : ∃ r, r = sameL ks ks' := ⟨_, rfl⟩
    rw [← hr]
    have HR := Lib.hid hr; clear hr
    go_enter Try.func52, Try.ntmps52
    go_wp2_with fail
    go_loopw [17] (fun i wr => ∃ k : Nat, k ≤ m ∧ i = .int .i64 k ∧ Hid (Below w.heap.size w wr) ∧ Hid (ks.take k = ks'.take k)) (fun i _ => m - (intOf i).toNat)
    case atStart => exact ⟨0, Nat.zero_le _, rfl, Lib.hid (Below.refl _ _), Lib.hid rfl⟩
    case round =>
      obtain ⟨wo, rfl⟩ : ∃ wo : World, wo = wr := ⟨_, rfl⟩
      obtain ⟨k, hk, rfl, HB, Hs⟩ := hrel
      by_cases hlt : k < m
      · obtain ⟨T, hT⟩ : ∃ T, ks[k]? = some T := ⟨_, List.getElem?_eq_getElem (by rw [HM.out]; exact hlt)⟩
        obtain ⟨U, hU⟩ : ∃ U, ks'[k]? = some U := ⟨_, List.getElem?_eq_getElem (by rw [HM'.out]; exact hlt)⟩
        obtain ⟨ad, x0, x1, x2, x3, x4, x5, rfl, hl1, p0, p1, p2, p3, p4, p5, hRT⟩ := (HL.out.below HB.out).kid hT
        obtain ⟨ad', y0, y1, y2, y3, y4, y5, rfl, hl2, q0, q1, q2, q3, q4, q5, hRU⟩ := (HL'.out.below HB.out).kid hU
        have hT' := hT; have hU' := hU
        obtain ⟨tk, tf, ta, ts, tn, tks⟩ := T
        obtain ⟨uk, uf, ua, us, un, uks⟩ := U
        obtain ⟨Ta, Tn, Tc, Tb, Tm, Td, he, -⟩ := rdT_node.1 hRT
        simp only [Value.agg.injEq, Array.mk.injEq, List.cons.injEq, and_true] at he
        obtain ⟨rfl, rfl, rfl, rfl, rfl, rfl⟩ := he
        obtain ⟨Ua, Un, Uc, Ub, Um, Ud, he, -⟩ := rdT_node.1 hRU
        simp only [Value.agg.injEq, Array.mk.injEq, List.cons.injEq, and_true] at he
        obtain ⟨rfl, rfl, rfl, rfl, rfl, rfl⟩ := he
        have PS := fun V (h : Below wo.heap.size wo V) => Lib.hid (HIH.out _ (List.mem_of_getElem? hT) _ _ _ V (hRT.below h) (hRU.below h))
        have HT := Lib.hid hT; have HU := Lib.hid hU
        obtain ⟨w5, hw5⟩ : ∃ w5, w5 = wo.alloc (.cells #[.int .i64 tk, .int .i64 tf, .int .i64 ta, .string ts, .slice Ta Tn Tc, .slice Tb Tm Td] 25) := ⟨_, rfl⟩
        have hb5 : Below wo.heap.size wo w5 := by rw [hw5]; exact (Below.refl _ _).alloc (Nat.le_refl _) _
        have hx5 : Six w5 wo.heap.size (.int .i64 tk) (.int .i64 tf) (.int .i64 ta) (.string ts) (.slice Ta Tn Tc) (.slice Tb Tm Td) := by rw [hw5]; exact Six.new _ _ _ _ _ _ _
        obtain ⟨w6, hw6⟩ : ∃ w6, w6 = w5.alloc (.cells #[.int .i64 uk, .int .i64 uf, .int .i64 ua, .string us, .slice Ua Un Uc, .slice Ub Um Ud] 25) := ⟨_, rfl⟩
        have hb6 : Below w5.heap.size w5 w6 := by rw [hw6]; exact (Below.refl _ _).alloc (Nat.le_refl _) _
        have hx6 : Six w6 w5.heap.size (.int .i64 uk) (.int .i64 uf) (.int .i64 ua) (.string us) (.slice Ua Un Uc) (.slice Ub Um Ud) := by rw [hw6]; exact Six.new _ _ _ _ _ _ _
        have hb56 := hb5.trans (hb6.mono hb5.size)
        obtain ⟨a0, a1, a2, a3, a4, a5⟩ := (hx5.below hb6).six
        obtain ⟨e0, e1, e2, e3, e4, e5⟩ := hx6.six
        have hs5 : w5.heap.size = wo.heap.size + 1 := by rw [hw5]; simp
        have PA := PS w6 hb56
        have HB6 := Lib.hid (HB.out.trans (hb56.mono HB.out.size)); have HW6 := Lib.hid hw6; have HS5 := Lib.hid hs5
        have hc5 : ∀ p v, wo.cell? p = some v → w5.cell? p = some v := fun p v h => by rw [hw5]; exact cell_old h
        have g0 := hc5 _ _ q0
        have g1 := hc5 _ _ q1
        have g2 := hc5 _ _ q2
        have g3 := hc5 _ _ q3
        have g4 := hc5 _ _ q4
        have g5 := hc5 _ _ q5
        clear hT hU hT' hU' hRT hRU hl1 hl2 PS hb5 hx5 hb6 hx6 hb56 hs5 hc5 hw6
        go_upto_region 6 with fail
        rw [← hw5]
        clear hw5 p0 p1 p2 p3 p4 p5 q0 q1 q2 q3 q4 q5
        go_upto_region 7 with fail
        rw [← HW6.out]
        clear HW6 g0 g1 g2 g3 g4 g5
        rw [HS5.out] at e0 e1 e2 e3 e4 e5
        obtain ⟨b, hbb⟩ : ∃ b, b = sameT (.node tk tf ta ts tn tks) (.node uk uf ua us un uks) := ⟨_, rfl⟩
        rw [← hbb] at PA
        have HBB := Lib.hid hbb
        clear hbb
        first | rw [HS5.out] | skip
        go_wp2_with fail
        refine PA.out.mono ?_
        rintro e w7 ⟨rfl, hb7⟩
        have HB7 := Lib.hid (HB6.out.trans (hb7.mono HB6.out.size))
        clear hb7 a0 a1 a2 a3 a4 a5 e0 e1 e2 e3 e4 e5 PA HB6
        cases b
        · have HE := Lib.hid (HR.out.trans (sameL_no (fun e => by
            have h8 := HT.out
            rw [e, HU.out] at h8
            injection h8 with h8
            exact of_not_same HBB.out.symm h8.symm)))
          go_wp2_with fail
          go_ret
          exact ⟨ret_bool HE.out.symm, HB7.out⟩
        · have hTU := of_same HBB.out.symm
          have HTK := Lib.hid (take_step Hs.out HT.out (by rw [hTU]; exact HU.out))
          clear hTU
          go_wp2_with fail
          go_roundw
          case rel => exact ⟨k + 1, by omega, by go_num, HB7, HTK⟩
          case measure => first | (simp [intOf]; done) | (simp [intOf]; omega)
      · have HE := Lib.hid (HR.out.trans (sameL_yes (take_all Hs.out (by rw [HM.out]; omega) (by rw [HM'.out]; omega))))
        go_wp2_with fail
        go_ret
        exact ⟨ret_bool HE.out.symm, HB.out⟩
  · have hr : sameL ks ks' = false := sameL_no (fun e => hnm (by rw [← HM.out, ← HM'.out, e]))
    rw [hr]
    clear hr
    have hnm' : ¬ (m : Int) = (m' : Int) := by omega
    go_enter Try.func52, Try.ntmps52
    go_wp2_with fail
    go_ret
    exact ⟨rfl, Below.refl _ _⟩
end Go.Proofs.Ytbcnilkenkmabaa.tr
