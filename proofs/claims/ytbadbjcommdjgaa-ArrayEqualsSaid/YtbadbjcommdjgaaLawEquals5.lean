/- The law ArrayEquals. -/
import Derived.Test.YtbadbjcommdjgaaLawCells5
namespace Go.Proofs.Ytbadbjcommdjgaa.laws
open Go.ChangeShapes Go.WideShapes Go.ChangeAt Go.RowKit Go.Proofs.Ytbadbjcommdjgaa.mem Go.Proofs.Ytbadbjcommdjgaa.shp Go.Proofs.Ytbadbjcommdjgaa.eql Go.Proofs.Ytbadbjcommdjgaa.gam Go.Proofs.Ytbadbjcommdjgaa.arr
set_option linter.unusedVariables false

theorem equals_few (A B A' B' L : Option Addr) (n c m k n' c' m' k' l e : Nat) (s d s' d' : List Int) (w : World) (hn : n ≤ maxLen) (hm : m ≤ maxLen) (hn' : n' ≤ maxLen) (hm' : m' ≤ maxLen) (hl : l ≤ maxLen) (h : RdA w A n B m s d) (h' : RdA w A' n' B' m' s' d')
    (hf : fewA n m 1000 = false ∨ (fewA n m 1000 = true ∧ fewA n' m' 1000 = false) ∨ (fewA n m 1000 = true ∧ fewA n' m' 1000 = true ∧ 1000 < l)) :
    Calls Try.prog 5 #[.agg #[.slice A n c, .slice B m k], .agg #[.slice A' n' c', .slice B' m' k'], .slice L l e] w (Holds w) := by
  have P1 := fun W => refFewA_any A B n c m k 1000 W hn hm
  have P2 := fun W => refFewA_any A' B' n' c' m' k' 1000 W hn' hm'
  have HW := Lib.hid (below_more (one_below w #[.slice A n c, .slice B m k] 25) (.cells #[.slice A' n' c', .slice B' m' k'] 25))
  obtain ⟨W, hW⟩ : ∃ W, W = (w.alloc (.cells #[.slice A n c, .slice B m k] 25)).alloc (.cells #[.slice A' n' c', .slice B' m' k'] 25) := ⟨_, rfl⟩
  obtain ⟨hb, hsz, KC⟩ := two_boxes hW
  have HB := Lib.hid hb
  have HWW := Lib.hid hW
  have HKC := Lib.hid KC
  clear h h' hb hsz KC hW HW
  unfold maxLen at hl
  rcases hf with hf | ⟨hf, hf'⟩ | ⟨hf, hf', h1000⟩
  · rw [hf] at P1
    have P1 := fun W => Lib.hid (P1 W)
    rename_i q1; clear q1 hf P2
    go_enter Try.func5, Try.ntmps5
    go_wp2_with fail
    rw [← HWW.out]
    refine (awake_true _).mono ?_
    rintro e w1 ⟨rfl, hb⟩
    have B1 := Lib.hid hb
    obtain ⟨k1, k2, k3, k4, _, _, _, _⟩ := HKC.out _ B1.out
    clear hb
    go_wp2_with fail
    refine (P1 _).out.mono ?_
    rintro e w2 ⟨rfl, hb⟩
    have B2 := Lib.hid (below_step B1.out hb)
    clear hb B1 k1 k2 k3 k4
    go_wp2_with fail
    refine (awake_true _).mono ?_
    rintro e w3 ⟨rfl, hb⟩
    have B3 := Lib.hid (below_step B2.out hb)
    clear hb B2
    go_wp2_with fail
    go_ret
    exact ⟨rfl, HB.out.trans (B3.out.mono HB.out.size)⟩
  all_goals
    rw [hf] at P1
    rw [hf'] at P2
    have P1 := fun W => Lib.hid (P1 W)
    have P2 := fun W => Lib.hid (P2 W)
    rename_i q1 q2; clear q1 q2 hf hf'
    go_enter Try.func5, Try.ntmps5
    go_wp2_with fail
    rw [← HWW.out]
    refine (awake_true _).mono ?_
    rintro e w1 ⟨rfl, hb⟩
    have B1 := Lib.hid hb
    obtain ⟨k1, k2, k3, k4, _, _, _, _⟩ := HKC.out _ B1.out
    clear hb
    go_wp2_with fail
    refine (P1 _).out.mono ?_
    rintro e w2 ⟨rfl, hb⟩
    have B2 := Lib.hid (below_step B1.out hb)
    clear k1 k2 k3 k4
    obtain ⟨k1, k2, k3, k4, _, _, _, _⟩ := HKC.out _ B2.out
    clear hb B1
    go_wp2_with fail
    refine (P2 _).out.mono ?_
    rintro e w3 ⟨rfl, hb⟩
    have B3 := Lib.hid (below_step B2.out hb)
    clear hb B2 k1 k2 k3 k4
    go_wp2_with fail
    refine (awake_true _).mono ?_
    rintro e w4 ⟨rfl, hb⟩
    have B4 := Lib.hid (below_step B3.out hb)
    clear hb B3
    go_wp2_with fail
    go_ret
    exact ⟨rfl, HB.out.trans (B4.out.mono HB.out.size)⟩

set_option maxHeartbeats 8000000 in
set_option maxRecDepth 100000 in
theorem equals_some (A B A' B' L : Option Addr) (n c m k n' c' m' k' l e : Nat) (s d s' d' xs : List Int) (w : World) (hn : n ≤ 1099511627776) (hm : m ≤ 1099511627776) (hn' : n' ≤ 1099511627776) (hm' : m' ≤ 1099511627776) (hl : l ≤ 1000) (h0l : 0 < l) (hle : l ≤ e) (he : e ≤ maxLen) (h : RdA w A n B m s d) (h' : RdA w A' n' B' m' s' d') (hx : Rd w L l xs)
    (hf : fewA n m 1000 = true) (hf' : fewA n' m' 1000 = true) (r : Bool) (hr : eqA s d s' d' = r) :
    Calls Try.prog 5 #[.agg #[.slice A n c, .slice B m k], .agg #[.slice A' n' c', .slice B' m' k'], .slice L l e] w (Holds w) := by
  have g1 : n ≤ maxLen := by unfold maxLen; omega
  have g2 : m ≤ maxLen := by unfold maxLen; omega
  have g3 : n' ≤ maxLen := by unfold maxLen; omega
  have g4 : m' ≤ maxLen := by unfold maxLen; omega
  have g5 : l ≤ maxLen := by unfold maxLen; omega
  have P1 := fun W => refFewA_any A B n c m k 1000 W g1 g2
  have P2 := fun W => refFewA_any A' B' n' c' m' k' 1000 W g3 g4
  rw [hf] at P1
  rw [hf'] at P2
  have P1 := fun W => Lib.hid (P1 W)
  have P2 := fun W => Lib.hid (P2 W)
  have P3 := fun W h => Lib.hid (vector_any L l e xs W (by omega) h)
  have P4 := fun W h h' => Lib.hid (arrEqual_at (A := A) (B := B) (A' := A') (B' := B') (n := n) (c := c) (m := m) (k := k) (n' := n') (c' := c') (m' := m') (k' := k') (w := W) r hr g1 g2 g3 g4 h h')
  have P5 := fun W h h' => Lib.hid (refArrEqual_at (A := A) (B := B) (A' := A') (B' := B') (n := n) (c := c) (m := m) (k := k) (n' := n') (c' := c') (m' := m') (k' := k') (w := W) r hr g1 g2 g3 g4 h h')
  have P6 := fun W h => Lib.hid (refCopyA_any A B n c m k s d W hn hm h)
  have P7 := fun A2 B2 c2 k2 W h h' => Lib.hid (arrEqual_at (A := A) (B := B) (A' := A2) (B' := B2) (n := n) (c := c) (m := m) (k := k) (n' := n) (c' := c2) (m' := m) (k' := k2) (s := s) (d := d) (s' := s) (d' := d) (w := W) true eqA_of g1 g2 g1 g2 h h')
  have P8 := fun A1 B1 c1 k1 A2 c2 W h h' => Lib.hid (refArrEqual_at (A := A1) (B := B1) (A' := A2) (B' := L) (n := 1) (c := c1) (m := l) (k := k1) (n' := 1) (c' := c2) (m' := l) (k' := e) (s := [(l : Int)]) (d := xs) (s' := [(l : Int)]) (d' := xs) (w := W) true eqA_of (by decide) g5 (by decide) g5 h h')
  obtain ⟨W0, hW⟩ : ∃ W, W = (w.alloc (.cells #[.slice A n c, .slice B m k] 25)).alloc (.cells #[.slice A' n' c', .slice B' m' k'] 25) := ⟨_, rfl⟩
  obtain ⟨hb, hsz, KC⟩ := two_boxes hW
  have HB := Lib.hid hb
  have HWW := Lib.hid hW
  have HKC0 := Lib.hid KC
  have HA0 := Lib.hid (h.below hb)
  have HA0' := Lib.hid (h'.below hb)
  have HX0 := Lib.hid (hx.below hb)
  have HSZ := Lib.hid (show w.heap.size + 1 < W0.heap.size by omega)
  rename_i q1 q2; clear q1 q2 h h' hb hsz KC hW hx hr hf hf' g1 g2 g3 g4 g5
  unfold maxLen at he
  go_enter Try.func5, Try.ntmps5
  go_wp2_with fail
  rw [← HWW.out]
  refine (awake_true _).mono ?_
  rintro e w1 ⟨rfl, hb⟩
  have B1 := Lib.hid hb
  obtain ⟨k1, k2, k3, k4, _, _, _, _⟩ := HKC0.out _ B1.out
  clear hb
  go_wp2_with fail
  refine (P1 _).out.mono ?_
  rintro e w2 ⟨rfl, hb⟩
  have B2 := Lib.hid (below_step B1.out hb)
  clear k1 k2 k3 k4
  obtain ⟨k1, k2, k3, k4, _, _, _, _⟩ := HKC0.out _ B2.out
  clear hb B1
  go_wp2_with fail
  refine (P2 _).out.mono ?_
  rintro e w3 ⟨rfl, hb⟩
  have B3 := Lib.hid (below_step B2.out hb)
  clear hb B2 k1 k2 k3 k4
  go_wp2_with fail
  refine (P3 _ (HX0.out.below B3.out)).out.mono ?_
  rintro e w4 ⟨PV, cv, QV, dv, rfl, h1, h2, hb⟩
  obtain ⟨W, hW⟩ : ∃ W, W = w4.alloc (.cells #[.slice PV 1 cv, .slice QV l dv] 25) := ⟨_, rfl⟩
  have hbW : Below w4.heap.size w4 W := by rw [hW]; exact one_below _ _ _
  have B4 := Lib.hid (below_step (below_step B3.out hb) hbW)
  have HAW := Lib.hid (HA0.out.below B4.out)
  have HAW' := Lib.hid (HA0'.out.below B4.out)
  have HXW := Lib.hid (HX0.out.below B4.out)
  have HVW := Lib.hid ((MakesA.rda h1 h2).below hbW)
  have HBV := Lib.hid (show Box2 W w4.heap.size (.slice PV 1 cv) (.slice QV l dv) by rw [hW]; exact box2_new _ _ _ _)
  have HWA := Lib.hid (HB.out.trans (B4.out.mono HB.out.size))
  have HW := Lib.hid hW
  clear h1 h2 hb hbW hW B3 HA0 HA0' HX0
  have HD := Lib.hid (Below.refl W.heap.size W)
  obtain ⟨ad, x, rfl, hx0, hcx⟩ := HXW.out.at_ (k := 0) h0l
  have HX1 := Lib.hid (show xs.take 1 = [x] by
    cases xs with
    | nil => simp at hx0
    | cons y ys => simp at hx0; subst hx0; rfl)
  have HCX := Lib.hid (show ∀ V, Below W.heap.size W V → V.cell? ad = some (.int .i64 x) from fun V h => by
    have h2 := ((HXW.out.below h).cell_ hx0)
    simpa [Addr.add] using h2)
  have h0i : (0 : Int) < (l : Int) := by omega
  have hz : ((l : Int) == 0) = false := by simp; omega
  have h1i : (1 : Int) ≤ (e : Int) := by omega
  have h1j : (1 : Int) ≤ (l : Int) := by omega
  clear hx0 hcx
  have KC : ∀ V, Below W.heap.size W V → V.cell? ⟨w.heap.size, 0, none⟩ = some (.slice A n c) ∧ V.cell? ⟨w.heap.size, 1, none⟩ = some (.slice B m k) ∧ V.cell? ⟨w.heap.size + 1, 0, none⟩ = some (.slice A' n' c') ∧ V.cell? ⟨w.heap.size + 1, 1, none⟩ = some (.slice B' m' k') ∧ V.cell? ⟨w4.heap.size, 0, none⟩ = some (.slice PV 1 cv) ∧ V.cell? ⟨w4.heap.size, 1, none⟩ = some (.slice QV l dv) ∧ V.cell? ad = some (.int .i64 x) := fun V h => by
    have h2 := B4.out.trans (h.mono B4.out.size)
    obtain ⟨a1, a2, a3, a4, _, _, _, _⟩ := HKC0.out V h2
    exact ⟨a1, a2, a3, a4, (HBV.out.below h).1, (HBV.out.below h).2.1, HCX.out V h⟩
  have HKC := Lib.hid KC
  obtain ⟨k1, k2, k3, k4, k5, k6, k7⟩ := KC W (Below.refl _ _)
  clear KC
  go_wp2_with fail
  rw [← HW.out]
  go_region_held3 (fun w' => w'.cell? ⟨w.heap.size, 0, none⟩ = some (.slice A n c) ∧ w'.cell? ⟨w.heap.size, 1, none⟩ = some (.slice B m k) ∧ w'.cell? ⟨w.heap.size + 1, 0, none⟩ = some (.slice A' n' c') ∧ w'.cell? ⟨w.heap.size + 1, 1, none⟩ = some (.slice B' m' k') ∧ w'.cell? ⟨w4.heap.size, 0, none⟩ = some (.slice PV 1 cv) ∧ w'.cell? ⟨w4.heap.size, 1, none⟩ = some (.slice QV l dv) ∧ w'.cell? ad = some (.int .i64 x)) (go_keep)
    (first
      | (go_at_call 17; with_reducible refine (P4 _ (HAW.out.below (by repeat (first | exact HD.out | exact HK7.out | exact HK6.out | exact HK5.out | exact HK4.out | exact HK3.out | exact HK2.out | exact HK1.out | refine below_more ?_ _ | refine Below.drew ?_))) (HAW'.out.below (by repeat (first | exact HD.out | exact HK7.out | exact HK6.out | exact HK5.out | exact HK4.out | exact HK3.out | exact HK2.out | exact HK1.out | refine below_more ?_ _ | refine Below.drew ?_)))).out.mono ?_
         rintro e v1 ⟨rfl, h3⟩
         have HK1 := Lib.hid (below_step (W := W) (by repeat (first | exact HD.out | exact HK7.out | exact HK6.out | exact HK5.out | exact HK4.out | exact HK3.out | exact HK2.out | exact HK1.out | refine below_more ?_ _ | refine Below.drew ?_)) h3)
         obtain ⟨r11, r12, r13, r14, r15, r16, r17⟩ := HKC.out _ HK1.out
         clear h3)
      | (go_at_call 13; with_reducible refine (P5 _ (HAW.out.below (by repeat (first | exact HD.out | exact HK7.out | exact HK6.out | exact HK5.out | exact HK4.out | exact HK3.out | exact HK2.out | exact HK1.out | refine below_more ?_ _ | refine Below.drew ?_))) (HAW'.out.below (by repeat (first | exact HD.out | exact HK7.out | exact HK6.out | exact HK5.out | exact HK4.out | exact HK3.out | exact HK2.out | exact HK1.out | refine below_more ?_ _ | refine Below.drew ?_)))).out.mono ?_
         rintro e v2 ⟨rfl, h3⟩
         have HK2 := Lib.hid (below_step (W := W) (by repeat (first | exact HD.out | exact HK7.out | exact HK6.out | exact HK5.out | exact HK4.out | exact HK3.out | exact HK2.out | exact HK1.out | refine below_more ?_ _ | refine Below.drew ?_)) h3)
         obtain ⟨r21, r22, r23, r24, r25, r26, r27⟩ := HKC.out _ HK2.out
         clear h3)
      | (go_at_call 18; refine (P6 _ (HAW.out.below (by repeat (first | exact HD.out | exact HK7.out | exact HK6.out | exact HK5.out | exact HK4.out | exact HK3.out | exact HK2.out | exact HK1.out | refine below_more ?_ _ | refine Below.drew ?_)))).out.mono ?_
         rintro e v3 ⟨PC, cc, QC, dc, rfl, h1, h2, h3⟩
         have HV3 := Lib.hid (RdA.mk h1.rd h2.rd)
         clear h1 h2
         have HK3 := Lib.hid (below_step (W := W) (by repeat (first | exact HD.out | exact HK7.out | exact HK6.out | exact HK5.out | exact HK4.out | exact HK3.out | exact HK2.out | exact HK1.out | refine below_more ?_ _ | refine Below.drew ?_)) h3)
         obtain ⟨r31, r32, r33, r34, r35, r36, r37⟩ := HKC.out _ HK3.out
         clear h3)
      | (go_at_call 17; with_reducible refine (P7 _ _ _ _ _ (HAW.out.below (by repeat (first | exact HD.out | exact HK7.out | exact HK6.out | exact HK5.out | exact HK4.out | exact HK3.out | exact HK2.out | exact HK1.out | refine below_more ?_ _ | refine Below.drew ?_))) HV3.out).out.mono ?_
         rintro e v4 ⟨rfl, h3⟩
         have HK4 := Lib.hid (below_step (W := W) (by repeat (first | exact HD.out | exact HK7.out | exact HK6.out | exact HK5.out | exact HK4.out | exact HK3.out | exact HK2.out | exact HK1.out | refine below_more ?_ _ | refine Below.drew ?_)) h3)
         obtain ⟨r41, r42, r43, r44, r45, r46, r47⟩ := HKC.out _ HK4.out
         clear h3)
      | (go_at_call 13
         (have HLL := Lib.hid (show Rd (v4.alloc (.cells #[.int .i64 (l : Int)] 3)) (some ⟨v4.heap.size, 0, none⟩) 1 [(l : Int)] from rd_new v4 _ [(l : Int)]))
         (have HLD := Lib.hid (HXW.out.below (below_more HK4.out (.cells #[.int .i64 (l : Int)] 3))))
         (have HVV := Lib.hid (HVW.out.below (below_more HK4.out (.cells #[.int .i64 (l : Int)] 3))))
         (with_reducible refine (P8 _ _ _ _ _ _ _ HVV.out (RdA.mk HLL.out HLD.out)).out.mono ?_)
         rintro e v5 ⟨rfl, h3⟩
         have HK5 := Lib.hid (below_step (W := W) (by repeat (first | exact HD.out | exact HK7.out | exact HK6.out | exact HK5.out | exact HK4.out | exact HK3.out | exact HK2.out | exact HK1.out | refine below_more ?_ _ | refine Below.drew ?_)) h3)
         obtain ⟨r51, r52, r53, r54, r55, r56, r57⟩ := HKC.out _ HK5.out
         clear h3)
      | (go_at_call 19; refine (scalar_any x _).mono ?_
         rintro e v6 ⟨PS, cs, QS, ds, rfl, h1, h2, h3⟩
         have HV6 := Lib.hid (MakesA.rda h1 h2)
         clear h1 h2
         have HK6 := Lib.hid (below_step (W := W) (by repeat (first | exact HD.out | exact HK7.out | exact HK6.out | exact HK5.out | exact HK4.out | exact HK3.out | exact HK2.out | exact HK1.out | refine below_more ?_ _ | refine Below.drew ?_)) h3)
         obtain ⟨r61, r62, r63, r64, r65, r66, r67⟩ := HKC.out _ HK6.out
         clear h3)
      | (go_at_call 13
         (have HLX := Lib.hid (Rd.take (HXW.out.below HK6.out) h0l))
         (rw [HX1.out] at HLX)
         (with_reducible refine (refArrEqual_at (s' := []) (d' := [x]) true eqA_of (by decide) (by decide) (by decide) (by decide) HV6.out (RdA.mk Rd.nil_ HLX.out)).mono ?_)
         rintro e v7 ⟨rfl, h3⟩
         have HK7 := Lib.hid (below_step (W := W) (by repeat (first | exact HD.out | exact HK7.out | exact HK6.out | exact HK5.out | exact HK4.out | exact HK3.out | exact HK2.out | exact HK1.out | refine below_more ?_ _ | refine Below.drew ?_)) h3)
         obtain ⟨r71, r72, r73, r74, r75, r76, r77⟩ := HKC.out _ HK7.out
         clear h3))
  all_goals
    go_wp2_with fail
    go_ret
    exact ⟨ret_bool (by simp), HWA.out.trans (HK7.out.mono HWA.out.size)⟩

set_option maxHeartbeats 8000000 in
set_option maxRecDepth 100000 in
theorem equals_nil (A B A' B' L : Option Addr) (n c m k n' c' m' k' e : Nat) (s d s' d' xs : List Int) (w : World) (hn : n ≤ 1099511627776) (hm : m ≤ 1099511627776) (hn' : n' ≤ 1099511627776) (hm' : m' ≤ 1099511627776) (he : e ≤ maxLen) (h : RdA w A n B m s d) (h' : RdA w A' n' B' m' s' d') (hx : Rd w L 0 xs)
    (hf : fewA n m 1000 = true) (hf' : fewA n' m' 1000 = true) (r : Bool) (hr : eqA s d s' d' = r) :
    Calls Try.prog 5 #[.agg #[.slice A n c, .slice B m k], .agg #[.slice A' n' c', .slice B' m' k'], .slice L 0 e] w (Holds w) := by
  have g1 : n ≤ maxLen := by unfold maxLen; omega
  have g2 : m ≤ maxLen := by unfold maxLen; omega
  have g3 : n' ≤ maxLen := by unfold maxLen; omega
  have g4 : m' ≤ maxLen := by unfold maxLen; omega
  have g5 : 0 ≤ maxLen := Nat.zero_le _
  have P1 := fun W => refFewA_any A B n c m k 1000 W g1 g2
  have P2 := fun W => refFewA_any A' B' n' c' m' k' 1000 W g3 g4
  rw [hf] at P1
  rw [hf'] at P2
  have P1 := fun W => Lib.hid (P1 W)
  have P2 := fun W => Lib.hid (P2 W)
  have P3 := fun W h => Lib.hid (vector_any L 0 e xs W (by omega) h)
  have P4 := fun W h h' => Lib.hid (arrEqual_at (A := A) (B := B) (A' := A') (B' := B') (n := n) (c := c) (m := m) (k := k) (n' := n') (c' := c') (m' := m') (k' := k') (w := W) r hr g1 g2 g3 g4 h h')
  have P5 := fun W h h' => Lib.hid (refArrEqual_at (A := A) (B := B) (A' := A') (B' := B') (n := n) (c := c) (m := m) (k := k) (n' := n') (c' := c') (m' := m') (k' := k') (w := W) r hr g1 g2 g3 g4 h h')
  have P6 := fun W h => Lib.hid (refCopyA_any A B n c m k s d W hn hm h)
  have P7 := fun A2 B2 c2 k2 W h h' => Lib.hid (arrEqual_at (A := A) (B := B) (A' := A2) (B' := B2) (n := n) (c := c) (m := m) (k := k) (n' := n) (c' := c2) (m' := m) (k' := k2) (s := s) (d := d) (s' := s) (d' := d) (w := W) true eqA_of g1 g2 g1 g2 h h')
  have P8 := fun A1 B1 c1 k1 A2 c2 W h h' => Lib.hid (refArrEqual_at (A := A1) (B := B1) (A' := A2) (B' := L) (n := 1) (c := c1) (m := 0) (k := k1) (n' := 1) (c' := c2) (m' := 0) (k' := e) (s := [(0 : Int)]) (d := xs) (s' := [(0 : Int)]) (d' := xs) (w := W) true eqA_of (by decide) g5 (by decide) g5 h h')
  obtain ⟨W0, hW⟩ : ∃ W, W = (w.alloc (.cells #[.slice A n c, .slice B m k] 25)).alloc (.cells #[.slice A' n' c', .slice B' m' k'] 25) := ⟨_, rfl⟩
  obtain ⟨hb, hsz, KC⟩ := two_boxes hW
  have HB := Lib.hid hb
  have HWW := Lib.hid hW
  have HKC0 := Lib.hid KC
  have HA0 := Lib.hid (h.below hb)
  have HA0' := Lib.hid (h'.below hb)
  have HX0 := Lib.hid (hx.below hb)
  have HSZ := Lib.hid (show w.heap.size + 1 < W0.heap.size by omega)
  rename_i q1 q2; clear q1 q2 h h' hb hsz KC hW hx hr hf hf' g1 g2 g3 g4 g5
  unfold maxLen at he
  go_enter Try.func5, Try.ntmps5
  go_wp2_with fail
  rw [← HWW.out]
  refine (awake_true _).mono ?_
  rintro e w1 ⟨rfl, hb⟩
  have B1 := Lib.hid hb
  obtain ⟨k1, k2, k3, k4, _, _, _, _⟩ := HKC0.out _ B1.out
  clear hb
  go_wp2_with fail
  refine (P1 _).out.mono ?_
  rintro e w2 ⟨rfl, hb⟩
  have B2 := Lib.hid (below_step B1.out hb)
  clear k1 k2 k3 k4
  obtain ⟨k1, k2, k3, k4, _, _, _, _⟩ := HKC0.out _ B2.out
  clear hb B1
  go_wp2_with fail
  refine (P2 _).out.mono ?_
  rintro e w3 ⟨rfl, hb⟩
  have B3 := Lib.hid (below_step B2.out hb)
  clear hb B2 k1 k2 k3 k4
  go_wp2_with fail
  refine (P3 _ (HX0.out.below B3.out)).out.mono ?_
  rintro e w4 ⟨PV, cv, QV, dv, rfl, h1, h2, hb⟩
  obtain ⟨W, hW⟩ : ∃ W, W = w4.alloc (.cells #[.slice PV 1 cv, .slice QV 0 dv] 25) := ⟨_, rfl⟩
  have hbW : Below w4.heap.size w4 W := by rw [hW]; exact one_below _ _ _
  have B4 := Lib.hid (below_step (below_step B3.out hb) hbW)
  have HAW := Lib.hid (HA0.out.below B4.out)
  have HAW' := Lib.hid (HA0'.out.below B4.out)
  have HXW := Lib.hid (HX0.out.below B4.out)
  have HVW := Lib.hid (show RdA W PV 1 QV 0 [0] xs from (MakesA.rda h1 h2).below hbW)
  have HBV := Lib.hid (show Box2 W w4.heap.size (.slice PV 1 cv) (.slice QV 0 dv) by rw [hW]; exact box2_new _ _ _ _)
  have HWA := Lib.hid (HB.out.trans (B4.out.mono HB.out.size))
  have HW := Lib.hid hW
  clear h1 h2 hb hbW hW B3 HA0 HA0' HX0
  have HD := Lib.hid (Below.refl W.heap.size W)
  have KC : ∀ V, Below W.heap.size W V → V.cell? ⟨w.heap.size, 0, none⟩ = some (.slice A n c) ∧ V.cell? ⟨w.heap.size, 1, none⟩ = some (.slice B m k) ∧ V.cell? ⟨w.heap.size + 1, 0, none⟩ = some (.slice A' n' c') ∧ V.cell? ⟨w.heap.size + 1, 1, none⟩ = some (.slice B' m' k') ∧ V.cell? ⟨w4.heap.size, 0, none⟩ = some (.slice PV 1 cv) ∧ V.cell? ⟨w4.heap.size, 1, none⟩ = some (.slice QV 0 dv) ∧ True := fun V h => by
    have h2 := B4.out.trans (h.mono B4.out.size)
    obtain ⟨a1, a2, a3, a4, _, _, _, _⟩ := HKC0.out V h2
    exact ⟨a1, a2, a3, a4, (HBV.out.below h).1, (HBV.out.below h).2.1, trivial⟩
  have HKC := Lib.hid KC
  obtain ⟨k1, k2, k3, k4, k5, k6, k7⟩ := KC W (Below.refl _ _)
  clear KC
  go_wp2_with fail
  rw [← HW.out]
  refine wp_region_noPanic ?_
  refine wp_region_held_drew (S := (fun w' => w'.cell? ⟨w.heap.size, 0, none⟩ = some (.slice A n c) ∧ w'.cell? ⟨w.heap.size, 1, none⟩ = some (.slice B m k) ∧ w'.cell? ⟨w.heap.size + 1, 0, none⟩ = some (.slice A' n' c') ∧ w'.cell? ⟨w.heap.size + 1, 1, none⟩ = some (.slice B' m' k') ∧ w'.cell? ⟨w4.heap.size, 0, none⟩ = some (.slice PV 1 cv) ∧ w'.cell? ⟨w4.heap.size, 1, none⟩ = some (.slice QV 0 dv))) (by kernel_rfl) ⟨k1, k2, k3, k4, k5, k6⟩ (fun hHeld => ?_)
  refine wpAnyH_take (i := 0) (oi := ⟨some 28, _, _, _, _, _⟩) (v := ?_) rfl (by kernel_rfl) (by kernel_rfl) (by kernel_rfl) (fun _ _ _ h => h) (Or.inl ⟨by rfl, ?_⟩) (by assumption) ?_
  rotate_left
  · (intro w hSw; (try dsimp only at hSw); first | (go_simp; done) | (go_simp; with_reducible rfl))
  try simp only [Act.put, List.setIfInBounds_toArray, List.set_cons_zero, List.set_cons_succ]
  refine wpAnyH_take (i := 1) (oi := ⟨some 29, _, _, _, _, _⟩) (v := ?_) rfl (by kernel_rfl) (by kernel_rfl) (by kernel_rfl) (fun _ _ _ h => h) (Or.inl ⟨by rfl, ?_⟩) (by assumption) ?_
  rotate_left
  · (intro w hSw; (try dsimp only at hSw); first | (go_simp; done) | (go_simp; with_reducible rfl))
  try simp only [Act.put, List.setIfInBounds_toArray, List.set_cons_zero, List.set_cons_succ]
  refine wpAnyH_take (i := 3) (oi := ⟨some 31, _, _, _, _, _⟩) (v := ?_) rfl (by kernel_rfl) (by kernel_rfl) (by kernel_rfl) (fun _ _ _ h => h) (Or.inl ⟨by rfl, ?_⟩) (by assumption) ?_
  rotate_left
  · (intro w hSw; (try dsimp only at hSw); first | (go_simp; done) | (go_simp; with_reducible rfl))
  try simp only [Act.put, List.setIfInBounds_toArray, List.set_cons_zero, List.set_cons_succ]
  refine wpAnyH_take (i := 4) (oi := ⟨some 32, _, _, _, _, _⟩) (v := ?_) rfl (by kernel_rfl) (by kernel_rfl) (by kernel_rfl) (fun _ _ _ h => h) (Or.inl ⟨by rfl, ?_⟩) (by assumption) ?_
  rotate_left
  · (intro w hSw; (try dsimp only at hSw); first | (go_simp; done) | (go_simp; with_reducible rfl))
  try simp only [Act.put, List.setIfInBounds_toArray, List.set_cons_zero, List.set_cons_succ]
  refine wpAnyH_ready (rs := [2]) (by kernel_rfl) (by simp) ?_
  refine AllReadyH.cons (o := ⟨some 30, _, _, _, _, _⟩) rfl (fun K hK => ?_) AllReadyH.nil
  go_simp
  refine (P4 _ (HAW.out.below HD.out.drew) (HAW'.out.below HD.out.drew)).out.mono ?_
  rintro e v1 ⟨rfl, h3⟩
  have HK1 := Lib.hid (below_step (W := W) HD.out.drew h3)
  obtain ⟨r11, r12, r13, r14, r15, r16, r17⟩ := HKC.out _ HK1.out
  clear h3
  go_wp2_with fail
  refine hK.out _ _ ?_ (fun hHeld => ?_)
  · exact ⟨r11, r12, r13, r14, r15, r16⟩
  clear hK K
  try simp only [Act.put, List.setIfInBounds_toArray, List.set_cons_zero, List.set_cons_succ]
  refine wpAnyH_ready (rs := [5]) (by kernel_rfl) (by simp) ?_
  refine AllReadyH.cons (o := ⟨some 33, _, _, _, _, _⟩) rfl (fun K hK => ?_) AllReadyH.nil
  go_simp
  refine (P5 _ (HAW.out.below HK1.out) (HAW'.out.below HK1.out)).out.mono ?_
  rintro e v2 ⟨rfl, h3⟩
  have HK2 := Lib.hid (below_step (W := W) HK1.out h3)
  obtain ⟨r21, r22, r23, r24, r25, r26, r27⟩ := HKC.out _ HK2.out
  clear h3
  go_wp2_with fail
  refine hK.out _ _ ?_ (fun hHeld => ?_)
  · exact ⟨r21, r22, r23, r24, r25, r26⟩
  clear hK K
  try simp only [Act.put, List.setIfInBounds_toArray, List.set_cons_zero, List.set_cons_succ]
  refine wpAnyH_take (i := 6) (oi := ⟨some 34, _, _, _, _, _⟩) (v := ?_) rfl (by kernel_rfl) (by kernel_rfl) (by kernel_rfl) (fun _ _ _ h => h) (Or.inl ⟨by rfl, ?_⟩) (by assumption) ?_
  rotate_left
  · (intro w hSw; (try dsimp only at hSw); first | (go_simp; done) | (go_simp; with_reducible rfl))
  try simp only [Act.put, List.setIfInBounds_toArray, List.set_cons_zero, List.set_cons_succ]
  refine wpAnyH_take (i := 7) (oi := ⟨some 35, _, _, _, _, _⟩) (v := ?_) rfl (by kernel_rfl) (by kernel_rfl) (by kernel_rfl) (fun _ _ _ h => h) (Or.inl ⟨by rfl, ?_⟩) (by assumption) ?_
  rotate_left
  · (intro w hSw; (try dsimp only at hSw); first | (go_simp; done) | (go_simp; with_reducible rfl))
  try simp only [Act.put, List.setIfInBounds_toArray, List.set_cons_zero, List.set_cons_succ]
  refine wpAnyH_take (i := 8) (oi := ⟨some 36, _, _, _, _, _⟩) (v := ?_) rfl (by kernel_rfl) (by kernel_rfl) (by kernel_rfl) (fun _ _ _ h => h) (Or.inl ⟨by rfl, ?_⟩) (by assumption) ?_
  rotate_left
  · (intro w hSw; (try dsimp only at hSw); first | (go_simp; done) | (go_simp; with_reducible rfl))
  try simp only [Act.put, List.setIfInBounds_toArray, List.set_cons_zero, List.set_cons_succ]
  refine wpAnyH_take (i := 9) (oi := ⟨some 37, _, _, _, _, _⟩) (v := ?_) rfl (by kernel_rfl) (by kernel_rfl) (by kernel_rfl) (fun _ _ _ h => h) (Or.inl ⟨by rfl, ?_⟩) (by assumption) ?_
  rotate_left
  · (intro w hSw; (try dsimp only at hSw); first | (go_simp; done) | (go_simp; with_reducible rfl))
  try simp only [Act.put, List.setIfInBounds_toArray, List.set_cons_zero, List.set_cons_succ]
  refine wpAnyH_ready (rs := [10]) (by kernel_rfl) (by simp) ?_
  refine AllReadyH.cons (o := ⟨some 38, _, _, _, _, _⟩) rfl (fun K hK => ?_) AllReadyH.nil
  go_simp
  refine (P6 _ (HAW.out.below HK2.out)).out.mono ?_
  rintro e v3 ⟨PC, cc, QC, dc, rfl, h1, h2, h3⟩
  have HV3 := Lib.hid (RdA.mk h1.rd h2.rd)
  clear h1 h2
  have HK3 := Lib.hid (below_step (W := W) HK2.out h3)
  obtain ⟨r31, r32, r33, r34, r35, r36, r37⟩ := HKC.out _ HK3.out
  clear h3
  go_wp2_with fail
  refine hK.out _ _ ?_ (fun hHeld => ?_)
  · exact ⟨r31, r32, r33, r34, r35, r36⟩
  clear hK K
  try simp only [Act.put, List.setIfInBounds_toArray, List.set_cons_zero, List.set_cons_succ]
  refine wpAnyH_ready (rs := [11]) (by kernel_rfl) (by simp) ?_
  refine AllReadyH.cons (o := ⟨some 39, _, _, _, _, _⟩) rfl (fun K hK => ?_) AllReadyH.nil
  go_simp
  refine (P7 _ _ _ _ _ (HAW.out.below HK3.out) HV3.out).out.mono ?_
  rintro e v4 ⟨rfl, h3⟩
  have HK4 := Lib.hid (below_step (W := W) HK3.out h3)
  obtain ⟨r41, r42, r43, r44, r45, r46, r47⟩ := HKC.out _ HK4.out
  clear h3
  go_wp2_with fail
  refine hK.out _ _ ?_ (fun hHeld => ?_)
  · exact ⟨r41, r42, r43, r44, r45, r46⟩
  clear hK K
  try simp only [Act.put, List.setIfInBounds_toArray, List.set_cons_zero, List.set_cons_succ]
  refine wpAnyH_take (i := 12) (oi := ⟨some 40, _, _, _, _, _⟩) (v := ?_) rfl (by kernel_rfl) (by kernel_rfl) (by kernel_rfl) (fun _ _ _ h => h) (Or.inl ⟨by rfl, ?_⟩) (by assumption) ?_
  rotate_left
  · (intro w hSw; (try dsimp only at hSw); first | (go_simp; done) | (go_simp; with_reducible rfl))
  try simp only [Act.put, List.setIfInBounds_toArray, List.set_cons_zero, List.set_cons_succ]
  refine wpAnyH_take (i := 13) (oi := ⟨some 41, _, _, _, _, _⟩) (v := ?_) rfl (by kernel_rfl) (by kernel_rfl) (by kernel_rfl) (fun _ _ _ h => h) (Or.inl ⟨by rfl, ?_⟩) (by assumption) ?_
  rotate_left
  · (intro w hSw; (try dsimp only at hSw); first | (go_simp; done) | (go_simp; with_reducible rfl))
  try simp only [Act.put, List.setIfInBounds_toArray, List.set_cons_zero, List.set_cons_succ]
  refine wpAnyH_take (i := 14) (oi := ⟨some 42, _, _, _, _, _⟩) (v := ?_) rfl (by kernel_rfl) (by kernel_rfl) (by kernel_rfl) (fun _ _ _ h => h) (Or.inl ⟨by rfl, ?_⟩) (by assumption) ?_
  rotate_left
  · (intro w hSw; (try dsimp only at hSw); first | (go_simp; done) | (go_simp; with_reducible rfl))
  try simp only [Act.put, List.setIfInBounds_toArray, List.set_cons_zero, List.set_cons_succ]
  refine wpAnyH_take (i := 15) (oi := ⟨some 43, _, _, _, _, _⟩) (v := ?_) rfl (by kernel_rfl) (by kernel_rfl) (by kernel_rfl) (fun _ _ _ h => h) (Or.inl ⟨by rfl, ?_⟩) (by assumption) ?_
  rotate_left
  · (intro w hSw; (try dsimp only at hSw); first | (go_simp; done) | (go_simp; with_reducible rfl))
  try simp only [Act.put, List.setIfInBounds_toArray, List.set_cons_zero, List.set_cons_succ]
  refine wpAnyH_take (i := 16) (oi := ⟨some 44, _, _, _, _, _⟩) (v := ?_) rfl (by kernel_rfl) (by kernel_rfl) (by kernel_rfl) (fun _ _ _ h => h) (Or.inl ⟨by rfl, ?_⟩) (by assumption) ?_
  rotate_left
  · (intro w hSw; (try dsimp only at hSw); first | (go_simp; done) | (go_simp; with_reducible rfl))
  try simp only [Act.put, List.setIfInBounds_toArray, List.set_cons_zero, List.set_cons_succ]
  refine wpAnyH_take (i := 18) (oi := ⟨some 46, _, _, _, _, _⟩) (v := ?_) rfl (by kernel_rfl) (by kernel_rfl) (by kernel_rfl) (fun _ _ _ h => h) (Or.inl ⟨by rfl, ?_⟩) (by assumption) ?_
  rotate_left
  · (intro w hSw; (try dsimp only at hSw); first | (go_simp; done) | (go_simp; with_reducible rfl))
  try simp only [Act.put, List.setIfInBounds_toArray, List.set_cons_zero, List.set_cons_succ]
  refine wpAnyH_ready (rs := [17]) (by kernel_rfl) (by simp) ?_
  refine AllReadyH.cons (o := ⟨some 45, _, _, _, _, _⟩) rfl (fun K hK => ?_) AllReadyH.nil
  go_simp
  refine hK.out _ _ ?_ (fun hHeld => ?_)
  · go_keep
  clear hK K
  try simp only [Act.put, List.setIfInBounds_toArray, List.set_cons_zero, List.set_cons_succ]
  refine wpAnyH_take (i := 19) (oi := ⟨some 47, _, _, _, _, _⟩) (v := ?_) rfl (by kernel_rfl) (by kernel_rfl) (by kernel_rfl) (fun _ _ _ h => h) (Or.inl ⟨by rfl, ?_⟩) (by assumption) ?_
  rotate_left
  · (intro w hSw; (try dsimp only at hSw); first | (go_simp; done) | (go_simp; with_reducible rfl))
  try simp only [Act.put, List.setIfInBounds_toArray, List.set_cons_zero, List.set_cons_succ]
  refine wpAnyH_ready (rs := [20]) (by kernel_rfl) (by simp) ?_
  refine AllReadyH.cons (o := ⟨some 48, _, _, _, _, _⟩) rfl (fun K hK => ?_) AllReadyH.nil
  go_simp
  have HLL := Lib.hid (show Rd (v4.alloc (.cells #[.int .i64 0] 3)) (some ⟨v4.heap.size, 0, none⟩) 1 [0] from rd_new v4 _ [0])
  have HLD := Lib.hid (HXW.out.below (below_more HK4.out (.cells #[.int .i64 0] 3)))
  have HVV := Lib.hid (HVW.out.below (below_more HK4.out (.cells #[.int .i64 0] 3)))
  refine (P8 _ _ _ _ _ _ _ HVV.out (RdA.mk HLL.out HLD.out)).out.mono ?_
  rintro e v5 ⟨rfl, h3⟩
  have HK5 := Lib.hid (below_step (W := W) (below_more HK4.out _) h3)
  obtain ⟨r51, r52, r53, r54, r55, r56, r57⟩ := HKC.out _ HK5.out
  clear h3
  go_wp2_with fail
  refine hK.out _ _ ?_ (fun hHeld => ?_)
  · exact ⟨r51, r52, r53, r54, r55, r56⟩
  clear hK K
  try simp only [Act.put, List.setIfInBounds_toArray, List.set_cons_zero, List.set_cons_succ]
  refine wpAnyH_take (i := 21) (oi := ⟨some 49, _, _, _, _, _⟩) (v := ?_) rfl (by kernel_rfl) (by kernel_rfl) (by kernel_rfl) (fun _ _ _ h => h) (Or.inl ⟨by rfl, ?_⟩) (by assumption) ?_
  rotate_left
  · (intro w hSw; (try dsimp only at hSw); first | (go_simp; done) | (go_simp; with_reducible rfl))
  try simp only [Act.put, List.setIfInBounds_toArray, List.set_cons_zero, List.set_cons_succ]
  refine wpAnyH_take (i := 22) (oi := ⟨some 50, _, _, _, _, _⟩) (v := ?_) rfl (by kernel_rfl) (by kernel_rfl) (by kernel_rfl) (fun _ _ _ h => h) (Or.inl ⟨by rfl, ?_⟩) (by assumption) ?_
  rotate_left
  · (intro w hSw; (try dsimp only at hSw); first | (go_simp; done) | (go_simp; with_reducible rfl))
  try simp only [Act.put, List.setIfInBounds_toArray, List.set_cons_zero, List.set_cons_succ]
  refine wpAnyH_take (i := 23) (oi := ⟨some 51, _, _, _, _, _⟩) (v := ?_) rfl (by kernel_rfl) (by kernel_rfl) (by kernel_rfl) (fun _ _ _ h => h) (Or.inl ⟨by rfl, ?_⟩) (by assumption) ?_
  rotate_left
  · (intro w hSw; (try dsimp only at hSw); first | (go_simp; done) | (go_simp; with_reducible rfl))
  try simp only [Act.put, List.setIfInBounds_toArray, List.set_cons_zero, List.set_cons_succ]
  refine wpAnyH_take (i := 24) (oi := ⟨some 52, _, _, _, _, _⟩) (v := ?_) rfl (by kernel_rfl) (by kernel_rfl) (by kernel_rfl) (fun _ _ _ h => h) (Or.inl ⟨by rfl, ?_⟩) (by assumption) ?_
  rotate_left
  · (intro w hSw; (try dsimp only at hSw); first | (go_simp; done) | (go_simp; with_reducible rfl))
  try simp only [Act.put, List.setIfInBounds_toArray, List.set_cons_zero, List.set_cons_succ]
  refine wpAnyH_take (i := 25) (oi := ⟨some 53, _, _, _, _, _⟩) (v := ?_) rfl (by kernel_rfl) (by kernel_rfl) (by kernel_rfl) (fun _ _ _ h => h) (Or.inl ⟨by rfl, ?_⟩) (by assumption) ?_
  rotate_left
  · (intro w hSw; (try dsimp only at hSw); first | (go_simp; done) | (go_simp; with_reducible rfl))
  try simp only [Act.put, List.setIfInBounds_toArray, List.set_cons_zero, List.set_cons_succ]
  refine wpAnyH_take (i := 26) (oi := ⟨some 54, _, _, _, _, _⟩) (v := ?_) rfl (by kernel_rfl) (by kernel_rfl) (by kernel_rfl) (fun _ _ _ h => h) (Or.inl ⟨by rfl, ?_⟩) (by assumption) ?_
  rotate_left
  · (intro w hSw; (try dsimp only at hSw); first | (go_simp; done) | (go_simp; with_reducible rfl))
  try simp only [Act.put, List.setIfInBounds_toArray, List.set_cons_zero, List.set_cons_succ]
  refine wpAnyH_take (i := 27) (oi := ⟨some 55, _, _, _, _, _⟩) (v := undef) rfl (by kernel_rfl) (by kernel_rfl) (by kernel_rfl) (fun _ _ _ h => h) (Or.inr ⟨by rfl, rfl⟩) (by assumption) ?_
  try simp only [Act.put, List.setIfInBounds_toArray, List.set_cons_zero, List.set_cons_succ]
  refine wpAnyH_take (i := 28) (oi := ⟨some 56, _, _, _, _, _⟩) (v := undef) rfl (by kernel_rfl) (by kernel_rfl) (by kernel_rfl) (fun _ _ _ h => h) (Or.inr ⟨by rfl, rfl⟩) (by assumption) ?_
  try simp only [Act.put, List.setIfInBounds_toArray, List.set_cons_zero, List.set_cons_succ]
  refine wpAnyH_take (i := 29) (oi := ⟨some 57, _, _, _, _, _⟩) (v := undef) rfl (by kernel_rfl) (by kernel_rfl) (by kernel_rfl) (fun _ _ _ h => h) (Or.inr ⟨by rfl, rfl⟩) (by assumption) ?_
  try simp only [Act.put, List.setIfInBounds_toArray, List.set_cons_zero, List.set_cons_succ]
  refine wpAnyH_take (i := 30) (oi := ⟨some 58, _, _, _, _, _⟩) (v := undef) rfl (by kernel_rfl) (by kernel_rfl) (by kernel_rfl) (fun _ _ _ h => h) (Or.inr ⟨by rfl, rfl⟩) (by assumption) ?_
  try simp only [Act.put, List.setIfInBounds_toArray, List.set_cons_zero, List.set_cons_succ]
  refine wpAnyH_take (i := 31) (oi := ⟨some 59, _, _, _, _, _⟩) (v := undef) rfl (by kernel_rfl) (by kernel_rfl) (by kernel_rfl) (fun _ _ _ h => h) (Or.inr ⟨by rfl, rfl⟩) (by assumption) ?_
  try simp only [Act.put, List.setIfInBounds_toArray, List.set_cons_zero, List.set_cons_succ]
  refine wpAnyH_take (i := 32) (oi := ⟨some 60, _, _, _, _, _⟩) (v := undef) rfl (by kernel_rfl) (by kernel_rfl) (by kernel_rfl) (fun _ _ _ h => h) (Or.inr ⟨by rfl, rfl⟩) (by assumption) ?_
  try simp only [Act.put, List.setIfInBounds_toArray, List.set_cons_zero, List.set_cons_succ]
  refine wpAnyH_take (i := 33) (oi := ⟨some 61, _, _, _, _, _⟩) (v := undef) rfl (by kernel_rfl) (by kernel_rfl) (by kernel_rfl) (fun _ _ _ h => h) (Or.inr ⟨by rfl, rfl⟩) (by assumption) ?_
  try simp only [Act.put, List.setIfInBounds_toArray, List.set_cons_zero, List.set_cons_succ]
  refine wpAnyH_take (i := 34) (oi := ⟨some 62, _, _, _, _, _⟩) (v := undef) rfl (by kernel_rfl) (by kernel_rfl) (by kernel_rfl) (fun _ _ _ h => h) (Or.inr ⟨by rfl, rfl⟩) (by assumption) ?_
  try simp only [Act.put, List.setIfInBounds_toArray, List.set_cons_zero, List.set_cons_succ]
  refine wpAnyH_take (i := 35) (oi := ⟨some 63, _, _, _, _, _⟩) (v := ?_) rfl (by kernel_rfl) (by kernel_rfl) (by kernel_rfl) (fun _ _ _ h => h) (Or.inl ⟨by rfl, ?_⟩) (by assumption) ?_
  rotate_left
  · (intro w hSw; (try dsimp only at hSw); first | (go_simp; done) | (go_simp; with_reducible rfl))
  try simp only [Act.put, List.setIfInBounds_toArray, List.set_cons_zero, List.set_cons_succ]
  refine wpAnyH_take (i := 36) (oi := ⟨some 64, _, _, _, _, _⟩) (v := ?_) rfl (by kernel_rfl) (by kernel_rfl) (by kernel_rfl) (fun _ _ _ h => h) (Or.inl ⟨by rfl, ?_⟩) (by assumption) ?_
  rotate_left
  · (intro w hSw; (try dsimp only at hSw); first | (go_simp; done) | (go_simp; with_reducible rfl))
  try simp only [Act.put, List.setIfInBounds_toArray, List.set_cons_zero, List.set_cons_succ]
  refine wpAnyH_take (i := 37) (oi := ⟨some 6, _, _, _, _, _⟩) (v := ?_) rfl (by kernel_rfl) (by kernel_rfl) (by kernel_rfl) (fun _ _ _ h => h) (Or.inl ⟨by rfl, ?_⟩) (by assumption) ?_
  rotate_left
  · (intro w hSw; (try dsimp only at hSw); first | (go_simp; done) | (go_simp; with_reducible rfl))
  try simp only [Act.put, List.setIfInBounds_toArray, List.set_cons_zero, List.set_cons_succ]
  refine wpAnyH_done (by kernel_rfl) ?_ _
  refine NoPanic.normal ?_
  go_wp2_with fail
  go_ret
  exact ⟨ret_bool (by simp), HWA.out.trans (HK5.out.mono HWA.out.size)⟩

theorem walk_ArrayEquals (A B A' B' L : Option Addr) (n c m k n' c' m' k' l e : Nat) (s d s' d' xs : List Int) (w : World) (hs : In w A n c s) (hd : In w B m k d) (hs' : In w A' n' c' s') (hd' : In w B' m' k' d') (hx : In w L l e xs) :
    Calls Try.prog 5 #[.agg #[.slice A n c, .slice B m k], .agg #[.slice A' n' c', .slice B' m' k'], .slice L l e] w (Holds w) := by
  have h : RdA w A n B m s d := ⟨hs.rd, hd.rd⟩
  have h' : RdA w A' n' B' m' s' d' := ⟨hs'.rd, hd'.rd⟩
  cases hf : fewA n m 1000
  · exact equals_few A B A' B' L n c m k n' c' m' k' l e s d s' d' w hs.len hd.len hs'.len hd'.len hx.len h h' (.inl hf)
  · cases hf' : fewA n' m' 1000
    · exact equals_few A B A' B' L n c m k n' c' m' k' l e s d s' d' w hs.len hd.len hs'.len hd'.len hx.len h h' (.inr (.inl ⟨hf, hf'⟩))
    · by_cases h1000 : 1000 < l
      · exact equals_few A B A' B' L n c m k n' c' m' k' l e s d s' d' w hs.len hd.len hs'.len hd'.len hx.len h h' (.inr (.inr ⟨hf, hf', h1000⟩))
      · have q1 := of_decide_eq_true hf
        have q2 := of_decide_eq_true hf'
        by_cases h0 : l = 0
        · subst h0
          exact equals_nil A B A' B' L n c m k n' c' m' k' e s d s' d' xs w (by omega) (by omega) (by omega) (by omega) hx.max h h' hx.rd hf hf' _ rfl
        · exact equals_some A B A' B' L n c m k n' c' m' k' l e s d s' d' xs w (by omega) (by omega) (by omega) (by omega) (by omega) (by omega) hx.le hx.max h h' hx.rd hf hf' _ rfl
end Go.Proofs.Ytbadbjcommdjgaa.laws
