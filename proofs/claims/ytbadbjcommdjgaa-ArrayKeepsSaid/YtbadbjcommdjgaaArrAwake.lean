/- The fixed examples of the chapter hold: awake answers true. -/
import Derived.Test.YtbadbjcommdjgaaArrRef
import Derived.Test.YtbadbjcommdjgaaTabulate
namespace Go.Proofs.Ytbadbjcommdjgaa.laws
open Go.ChangeShapes Go.WideShapes Go.ChangeAt Go.RowKit Go.Proofs.Ytbadbjcommdjgaa.mem Go.Proofs.Ytbadbjcommdjgaa.shp Go.Proofs.Ytbadbjcommdjgaa.eql Go.Proofs.Ytbadbjcommdjgaa.gam Go.Proofs.Ytbadbjcommdjgaa.arr
set_option linter.unusedVariables false

theorem refArrEqual_at {A B A' B' : Option Addr} {n c m k n' c' m' k' : Nat} {s d s' d' : List Int} {w : World} (r : Bool) (hr : eqA s d s' d' = r) (hn : n ≤ maxLen) (hm : m ≤ maxLen) (hn' : n' ≤ maxLen) (hm' : m' ≤ maxLen) (h : RdA w A n B m s d) (h' : RdA w A' n' B' m' s' d') :
    Calls Try.prog 13 #[.agg #[.slice A n c, .slice B m k], .agg #[.slice A' n' c', .slice B' m' k']] w (Says w r) := by subst hr; exact refArrEqual_any A B A' B' n c m k n' c' m' k' s d s' d' w hn hm hn' hm' h h'
theorem arrEqual_at {A B A' B' : Option Addr} {n c m k n' c' m' k' : Nat} {s d s' d' : List Int} {w : World} (r : Bool) (hr : eqA s d s' d' = r) (hn : n ≤ maxLen) (hm : m ≤ maxLen) (hn' : n' ≤ maxLen) (hm' : m' ≤ maxLen) (h : RdA w A n B m s d) (h' : RdA w A' n' B' m' s' d') :
    Calls Try.prog 17 #[.agg #[.slice A n c, .slice B m k], .agg #[.slice A' n' c', .slice B' m' k']] w (Says w r) := by subst hr; exact arrEqual_any A B A' B' n c m k n' c' m' k' s d s' d' w hn hm hn' hm' h h'
theorem arrCheck_at {A B : Option Addr} {n c m k : Nat} {s d : List Int} {w : World} (r : Int) (hr : chkA s d = r) (hn : n ≤ maxLen) (hm : m ≤ maxLen) (h : RdA w A n B m s d) :
    Calls Try.prog 12 #[.agg #[.slice A n c, .slice B m k]] w (NumB w r) := by subst hr; exact arrCheck_any A B n c m k s d w hn hm h
theorem at_at {A B Y : Option Addr} {n c m k l e : Nat} {s d ys : List Int} {w : World} (x : Int) (hr : atN s d ys = x) (hn : n ≤ maxLen) (hm : m ≤ maxLen) (hl : l ≤ maxLen) (h : RdA w A n B m s d) (hy : Rd w Y l ys) (he : chkA s d = 0) (hv : vldB s ys = true) :
    Calls Try.prog 14 #[.agg #[.slice A n c, .slice B m k], .slice Y l e] w (Cell w x true) := by subst hr; exact at_in A B Y n c m k l e s d ys w hn hm hl h hy he hv

theorem at_none {A B Y : Option Addr} {n c m k l e : Nat} {s d ys : List Int} {w : World} (hn : n ≤ maxLen) (hm : m ≤ maxLen) (hl : l ≤ maxLen) (h : RdA w A n B m s d) (hy : Rd w Y l ys) (he : chkA s d = 0) (hv : vldB s ys = false) :
    Calls Try.prog 14 #[.agg #[.slice A n c, .slice B m k], .slice Y l e] w (Cell w 0 false) := at_out A B Y n c m k l e s d ys w hn hm hl h hy he hv
theorem new_no {A B : Option Addr} {n c m k : Nat} {s d : List Int} {w : World} (r : Int) (hr : chkA s d = r) (hn : n ≤ 1099511627776) (hm : m ≤ 1099511627776) (h : RdA w A n B m s d) (he : ¬ r = 0) :
    Calls Try.prog 10 #[.slice A n c, .slice B m k] w (Fails w r) := by subst hr; exact new_wrong A B n c m k s d w hn hm h he

theorem five_any (A : Option Addr) (c : Nat) (i : Int) (w : World) (h : Rd w A 1 [i]) (h0 : 0 ≤ i) (h1 : i ≤ 65536) :
    Calls Try.prog 26 #[.slice A 1 c] w fun e w' => e = .returned (.int .i64 (i + 5)) ∧ w = w' := by
  obtain ⟨ad, x, rfl, hx, hc⟩ := h.at_ (k := 0) (by omega)
  obtain rfl : i = x := by simpa using hx
  have hc0 : w.cell? ad = some (.int .i64 i) := by simpa [Addr.add] using hc
  clear h hx hc
  go_enter Try.func26, Try.ntmps26
  go_wp2_with fail
  go_ret
  exact ⟨rfl, rfl⟩
theorem five_back (W : World) : Back 26 #[] W.heap.size 1 2 [2] (fun k => (k : Int) + 5) (fun _ V => Below W.heap.size W V) where
  enter := fun _ _ => rfl
  keeps := fun _ _ _ h h' => h.trans h'
  call := by
    intro k A c V hk hi hr
    have e : idxN [2] k = [(k : Int)] := by
      rcases (show k = 0 ∨ k = 1 by omega) with rfl | rfl <;> decide
    rw [e] at hr
    refine (five_any A c k V hr (by omega) (by omega)).mono ?_
    rintro e w' ⟨rfl, rfl⟩
    exact ⟨rfl, hi, Over.refl _ _ _⟩

/-- The cells of a struct of two slices. -/
def Box2 (w : World) (b : Nat) (x y : Value) : Prop := w.cell? ⟨b, 0, none⟩ = some x ∧ w.cell? ⟨b, 1, none⟩ = some y ∧ b < w.heap.size
theorem Box2.below {w w' : World} {b : Nat} {x y : Value} (h : Box2 w b x y) (hb : Below w.heap.size w w') : Box2 w' b x y :=
  ⟨(hb.cell (p := ⟨b, 0, none⟩) h.2.2).trans h.1, (hb.cell (p := ⟨b, 1, none⟩) h.2.2).trans h.2.1, Nat.lt_of_lt_of_le h.2.2 hb.size⟩
theorem box2_new (w : World) (x y : Value) (t : TypeId) : Box2 (w.alloc (.cells #[x, y] t)) w.heap.size x y := ⟨by simp, by simp, by simp⟩

set_option maxHeartbeats 8000000 in
set_option maxRecDepth 100000 in
theorem awake_true (w : World) :
    Calls Try.prog 8 #[] w fun e w' => e = .returned (.bool true) ∧ Below w.heap.size w w' := by
  have hs0 : Rd ((w.alloc (.cells #[.int .i64 2, .int .i64 3] 3)).alloc (.cells #[.int .i64 1, .int .i64 2, .int .i64 3, .int .i64 4, .int .i64 5, .int .i64 6] 2)) (some ⟨w.heap.size, 0, none⟩) 2 [2, 3] := (rd_new w 3 [2, 3]).below (one_below _ _ _)
  have hs1 : Rd ((w.alloc (.cells #[.int .i64 2, .int .i64 3] 3)).alloc (.cells #[.int .i64 1, .int .i64 2, .int .i64 3, .int .i64 4, .int .i64 5, .int .i64 6] 2)) (some ⟨w.heap.size + 1, 0, none⟩) 6 [1, 2, 3, 4, 5, 6] := rd_new_at [1, 2, 3, 4, 5, 6] (by simp)
  have A0 := Lib.hid (((Aft.refl w).alloc (.cells #[.int .i64 2, .int .i64 3] 3)).alloc (.cells #[.int .i64 1, .int .i64 2, .int .i64 3, .int .i64 4, .int .i64 5, .int .i64 6] 2))
  have HS := Lib.hid (RdA.mk hs0 hs1); clear hs0 hs1
  go_enter Try.func8, Try.ntmps8
  go_wp2_with fail
  refine (new_right _ _ _ _ _ _ _ _ _ (by omega) (by omega) HS.out (by decide)).mono ?_
  rintro e w1 ⟨PA, ca, PB, kb, rfl, ho1, ho2, hb⟩
  have A1 := Lib.hid ((A0.out.call hb).alloc (.cells #[.slice PA 2 ca, .slice PB 6 kb] 25))
  have HR1 := Lib.hid ((MakesA.rda ho1 ho2).below (one_below w1 #[.slice PA 2 ca, .slice PB 6 kb] 25))
  have HB1 := Lib.hid (box2_new w1 (.slice PA 2 ca) (.slice PB 6 kb) 25)
  clear ho1 ho2 hb A0 HS
  go_wp2_with fail
  refine (at_at (s := [2, 3]) (d := [1, 2, 3, 4, 5, 6]) (ys := [1, 2]) 6 (by decide) (by decide) (by decide) (by decide) (HR1.out.below (one_below _ _ _)) (rd_new_at [1, 2] (by simp)) (by decide) (by decide)).mono ?_
  rintro e w2 ⟨rfl, hb⟩
  have A2 := Lib.hid ((A1.out.alloc _).call hb)
  have HR2 := Lib.hid (HR1.out.below (below_step (one_below _ _ _) hb))
  have HB2 := Lib.hid (HB1.out.below (below_step (one_below _ _ _) hb))
  obtain ⟨k1, k2, _⟩ := HB2.out
  clear hb A1 HR1 HB1
  go_wp2_with fail
  refine (at_none (s := [2, 3]) (d := [1, 2, 3, 4, 5, 6]) (ys := [2, 0]) (by decide) (by decide) (by decide) (HR2.out.below (one_below _ _ _)) (rd_new w2 3 [2, 0]) (by decide) (by decide)).mono ?_
  rintro e w3 ⟨rfl, hb⟩
  have A3 := Lib.hid ((A2.out.alloc _).call hb)
  have HR3 := Lib.hid (HR2.out.below (below_step (one_below _ _ _) hb))
  have HB3 := Lib.hid (HB2.out.below (below_step (one_below _ _ _) hb))
  clear hb A2 HR2 HB2 k1 k2
  have hs0 : Rd ((w3.alloc (.cells #[.int .i64 2] 3)).alloc (.cells #[.int .i64 1] 2)) (some ⟨w3.heap.size, 0, none⟩) 1 [2] := (rd_new w3 3 [2]).below (one_below _ _ _)
  have hs1 : Rd ((w3.alloc (.cells #[.int .i64 2] 3)).alloc (.cells #[.int .i64 1] 2)) (some ⟨w3.heap.size + 1, 0, none⟩) 1 [1] := rd_new_at [1] (by simp)
  have HS := Lib.hid (RdA.mk hs0 hs1); clear hs0 hs1
  go_wp2_with fail
  refine (new_no (s := [2]) (d := [1]) 5 (by decide) (by decide) (by decide) HS.out (by decide)).mono ?_
  rintro e w4 ⟨rfl, hb⟩
  have hb' := below_step (W := w3) (below_more (one_below w3 _ _) _) hb
  have A4 := Lib.hid (A3.out.call hb')
  have HR4 := Lib.hid (HR3.out.below hb')
  have HB4 := Lib.hid (HB3.out.below hb')
  clear hb hb' A3 HR3 HB3 HS
  obtain ⟨V, hV⟩ : ∃ V, V = (w4.alloc (.cells #[.slice none 0 0, .slice none 0 0] 25)).alloc (.cells #[.int .i64 2] 3) := ⟨_, rfl⟩
  have hbV : Below w4.heap.size w4 V := by rw [hV]; exact below_more (one_below _ _ _) _
  have HX5 := Lib.hid (show Rd V (some ⟨w4.heap.size + 1, 0, none⟩) 1 [2] by rw [hV]; exact rd_new_at [2] (by simp))
  have A5 := Lib.hid (A4.out.call hbV)
  have HR5 := Lib.hid (HR4.out.below hbV)
  have HB5 := Lib.hid (HB4.out.below hbV)
  have HV := Lib.hid hV
  clear hV hbV A4 HR4 HB4
  go_wp2_with fail
  rw [← HV.out]
  refine (tab_right 26 #[] _ 1 _ 2 [2] _ _ V (five_back V) (by decide) (by decide) HX5.out (Below.refl _ _)).mono ?_
  rintro e w5 ⟨gs, gd, rfl, ho1, ho2, hi, _⟩
  obtain ⟨W, hW⟩ : ∃ W, W = w5.alloc (.cells #[.slice (some ⟨gs, 0, none⟩) 1 1, .slice (some ⟨gd, 0, none⟩) 2 2] 25) := ⟨_, rfl⟩
  have hbW : Below w5.heap.size w5 W := by rw [hW]; exact one_below _ _ _
  have A6 := Lib.hid ((A5.out.call hi).call hbW)
  have HR6 := Lib.hid ((HR5.out.below hi).below hbW)
  have HT6 := Lib.hid (show RdA W (some ⟨gs, 0, none⟩) 1 (some ⟨gd, 0, none⟩) 2 [2] [5, 6] from (RdA.mk ho1.rd ho2.rd).below hbW)
  have HB6 := Lib.hid ((HB5.out.below hi).below hbW)
  have HC6 := Lib.hid (show Box2 W w5.heap.size (.slice (some ⟨gs, 0, none⟩) 1 1) (.slice (some ⟨gd, 0, none⟩) 2 2) by rw [hW]; exact box2_new _ _ _ _)
  have HW := Lib.hid hW
  have hnw : 1 = 1 := rfl
  clear hW hbW ho1 ho2 hi A5 HR5 HB5 HX5 hnw
  go_wp2_with fail
  rw [← HW.out]
  have HD := Lib.hid (Below.refl W.heap.size W)
  have KC : ∀ V, Below W.heap.size W V → V.cell? ⟨w1.heap.size, 0, none⟩ = some (.slice PA 2 ca) ∧ V.cell? ⟨w1.heap.size, 1, none⟩ = some (.slice PB 6 kb) ∧ V.cell? ⟨w5.heap.size, 0, none⟩ = some (.slice (some ⟨gs, 0, none⟩) 1 1) ∧ V.cell? ⟨w5.heap.size, 1, none⟩ = some (.slice (some ⟨gd, 0, none⟩) 2 2) := fun V h =>
    ⟨(HB6.out.below h).1, (HB6.out.below h).2.1, (HC6.out.below h).1, (HC6.out.below h).2.1⟩
  have HKC := Lib.hid KC
  obtain ⟨k1, k2, k3, k4⟩ := KC W (Below.refl _ _)
  clear KC
  go_region_held3 (fun w' => w'.cell? ⟨w1.heap.size, 0, none⟩ = some (.slice PA 2 ca) ∧ w'.cell? ⟨w1.heap.size, 1, none⟩ = some (.slice PB 6 kb) ∧ w'.cell? ⟨w5.heap.size, 0, none⟩ = some (.slice (some ⟨gs, 0, none⟩) 1 1) ∧ w'.cell? ⟨w5.heap.size, 1, none⟩ = some (.slice (some ⟨gd, 0, none⟩) 2 2)) (go_keep)
    (first
      | (go_at_call 16; refine (vector_any _ 2 2 [5, 6] _ (by decide) ((rd_new W 2 [5, 6]).below (Below.drew (Below.refl _ _)))).mono ?_
         rintro e v1 ⟨P1, c1, Q1, d1, rfl, h1, h2, h3⟩
         have HV1 := Lib.hid (MakesA.rda h1 h2); have HK1 := Lib.hid (below_step (W := W) (by repeat (first | exact HD.out | exact HK9.out | exact HK8.out | exact HK7.out | exact HK6.out | exact HK5.out | exact HK4.out | exact HK3.out | exact HK2.out | exact HK1.out | refine below_more ?_ _ | refine Below.drew ?_)) h3)
         obtain ⟨r11, r12, r13, r14⟩ := HKC.out _ HK1.out
         clear h1 h2 h3)
      | (go_at_call 13; with_reducible refine (refArrEqual_at (s' := [((2 : Nat) : Int)]) (d' := [5, 6]) true (by decide) (by decide) (by decide) (by decide) (by decide) (HT6.out.below (by repeat (first | exact HD.out | exact HK9.out | exact HK8.out | exact HK7.out | exact HK6.out | exact HK5.out | exact HK4.out | exact HK3.out | exact HK2.out | exact HK1.out | refine below_more ?_ _ | refine Below.drew ?_))) HV1.out).mono ?_
         rintro e v2 ⟨rfl, h3⟩
         have HK2 := Lib.hid (below_step (W := W) (by repeat (first | exact HD.out | exact HK9.out | exact HK8.out | exact HK7.out | exact HK6.out | exact HK5.out | exact HK4.out | exact HK3.out | exact HK2.out | exact HK1.out | refine below_more ?_ _ | refine Below.drew ?_)) h3)
         obtain ⟨r21, r22, r23, r24⟩ := HKC.out _ HK2.out
         clear h3)
      | (go_at_call 19; refine (scalar_any 7 _).mono ?_
         rintro e v3 ⟨P3, c3, Q3, d3, rfl, h1, h2, h3⟩
         have HV3 := Lib.hid (MakesA.rda h1 h2); have HQ3 := Lib.hid h3
         clear h1 h2
         have HK3 := Lib.hid (below_step (W := W) (by repeat (first | exact HD.out | exact HK9.out | exact HK8.out | exact HK7.out | exact HK6.out | exact HK5.out | exact HK4.out | exact HK3.out | exact HK2.out | exact HK1.out | refine below_more ?_ _ | refine Below.drew ?_)) h3)
         obtain ⟨r31, r32, r33, r34⟩ := HKC.out _ HK3.out
         clear h3)
      | (go_at_call 13
         first
           | ((have HL7 := Lib.hid (show Rd (v3.alloc (.cells #[.int .i64 7] 2)) (some ⟨v3.heap.size, 0, none⟩) 1 [7] from rd_new v3 _ [7]))
              (have HV37 := Lib.hid (HV3.out.below (one_below v3 #[.int .i64 7] 2)))
              (with_reducible refine (refArrEqual_at (s' := []) (d' := [7]) true (by decide) (by decide) (by decide) (by decide) (by decide) HV37.out (RdA.mk Rd.nil_ HL7.out)).mono ?_))
           | ((have HL7 := Lib.hid (Rd.below (show Rd (v2.alloc (.cells #[.int .i64 7] 2)) (some ⟨v2.heap.size, 0, none⟩) 1 [7] from rd_new v2 _ [7]) HQ3.out))
              (with_reducible refine (refArrEqual_at (s' := []) (d' := [7]) true (by decide) (by decide) (by decide) (by decide) (by decide) HV3.out (RdA.mk Rd.nil_ HL7.out)).mono ?_))
         rintro e v4 ⟨rfl, h3⟩
         have HK4 := Lib.hid (below_step (W := W) (by repeat (first | exact HD.out | exact HK9.out | exact HK8.out | exact HK7.out | exact HK6.out | exact HK5.out | exact HK4.out | exact HK3.out | exact HK2.out | exact HK1.out | refine below_more ?_ _ | refine Below.drew ?_)) h3)
         obtain ⟨r41, r42, r43, r44⟩ := HKC.out _ HK4.out
         clear h3)
      | (go_at_call 17; with_reducible refine (arrEqual_at true eqA_of (by decide) (by decide) (by decide) (by decide) (HR6.out.below (by repeat (first | exact HD.out | exact HK9.out | exact HK8.out | exact HK7.out | exact HK6.out | exact HK5.out | exact HK4.out | exact HK3.out | exact HK2.out | exact HK1.out | refine below_more ?_ _ | refine Below.drew ?_))) (HR6.out.below (by repeat (first | exact HD.out | exact HK9.out | exact HK8.out | exact HK7.out | exact HK6.out | exact HK5.out | exact HK4.out | exact HK3.out | exact HK2.out | exact HK1.out | refine below_more ?_ _ | refine Below.drew ?_)))).mono ?_
         rintro e v5 ⟨rfl, h3⟩
         have HK5 := Lib.hid (below_step (W := W) (by repeat (first | exact HD.out | exact HK9.out | exact HK8.out | exact HK7.out | exact HK6.out | exact HK5.out | exact HK4.out | exact HK3.out | exact HK2.out | exact HK1.out | refine below_more ?_ _ | refine Below.drew ?_)) h3)
         obtain ⟨r51, r52, r53, r54⟩ := HKC.out _ HK5.out
         clear h3)
      | (go_at_call 17; with_reducible refine (arrEqual_at false (by decide) (by decide) (by decide) (by decide) (by decide) (HR6.out.below (by repeat (first | exact HD.out | exact HK9.out | exact HK8.out | exact HK7.out | exact HK6.out | exact HK5.out | exact HK4.out | exact HK3.out | exact HK2.out | exact HK1.out | refine below_more ?_ _ | refine Below.drew ?_))) (HT6.out.below (by repeat (first | exact HD.out | exact HK9.out | exact HK8.out | exact HK7.out | exact HK6.out | exact HK5.out | exact HK4.out | exact HK3.out | exact HK2.out | exact HK1.out | refine below_more ?_ _ | refine Below.drew ?_)))).mono ?_
         rintro e v6 ⟨rfl, h3⟩
         have HK6 := Lib.hid (below_step (W := W) (by repeat (first | exact HD.out | exact HK9.out | exact HK8.out | exact HK7.out | exact HK6.out | exact HK5.out | exact HK4.out | exact HK3.out | exact HK2.out | exact HK1.out | refine below_more ?_ _ | refine Below.drew ?_)) h3)
         obtain ⟨r61, r62, r63, r64⟩ := HKC.out _ HK6.out
         clear h3)
      | (go_at_call 25; refine (copy_any PA PB 2 ca 6 kb [2, 3] [1, 2, 3, 4, 5, 6] _ (by decide) (by decide) (HR6.out.below (by repeat (first | exact HD.out | exact HK9.out | exact HK8.out | exact HK7.out | exact HK6.out | exact HK5.out | exact HK4.out | exact HK3.out | exact HK2.out | exact HK1.out | refine below_more ?_ _ | refine Below.drew ?_)))).mono ?_
         rintro e v7 ⟨P7, c7, Q7, d7, rfl, h1, h2, h3⟩
         have HV7 := Lib.hid (MakesA.rda h1 h2)
         clear h1 h2
         have HK7 := Lib.hid (below_step (W := W) (by repeat (first | exact HD.out | exact HK9.out | exact HK8.out | exact HK7.out | exact HK6.out | exact HK5.out | exact HK4.out | exact HK3.out | exact HK2.out | exact HK1.out | refine below_more ?_ _ | refine Below.drew ?_)) h3)
         obtain ⟨r71, r72, r73, r74⟩ := HKC.out _ HK7.out
         clear h3)
      | (go_at_call 13; with_reducible refine (refArrEqual_at true eqA_of (by decide) (by decide) (by decide) (by decide) HV7.out (HR6.out.below (by repeat (first | exact HD.out | exact HK9.out | exact HK8.out | exact HK7.out | exact HK6.out | exact HK5.out | exact HK4.out | exact HK3.out | exact HK2.out | exact HK1.out | refine below_more ?_ _ | refine Below.drew ?_)))).mono ?_
         rintro e v8 ⟨rfl, h3⟩
         have HK8 := Lib.hid (below_step (W := W) (by repeat (first | exact HD.out | exact HK9.out | exact HK8.out | exact HK7.out | exact HK6.out | exact HK5.out | exact HK4.out | exact HK3.out | exact HK2.out | exact HK1.out | refine below_more ?_ _ | refine Below.drew ?_)) h3)
         obtain ⟨r81, r82, r83, r84⟩ := HKC.out _ HK8.out
         clear h3)
      | (go_at_call 12; refine (arrCheck_at 0 (by decide) (by decide) (by decide) (HR6.out.below (by repeat (first | exact HD.out | exact HK9.out | exact HK8.out | exact HK7.out | exact HK6.out | exact HK5.out | exact HK4.out | exact HK3.out | exact HK2.out | exact HK1.out | refine below_more ?_ _ | refine Below.drew ?_)))).mono ?_
         rintro e v9 ⟨rfl, h3⟩
         have HK9 := Lib.hid (below_step (W := W) (by repeat (first | exact HD.out | exact HK9.out | exact HK8.out | exact HK7.out | exact HK6.out | exact HK5.out | exact HK4.out | exact HK3.out | exact HK2.out | exact HK1.out | refine below_more ?_ _ | refine Below.drew ?_)) h3)
         obtain ⟨r91, r92, r93, r94⟩ := HKC.out _ HK9.out
         clear h3))
  all_goals
    go_wp2_with fail
    go_ret
    exact ⟨rfl, A6.out.call HK9.out⟩
end Go.Proofs.Ytbadbjcommdjgaa.laws
