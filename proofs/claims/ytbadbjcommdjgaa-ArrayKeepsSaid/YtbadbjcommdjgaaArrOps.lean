/- Contracts of package array, continued: At, Equal; and of the reference: Check, At, Equal, Few, Small. -/
import Derived.Test.YtbadbjcommdjgaaArray
import Derived.Test.YtbadbjcommdjgaaEqual
import Derived.Test.YtbadbjcommdjgaaRefGamma
import Derived.Test.YtbadbjcommdjgaaSmall
namespace Go.Proofs.Ytbadbjcommdjgaa.arr
open Go.ChangeShapes Go.WideShapes Go.ChangeAt Go.RowKit Go.Proofs.Ytbadbjcommdjgaa.mem Go.Proofs.Ytbadbjcommdjgaa.shp Go.Proofs.Ytbadbjcommdjgaa.eql Go.Proofs.Ytbadbjcommdjgaa.gam
set_option linter.unusedVariables false

/-- The number of the cell with an index. -/
def atN (s d ys : List Int) : Int := d.getD (offN s ys).toNat 0
theorem at_cell {s d ys : List Int} {m : Nat} (h0 : chkA s d = 0) (hd : d.length = m) (hv : vldB s ys = true) : ∃ j : Nat, offN s ys = j ∧ j < m ∧ d[j]? = some (atN s d ys) ∧ rofN s ys = j := by
  obtain ⟨hc, hl⟩ := chkA_0 h0
  have ho := off_n hc hv
  refine ⟨(offN s ys).toNat, by omega, by omega, ?_, ?_⟩
  · unfold atN
    rw [List.getD, List.getElem?_eq_getElem (by omega)]; rfl
  · unfold rofN; rw [if_pos hv]; omega
/-- What At answers. -/
def Cell (w : World) (x : Int) (b : Bool) (e : Ending) (w' : World) : Prop := e = .returned (.tuple #[.int .i64 x, .bool b]) ∧ Below w.heap.size w w'

theorem at_wrong (A B Y : Option Addr) (n c m k l e : Nat) (s d ys : List Int) (w : World) (hn : n ≤ maxLen) (hm : m ≤ maxLen) (h : RdA w A n B m s d) (he : ¬ chkA s d = 0) :
    Calls Try.prog 14 #[.agg #[.slice A n c, .slice B m k], .slice Y l e] w (Cell w 0 false) := by
  have hb := one_below w #[.slice A n c, .slice B m k] 25
  have P1 := fun W h => Lib.hid (arrCheck_any A B n c m k s d W hn hm h)
  have hne : (chkA s d == 0) = false := by simpa using he
  have HX := Lib.hid (h.below hb)
  have HB := Lib.hid hb
  clear h he hb
  generalize chkA s d = E at *
  go_enter Try.func14, Try.ntmps14
  go_wp2_with fail
  refine (P1 _ HX.out).out.mono ?_
  rintro e w1 ⟨rfl, hb⟩
  have HB1 := Lib.hid (HB.out.trans (hb.mono (by simp)))
  clear hb
  go_wp2_with fail
  go_ret2
  exact ⟨rfl, HB1.out⟩
theorem at_out (A B Y : Option Addr) (n c m k l e : Nat) (s d ys : List Int) (w : World) (hn : n ≤ maxLen) (hm : m ≤ maxLen) (hl : l ≤ maxLen) (h : RdA w A n B m s d) (hy : Rd w Y l ys) (he : chkA s d = 0) (hv : vldB s ys = false) :
    Calls Try.prog 14 #[.agg #[.slice A n c, .slice B m k], .slice Y l e] w (Cell w 0 false) := by
  have hb := one_below w #[.slice A n c, .slice B m k] 25
  have P1 := fun W h => arrCheck_any A B n c m k s d W hn hm h
  have P2 := fun W h1 h2 => offset_any A Y n c l e s ys W hn hl h1 h2 (chkA_0 he).1
  rw [he] at P1
  rw [hv] at P2
  generalize offN s ys = r at *
  have P1 := fun W h => Lib.hid (P1 W h)
  have P2 := fun W h1 h2 => Lib.hid (P2 W h1 h2)
  have HX := Lib.hid (h.below hb)
  have HY := Lib.hid (hy.below hb)
  have HB := Lib.hid hb
  rename_i q1 q2; clear q1 q2 h he hb hv hy
  go_enter Try.func14, Try.ntmps14
  go_wp2_with fail
  refine (P1 _ HX.out).out.mono ?_
  rintro e w1 ⟨rfl, hb⟩
  have k1 : w1.cell? ⟨w.heap.size, 0, none⟩ = some (.slice A n c) := (hb.cell (p := ⟨w.heap.size, 0, none⟩) (by simp)).trans (by simp)
  have HX1 := Lib.hid (HX.out.below hb)
  have HY1 := Lib.hid (HY.out.below hb)
  have HB1 := Lib.hid (HB.out.trans (hb.mono (by simp)))
  clear hb
  go_wp2_with fail
  refine (P2 _ HX1.out.s HY1.out).out.mono ?_
  rintro e w2 ⟨rfl, hb⟩
  have HB2 := Lib.hid (HB1.out.trans (hb.mono HB1.out.size))
  clear hb k1
  go_wp2_with fail
  go_ret2
  exact ⟨rfl, HB2.out⟩
theorem at_in (A B Y : Option Addr) (n c m k l e : Nat) (s d ys : List Int) (w : World) (hn : n ≤ maxLen) (hm : m ≤ maxLen) (hl : l ≤ maxLen) (h : RdA w A n B m s d) (hy : Rd w Y l ys) (he : chkA s d = 0) (hv : vldB s ys = true) :
    Calls Try.prog 14 #[.agg #[.slice A n c, .slice B m k], .slice Y l e] w (Cell w (atN s d ys) true) := by
  have hb := one_below w #[.slice A n c, .slice B m k] 25
  have P1 := fun W h => arrCheck_any A B n c m k s d W hn hm h
  have P2 := fun W h1 h2 => offset_any A Y n c l e s ys W hn hl h1 h2 (chkA_0 he).1
  obtain ⟨j, hj, hjm, hdj, _⟩ := at_cell he h.d.1 hv
  rw [he] at P1
  rw [hv, hj] at P2
  generalize atN s d ys = x at *
  have P1 := fun W h => Lib.hid (P1 W h)
  have P2 := fun W h1 h2 => Lib.hid (P2 W h1 h2)
  have HX := Lib.hid (h.below hb)
  have HY := Lib.hid (hy.below hb)
  have HB := Lib.hid hb
  have HJ := Lib.hid hdj
  rename_i q1 q2 q3; clear q1 q2 q3 h he hb hv hy hj hdj
  unfold maxLen at hn hm hl
  have hjm' : (j : Int) < (m : Int) := by omega
  go_enter Try.func14, Try.ntmps14
  go_wp2_with fail
  refine (P1 _ HX.out).out.mono ?_
  rintro e w1 ⟨rfl, hb⟩
  have k1 : w1.cell? ⟨w.heap.size, 0, none⟩ = some (.slice A n c) := (hb.cell (p := ⟨w.heap.size, 0, none⟩) (by simp)).trans (by simp)
  have K2 := Lib.hid (show w1.cell? ⟨w.heap.size, 1, none⟩ = some (.slice B m k) from (hb.cell (p := ⟨w.heap.size, 1, none⟩) (by simp)).trans (by simp))
  have HX1 := Lib.hid (HX.out.below hb)
  have HY1 := Lib.hid (HY.out.below hb)
  have HB1 := Lib.hid (HB.out.trans (hb.mono (by simp)))
  have HL1 := Lib.hid (show w.heap.size < w1.heap.size by have := hb.size; simp at this; omega)
  clear hb
  go_wp2_with fail
  refine (P2 _ HX1.out.s HY1.out).out.mono ?_
  rintro e w2 ⟨rfl, hb⟩
  have HB2 := Lib.hid (HB1.out.trans (hb.mono HB1.out.size))
  have k2 : w2.cell? ⟨w.heap.size, 1, none⟩ = some (.slice B m k) := (hb.cell (p := ⟨w.heap.size, 1, none⟩) HL1.out).trans K2.out
  have HD := HX1.out.d.below hb
  obtain ⟨ad, x', rfl, hx', hc⟩ := HD.at_ hjm
  have hxx : x' = x := by have := HJ.out; rw [this] at hx'; exact (Option.some.inj hx').symm
  subst hxx
  clear hb k1 HD hx'
  go_wp2_with fail
  go_ret2
  exact ⟨rfl, HB2.out⟩

/-- Whether two arrays are the same. -/
def eqA (s d s' d' : List Int) : Bool := eqB s s' && eqB d d'
theorem eqA_of {s d : List Int} : eqA s d s d = true := by unfold eqA; rw [eq_of rfl, eq_of rfl]; rfl
theorem arrEqual_any (A B A' B' : Option Addr) (n c m k n' c' m' k' : Nat) (s d s' d' : List Int) (w : World) (hn : n ≤ maxLen) (hm : m ≤ maxLen) (hn' : n' ≤ maxLen) (hm' : m' ≤ maxLen) (h : RdA w A n B m s d) (h' : RdA w A' n' B' m' s' d') :
    Calls Try.prog 17 #[.agg #[.slice A n c, .slice B m k], .agg #[.slice A' n' c', .slice B' m' k']] w (Says w (eqA s d s' d')) := by
  obtain ⟨W, hW⟩ : ∃ W, W = (w.alloc (.cells #[.slice A n c, .slice B m k] 25)).alloc (.cells #[.slice A' n' c', .slice B' m' k'] 25) := ⟨_, rfl⟩
  obtain ⟨hb, hsz, KC⟩ := two_boxes hW
  have P1 := fun W h h' => equal_any A A' n c n' c' s s' W hn hn' h h'
  have P2 := fun W h h' => slices_equal8 B B' m k m' k' d d' W hm hm' h h'
  have HX := Lib.hid (h.below hb)
  have HY := Lib.hid (h'.below hb)
  have HB := Lib.hid hb
  have HSZ := Lib.hid hsz
  have HW := Lib.hid hW
  have HKC := Lib.hid KC
  unfold eqA
  generalize eqB s s' = b1 at *
  generalize eqB d d' = b2 at *
  have P1 := fun W h h' => Lib.hid (P1 W h h')
  have P2 := fun W h h' => Lib.hid (P2 W h h')
  rename_i q1 q2; clear q1 q2 h h' hb hsz hW KC
  cases b1
  · go_enter Try.func17, Try.ntmps17
    go_wp2_with fail
    rw [← HW.out]
    refine (P1 _ HX.out.s HY.out.s).out.mono ?_
    rintro e w1 ⟨rfl, hb⟩
    have HB1 := Lib.hid (HB.out.trans (hb.mono HB.out.size))
    clear hb
    go_wp2_with fail
    go_ret
    exact ⟨rfl, HB1.out⟩
  · go_enter Try.func17, Try.ntmps17
    go_wp2_with fail
    rw [← HW.out]
    refine (P1 _ HX.out.s HY.out.s).out.mono ?_
    rintro e w1 ⟨rfl, hb⟩
    obtain ⟨k1, k2, k3, k4, _, _, _, _⟩ := HKC.out _ hb
    have HX1 := Lib.hid (HX.out.d.below hb)
    have HY1 := Lib.hid (HY.out.d.below hb)
    have HB1 := Lib.hid (HB.out.trans (hb.mono HB.out.size))
    clear hb
    go_wp2_with fail
    refine (P2 _ HX1.out HY1.out).out.mono ?_
    rintro e w2 ⟨rfl, hb⟩
    have HB2 := Lib.hid (HB1.out.trans (hb.mono HB1.out.size))
    clear hb
    go_wp2_with fail
    go_ret
    exact ⟨by simp, HB2.out⟩

set_option maxHeartbeats 1000000 in
theorem refArrEqual_any (A B A' B' : Option Addr) (n c m k n' c' m' k' : Nat) (s d s' d' : List Int) (w : World) (hn : n ≤ maxLen) (hm : m ≤ maxLen) (hn' : n' ≤ maxLen) (hm' : m' ≤ maxLen) (h : RdA w A n B m s d) (h' : RdA w A' n' B' m' s' d') :
    Calls Try.prog 13 #[.agg #[.slice A n c, .slice B m k], .agg #[.slice A' n' c', .slice B' m' k']] w (Says w (eqA s d s' d')) := by
  obtain ⟨W, hW⟩ : ∃ W, W = (w.alloc (.cells #[.slice A n c, .slice B m k] 25)).alloc (.cells #[.slice A' n' c', .slice B' m' k'] 25) := ⟨_, rfl⟩
  obtain ⟨hb, hsz, KC⟩ := two_boxes hW
  obtain ⟨k1, k2, k3, k4, _, _, _, _⟩ := KC W (Below.refl _ _)
  have P1 := fun W h h' => refEqual_num A A' n c n' c' s s' W hn hn' h h'
  have HX := Lib.hid (h.below hb)
  have HY := Lib.hid (h'.below hb)
  have HB := Lib.hid hb
  have HSZ := Lib.hid hsz
  have HW := Lib.hid hW
  have HR : Hid (∀ b1, b1 = eqB s s' → eqA s d s' d' = (b1 && eqB d d')) := Lib.hid (fun b1 h => by rw [h]; rfl)
  obtain ⟨b1, hb1⟩ : ∃ b1, b1 = eqB s s' := ⟨_, rfl⟩
  rw [HR.out b1 hb1]
  rw [← hb1] at P1
  have P1 := fun W h h' => Lib.hid (P1 W h h')
  rename_i q1 q2 q3 q4 q5; clear q1 q2 q3 q4 q5 h h' hb hsz hW KC HR hb1
  unfold maxLen at hm hm'
  cases b1
  · go_enter Try.func13, Try.ntmps13
    go_wp2_with fail
    rw [← HW.out]
    refine (P1 _ HX.out.s HY.out.s).out.mono ?_
    rintro e w1 ⟨rfl, q, rfl⟩
    go_wp2_with fail
    go_ret
    exact ⟨rfl, below_drewN HB.out q⟩
  · by_cases hmm : m = m'
    · subst hmm
      obtain ⟨r, hr⟩ : ∃ r, r = eqB d d' := ⟨_, rfl⟩
      rw [← hr]
      have HRD := Lib.hid hr
      clear hr
      go_enter Try.func13, Try.ntmps13
      go_wp2_with fail
      rw [← HW.out]
      refine (P1 _ HX.out.s HY.out.s).out.mono ?_
      rintro e w1 ⟨rfl, q0, rfl⟩
      go_wp2_with fail
      go_loopw [5] (fun i wr => ∃ j q : Nat, j ≤ m ∧ i = .int .i64 j ∧ wr = W.drewN q ∧ Hid (d.take j = d'.take j)) (fun i _ => m - (intOf i).toNat)
      case atStart => exact ⟨0, _, Nat.zero_le _, rfl, rfl, Lib.hid rfl⟩
      case round =>
        obtain ⟨j, q, hk, rfl, rfl, Hs⟩ := hrel
        by_cases hlt : j < m
        · obtain ⟨ad1, x, rfl, hx, hc1⟩ := HX.out.d.at_ hlt
          obtain ⟨ad2, y, rfl, hy, hc2⟩ := HY.out.d.at_ hlt
          by_cases hxy : x = y
          · subst hxy
            have Hx := Lib.hid hx; have Hy := Lib.hid hy; clear hx hy
            have hi1 : (j : Int) < (m : Int) := by omega
            go_wp2_with fail
            go_quiet (fail)
            go_wp2_with fail
            go_roundw
            case rel => exact ⟨j + 1, _, by omega, by go_num, by first | rfl | rw [World.drewN_drewN], Lib.hid (eq_step Hx.out Hy.out Hs.out)⟩
            case measure => first | (simp [intOf]; done) | (simp [intOf]; omega)
          · have HE := Lib.hid (HRD.out.trans (eq_elem hx hy hxy))
            have Hx := Lib.hid hx; have Hy := Lib.hid hy; clear hx hy
            have hi1 : (j : Int) < (m : Int) := by omega
            go_wp2_with fail
            go_quiet (fail)
            go_wp2_with fail
            go_ret
            exact ⟨ret_bool (by rw [HE.out]; rfl), by repeat (first | exact HB.out | apply below_drewN)⟩
        · have HE := Lib.hid (HRD.out.trans (eq_all HX.out.d.1 HY.out.d.1 hlt Hs.out))
          go_wp2_with fail
          go_ret
          exact ⟨ret_bool (by rw [HE.out]; rfl), by repeat (first | exact HB.out | apply below_drewN)⟩
    · have hr := eq_len hmm HX.out.d.1 HY.out.d.1
      rw [hr]
      clear hr
      have hne : ((m : Int) != (m' : Int)) = true := by simp; omega
      have hne2 : ((m : Int) == (m' : Int)) = false := by simp; omega
      go_enter Try.func13, Try.ntmps13
      go_wp2_with fail
      rw [← HW.out]
      refine (P1 _ HX.out.s HY.out.s).out.mono ?_
      rintro e w1 ⟨rfl, q0, rfl⟩
      go_wp2_with fail
      go_ret
      exact ⟨rfl, below_drewN HB.out q0⟩

/-- Whether an array has few dimensions and numbers. -/
def fewA (n m : Nat) (most : Int) : Bool := decide (n ≤ 100 ∧ (m : Int) ≤ most)
theorem refFewA_any (A B : Option Addr) (n c m k : Nat) (most : Int) (w : World) (hn : n ≤ maxLen) (hm : m ≤ maxLen) :
    Calls Try.prog 9 #[.agg #[.slice A n c, .slice B m k], .int .i64 most] w (Says w (fewA n m most)) := by
  unfold maxLen at hn hm
  have HB := Lib.hid (one_below w #[.slice A n c, .slice B m k] 25)
  by_cases h1 : n ≤ 100
  · have hd : decide ((n : Int) ≤ 100) = true := by simpa using (by omega : (n : Int) ≤ 100)
    by_cases h2 : (m : Int) ≤ most
    · have hd2 : decide ((m : Int) ≤ most) = true := by simpa using h2
      have e : fewA n m most = true := decide_eq_true ⟨h1, h2⟩
      rw [e]; clear e
      go_enter Try.func9, Try.ntmps9
      go_wp2_with fail
      go_ret
      exact ⟨rfl, HB.out⟩
    · have hd2 : decide ((m : Int) ≤ most) = false := by simpa using h2
      have e : fewA n m most = false := decide_eq_false (by omega)
      rw [e]; clear e
      go_enter Try.func9, Try.ntmps9
      go_wp2_with fail
      go_ret
      exact ⟨rfl, HB.out⟩
  · have hd : decide ((n : Int) ≤ 100) = false := by simpa using (by omega : ¬ (n : Int) ≤ 100)
    have e : fewA n m most = false := decide_eq_false (by omega)
    rw [e]; clear e
    go_enter Try.func9, Try.ntmps9
    go_wp2_with fail
    go_ret
    exact ⟨rfl, HB.out⟩
end Go.Proofs.Ytbadbjcommdjgaa.arr
