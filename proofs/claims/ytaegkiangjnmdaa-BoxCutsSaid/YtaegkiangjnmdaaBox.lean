/- Package box and its reference, what only reads: Right, Has, empty, Size; Small, Cells, Same. -/
import Derived.Test.YtaegkiangjnmdaaBoxMath
import Derived.Test.YtaegkiangjnmdaaOdoCalls
import Derived.Test.YtaegkiangjnmdaaRefFew
import Derived.Test.YtaegkiangjnmdaaArray
namespace Go.Proofs.Ytaegkiangjnmdaa.bx
open Go.ChangeShapes Go.WideShapes Go.ChangeAt Go.RowKit Go.Proofs.Ytaegkiangjnmdaa.mem Go.Proofs.Ytaegkiangjnmdaa.prod Go.Proofs.Ytaegkiangjnmdaa.shp Go.Proofs.Ytaegkiangjnmdaa.strd Go.Proofs.Ytaegkiangjnmdaa.gam Go.Proofs.Ytaegkiangjnmdaa.sml Go.Proofs.Ytaegkiangjnmdaa.all Go.Proofs.Ytaegkiangjnmdaa.odo Go.Proofs.Ytaegkiangjnmdaa.eql Go.Proofs.Ytaegkiangjnmdaa.arr
set_option linter.unusedVariables false

theorem below_more {W V : World} (h : Below W.heap.size W V) (o : Obj) : Below W.heap.size W (V.alloc o) := h.alloc h.size o
theorem below_step {W V V' : World} (h : Below W.heap.size W V) (h' : Below V.heap.size V V') : Below W.heap.size W V' := h.trans (h'.mono h.size)

set_option maxHeartbeats 1000000 in
theorem right_any (A B : Option Addr) (n c m d : Nat) (lo hi : List Int) (w : World) (hn : n ≤ maxLen) (hm : m ≤ maxLen) (ha : Rd w A n lo) (hb : Rd w B m hi) :
    Calls Try.prog 8 #[.agg #[.slice A n c, .slice B m d]] w (Says w (rgtB lo hi)) := by
  unfold maxLen at hn hm
  have hbl := one_below w #[.slice A n c, .slice B m d] 27
  have HA := Lib.hid (ha.below hbl); have HB := Lib.hid (hb.below hbl); have HBL := Lib.hid hbl
  have HLA := Lib.hid ha.1; have HLB := Lib.hid hb.1
  clear ha hb hbl
  by_cases hnm : n = m
  · subst hnm
    by_cases h16 : 16 < n
    · have hr : rgtB lo hi = false := by unfold rgtB; rw [decide_eq_false (by rw [HLA.out]; omega)]; rfl
      rw [hr]
      clear hr
      go_enter Try.func8, Try.ntmps8
      go_wp2_with fail
      go_ret
      exact ⟨rfl, HBL.out⟩
    · obtain ⟨r, hr⟩ : ∃ r, r = endB lo hi := ⟨_, rfl⟩
      have hr2 : rgtB lo hi = r := by unfold rgtB; rw [decide_eq_true (by rw [HLA.out, HLB.out]; omega), hr]; rfl
      rw [hr2]
      have HR := Lib.hid hr
      clear hr hr2
      go_enter Try.func8, Try.ntmps8
      go_wp2_with fail
      go_loop [22] (fun i => ∃ k : Nat, k ≤ n ∧ i = .int .i64 k ∧ Hid (endB lo hi = endB (lo.drop k) (hi.drop k))) (fun i => n - (intOf i).toNat)
      case atStart => exact ⟨0, Nat.zero_le _, rfl, Lib.hid rfl⟩
      case round =>
        obtain ⟨k, hk, rfl, Hs⟩ := hrel
        by_cases hlt : k < n
        · obtain ⟨ad1, a, rfl, ha, hc1⟩ := HA.out.at_ hlt
          obtain ⟨ad2, b, rfl, hb, hc2⟩ := HB.out.at_ hlt
          have HS := Lib.hid (end_step ha hb)
          clear ha hb
          by_cases hxa : a < 0
          · go_wp2_with fail
            go_ret
            exact ⟨ret_bool (by rw [HR.out, Hs.out, HS.out, decide_eq_false (by omega)]; rfl), HBL.out⟩
          · by_cases hbx : b < a
            · go_wp2_with fail
              go_ret
              exact ⟨ret_bool (by rw [HR.out, Hs.out, HS.out, decide_eq_false (by omega)]; rfl), HBL.out⟩
            · by_cases hbm : 65536 < b
              · go_wp2_with fail
                go_ret
                exact ⟨ret_bool (by rw [HR.out, Hs.out, HS.out, decide_eq_false (by omega)]; rfl), HBL.out⟩
              · go_wp2_with fail
                go_round
                case rel => exact ⟨k + 1, by omega, by go_num, Lib.hid (by rw [Hs.out, HS.out, decide_eq_true (by omega), Bool.true_and])⟩
                case measure => simp [intOf]; omega
        · have HE := Lib.hid (HR.out.trans (Hs.out.trans (end_end HLA.out hlt)))
          go_wp2_with fail
          go_ret
          exact ⟨ret_bool HE.out.symm, HBL.out⟩
  · have hr : rgtB lo hi = false := by unfold rgtB; rw [decide_eq_false (by rw [HLA.out, HLB.out]; omega)]; rfl
    rw [hr]
    clear hr
    have hnm' : ¬ (n : Int) = (m : Int) := by omega
    go_enter Try.func8, Try.ntmps8
    go_wp2_with fail
    go_ret
    exact ⟨rfl, HBL.out⟩

/-- The cells of a struct of two slices. -/
def Box2 (w : World) (b : Nat) (x y : Value) : Prop := w.cell? ⟨b, 0, none⟩ = some x ∧ w.cell? ⟨b, 1, none⟩ = some y ∧ b < w.heap.size
theorem Box2.below {w w' : World} {b : Nat} {x y : Value} (h : Box2 w b x y) (hb : Below w.heap.size w w') : Box2 w' b x y :=
  ⟨(hb.cell (p := ⟨b, 0, none⟩) h.2.2).trans h.1, (hb.cell (p := ⟨b, 1, none⟩) h.2.2).trans h.2.1, Nat.lt_of_lt_of_le h.2.2 hb.size⟩
theorem box2_new (w : World) (x y : Value) (t : TypeId) : Box2 (w.alloc (.cells #[x, y] t)) w.heap.size x y := ⟨by simp, by simp, by simp⟩

set_option maxHeartbeats 1000000 in
theorem has_any (A B C : Option Addr) (n c d l e : Nat) (lo hi xs : List Int) (w : World) (hn : n ≤ maxLen) (hl : l ≤ maxLen) (hr : rgtB lo hi = true) (ha : Rd w A n lo) (hb : Rd w B n hi) (hx : Rd w C l xs) :
    Calls Try.prog 16 #[.agg #[.slice A n c, .slice B n d], .slice C l e] w (Says w (insB lo hi xs)) := by
  have P1 := fun W h1 h2 => Lib.hid (hr ▸ right_any A B n c n d lo hi W hn hn h1 h2)
  unfold maxLen at hn hl
  have hbl := one_below w #[.slice A n c, .slice B n d] 27
  have HA := Lib.hid (ha.below hbl); have HB := Lib.hid (hb.below hbl); have HX := Lib.hid (hx.below hbl); have HBL := Lib.hid hbl
  have HK := Lib.hid (box2_new w (.slice A n c) (.slice B n d) 27)
  clear ha hb hx hbl hr
  obtain ⟨r, hr⟩ : ∃ r, r = insB lo hi xs := ⟨_, rfl⟩
  rw [← hr]
  have HR := Lib.hid hr; clear hr
  go_enter Try.func16, Try.ntmps16
  go_wp2_with fail
  refine (P1 _ HA.out HB.out).out.mono ?_
  rintro e w1 ⟨rfl, hb⟩
  have HA1 := Lib.hid (HA.out.below hb); have HB1 := Lib.hid (HB.out.below hb); have HX1 := Lib.hid (HX.out.below hb); have HW1 := Lib.hid (HBL.out.trans (hb.mono HBL.out.size))
  obtain ⟨k1, k2, _⟩ := HK.out.below hb
  clear hb HA HB HX HBL HK P1
  by_cases hln : l = n
  · subst hln
    go_wp2_with fail
    go_loop [20] (fun i => ∃ k : Nat, k ≤ l ∧ i = .int .i64 k ∧ Hid (insB lo hi xs = insB (lo.drop k) (hi.drop k) (xs.drop k))) (fun i => l - (intOf i).toNat)
    case atStart => exact ⟨0, Nat.zero_le _, rfl, Lib.hid rfl⟩
    case round =>
      obtain ⟨k, hk, rfl, Hs⟩ := hrel
      by_cases hlt : k < l
      · obtain ⟨ad1, a, rfl, ha, hc1⟩ := HA1.out.at_ hlt
        obtain ⟨ad2, b, rfl, hb, hc2⟩ := HB1.out.at_ hlt
        obtain ⟨ad3, x, rfl, hx, hc3⟩ := HX1.out.at_ hlt
        have HS := Lib.hid (ins_step ha hb hx)
        clear ha hb hx
        have hi1 : (k : Int) < (l : Int) := by omega
        by_cases hxa : x < a
        · go_wp2_with fail
          go_ret
          exact ⟨ret_bool (by rw [HR.out, Hs.out, HS.out, decide_eq_false (by omega)]; rfl), HW1.out⟩
        · by_cases hbx : b ≤ x
          · go_wp2_with fail
            go_ret
            exact ⟨ret_bool (by rw [HR.out, Hs.out, HS.out, decide_eq_false (by omega)]; rfl), HW1.out⟩
          · go_wp2_with fail
            go_round
            case rel => exact ⟨k + 1, by omega, by go_num, Lib.hid (by rw [Hs.out, HS.out, decide_eq_true (by omega), Bool.true_and])⟩
            case measure => simp [intOf]; omega
      · have HE := Lib.hid (HR.out.trans (Hs.out.trans (ins_end HA1.out.1 HB1.out.1 HX1.out.1 hlt)))
        go_wp2_with fail
        go_ret
        exact ⟨ret_bool HE.out.symm, HW1.out⟩
  · have hr : r = false := HR.out.trans (ins_ne (.inr (by rw [HX1.out.1, HA1.out.1]; exact hln)))
    have HE := Lib.hid hr
    clear hr
    have hnm' : ¬ (l : Int) = (n : Int) := by omega
    go_wp2_with fail
    go_ret
    exact ⟨ret_bool HE.out.symm, HW1.out⟩

theorem empty_any (A B : Option Addr) (n c d : Nat) (lo hi : List Int) (w : World) (hn : n ≤ maxLen) (hr : rgtB lo hi = true) (ha : Rd w A n lo) (hb : Rd w B n hi) :
    Calls Try.prog 26 #[.agg #[.slice A n c, .slice B n d]] w (Says w (!insB lo hi lo)) := by
  have P1 := fun W h1 h2 => has_any A B A n c d n c lo hi lo W hn hn hr h1 h2 h1
  generalize insB lo hi lo = r at *
  have P1 := fun W h1 h2 => Lib.hid (P1 W h1 h2)
  have hbl := one_below w #[.slice A n c, .slice B n d] 27
  have HA := Lib.hid (ha.below hbl); have HB := Lib.hid (hb.below hbl); have HBL := Lib.hid hbl
  rename_i q1
  clear ha hb hbl hr q1
  go_enter Try.func26, Try.ntmps26
  go_wp2_with fail
  refine (P1 _ HA.out HB.out).out.mono ?_
  rintro e w1 ⟨rfl, hb⟩
  have HW1 := Lib.hid (HBL.out.trans (hb.mono HBL.out.size))
  clear hb
  go_wp2_with fail
  go_ret
  exact ⟨rfl, HW1.out⟩

theorem size_any (A B : Option Addr) (n c d : Nat) (lo hi : List Int) (w : World) (hr : rgtB lo hi = true) (ha : Rd w A n lo) (hb : Rd w B n hi) (hp : prodL (dimsL lo hi) ≤ 4294967296) :
    Calls Try.prog 14 #[.agg #[.slice A n c, .slice B n d]] w (NumB w (prodL (dimsL lo hi))) := by
  obtain ⟨h1, h2, h3⟩ := rgt_out hr
  obtain ⟨h4, h5⟩ := end_bound h1 h3
  have P1 := fun W g1 g2 => count_any A B n c d lo hi W (by have := ha.1; omega) g1 g2 (wide_of h4) (wide_of h5) hp
  generalize prodL (dimsL lo hi) = r at *
  have P1 := fun W h1 h2 => Lib.hid (P1 W h1 h2)
  have hbl := one_below w #[.slice A n c, .slice B n d] 27
  have HA := Lib.hid (ha.below hbl); have HB := Lib.hid (hb.below hbl); have HBL := Lib.hid hbl
  rename_i q1
  clear ha hb hbl hr q1 h1 h2 h3 h4 h5
  go_enter Try.func14, Try.ntmps14
  go_wp2_with fail
  refine (P1 _ HA.out HB.out).out.mono ?_
  rintro e w1 ⟨rfl, rfl⟩
  go_wp2_with fail
  go_ret
  exact ⟨rfl, HBL.out⟩

set_option maxHeartbeats 2000000 in
theorem refRight_any (A B : Option Addr) (n c m d : Nat) (lo hi : List Int) (w : World) (hn : n ≤ maxLen) (hm : m ≤ maxLen) (ha : Rd w A n lo) (hb : Rd w B m hi) :
    Calls Try.prog 9 #[.agg #[.slice A n c, .slice B m d]] w (Says w (rgtB lo hi)) := by
  unfold maxLen at hn hm
  have hbl := one_below w #[.slice A n c, .slice B m d] 24
  have HA := Lib.hid (ha.below hbl); have HB := Lib.hid (hb.below hbl)
  have HLA := Lib.hid ha.1; have HLB := Lib.hid hb.1
  obtain ⟨V, hV⟩ : ∃ V, V = w.alloc (.cells #[.slice A n c, .slice B m d] 24) := ⟨_, rfl⟩
  have HK := Lib.hid (box2_new w (.slice A n c) (.slice B m d) 24)
  rw [← hV] at HA HB HK hbl
  have HBL := Lib.hid hbl
  have HV := Lib.hid hV
  clear ha hb hbl hV
  by_cases hnm : n = m
  · subst hnm
    by_cases h16 : 16 < n
    · have hr : rgtB lo hi = false := by unfold rgtB; rw [decide_eq_false (by rw [HLA.out]; omega)]; rfl
      rw [hr]
      clear hr
      go_enter Try.func9, Try.ntmps9
      go_wp2_with fail
      go_ret
      exact ⟨rfl, by have := HBL.out; rw [HV.out] at this; exact this⟩
    · obtain ⟨r, hr⟩ : ∃ r, r = endB lo hi := ⟨_, rfl⟩
      have hr2 : rgtB lo hi = r := by unfold rgtB; rw [decide_eq_true (by rw [HLA.out, HLB.out]; omega), hr]; rfl
      rw [hr2]
      have HR := Lib.hid hr
      clear hr hr2
      go_enter Try.func9, Try.ntmps9
      go_wp2_with fail
      rw [← HV.out]
      obtain ⟨k1, k2, _⟩ := HK.out
      go_loopw [3] (fun i wr => ∃ k q : Nat, k ≤ n ∧ i = .int .i64 k ∧ wr = V.drewN q ∧ Hid (endB lo hi = endB (lo.drop k) (hi.drop k))) (fun i _ => n - (intOf i).toNat)
      case atStart => exact ⟨0, 0, Nat.zero_le _, rfl, rfl, Lib.hid rfl⟩
      case round =>
        obtain ⟨k, q, hk, rfl, rfl, Hs⟩ := hrel
        by_cases hlt : k < n
        · obtain ⟨ad1, a, rfl, ha, hc1⟩ := HA.out.at_ hlt
          obtain ⟨ad2, b, rfl, hb, hc2⟩ := HB.out.at_ hlt
          have HS := Lib.hid (end_step ha hb)
          clear ha hb
          have hi1 : (k : Int) < (n : Int) := by omega
          by_cases hxa : a < 0
          · go_wp2_with fail
            go_quiet (fail)
            go_wp2_with fail
            go_ret
            exact ⟨ret_bool (by rw [HR.out, Hs.out, HS.out, decide_eq_false (by omega)]; rfl), below_drewN (below_drewN HBL.out _) _⟩
          · by_cases hbx : b < a
            · have hd1 : decide (a < 0) = false := decide_eq_false hxa
              go_wp2_with fail
              go_quiet (fail)
              go_wp2_with fail
              go_ret
              exact ⟨ret_bool (by rw [HR.out, Hs.out, HS.out, decide_eq_false (by omega)]; rfl), below_drewN (below_drewN HBL.out _) _⟩
            · have hd1 : decide (a < 0) = false := decide_eq_false hxa
              have hd2 : decide (b < a) = false := decide_eq_false hbx
              by_cases hbm : 65536 < b
              · go_wp2_with fail
                go_quiet (fail)
                go_wp2_with fail
                go_ret
                exact ⟨ret_bool (by rw [HR.out, Hs.out, HS.out, decide_eq_false (by omega)]; rfl), below_drewN (below_drewN HBL.out _) _⟩
              · have hd3 : decide (65536 < b) = false := decide_eq_false hbm
                go_wp2_with fail
                go_quiet (fail)
                go_wp2_with fail
                go_roundw
                case rel => exact ⟨k + 1, _, by omega, by go_num, by first | rfl | rw [World.drewN_drewN], Lib.hid (by rw [Hs.out, HS.out, decide_eq_true (by omega), Bool.true_and])⟩
                case measure => simp [intOf]; omega
        · have HE := Lib.hid (HR.out.trans (Hs.out.trans (end_end HLA.out hlt)))
          go_wp2_with fail
          go_ret
          exact ⟨ret_bool HE.out.symm, below_drewN HBL.out _⟩
  · have hr : rgtB lo hi = false := by unfold rgtB; rw [decide_eq_false (by rw [HLA.out, HLB.out]; omega)]; rfl
    rw [hr]
    clear hr
    have hnm' : ¬ (n : Int) = (m : Int) := by omega
    go_enter Try.func9, Try.ntmps9
    go_wp2_with fail
    go_ret
    exact ⟨rfl, by have := HBL.out; rw [HV.out] at this; exact this⟩
end Go.Proofs.Ytaegkiangjnmdaa.bx
