/- The law ArrayCells. -/
import Derived.Test.YtbadbjcommdjgaaLawChecks5
namespace Go.Proofs.Ytbadbjcommdjgaa.laws
open Go.ChangeShapes Go.WideShapes Go.ChangeAt Go.RowKit Go.Proofs.Ytbadbjcommdjgaa.mem Go.Proofs.Ytbadbjcommdjgaa.shp Go.Proofs.Ytbadbjcommdjgaa.eql Go.Proofs.Ytbadbjcommdjgaa.gam Go.Proofs.Ytbadbjcommdjgaa.arr
set_option linter.unusedVariables false

theorem cells_few (A B Y : Option Addr) (n c m k l e : Nat) (s d : List Int) (w : World) (hn : n ≤ maxLen) (hm : m ≤ maxLen) (hl : l ≤ maxLen) (h : RdA w A n B m s d) (hf : fewA n m 1000 = false ∨ fewA n m 1000 = true ∧ 100 < l) :
    Calls Try.prog 4 #[.agg #[.slice A n c, .slice B m k], .slice Y l e] w (Holds w) := by
  have P1 := fun W => refFewA_any A B n c m k 1000 W hn hm
  have K0 := Lib.hid (keep_new (c := c) (k := k) h 25)
  clear h
  rcases hf with hf | ⟨hf, h100⟩
  all_goals
    rw [hf] at P1
    have P1 := fun W => Lib.hid (P1 W)
    rename_i q1; clear q1 hf
    unfold maxLen at hl
    go_enter Try.func4, Try.ntmps4
    go_wp2_with fail
    refine (awake_true _).mono ?_
    rintro e w1 ⟨rfl, hb⟩
    have K1 := Lib.hid (K0.out.call hb)
    obtain ⟨k1, k2, _⟩ := K1.out.box
    clear hb K0
    go_wp2_with fail
    refine (P1 _).out.mono ?_
    rintro e w2 ⟨rfl, hb⟩
    have K2 := Lib.hid (K1.out.call hb)
    clear hb K1 k1 k2
    go_wp2_with fail
    refine (awake_true _).mono ?_
    rintro e w3 ⟨rfl, hb⟩
    have K3 := Lib.hid (K2.out.call hb)
    clear hb K2
    go_wp2_with fail
    go_ret
    exact ⟨rfl, K3.out.aft⟩

theorem cells_wrong (A B Y : Option Addr) (n c m k l e : Nat) (s d ys : List Int) (w : World) (hn : n ≤ maxLen) (hm : m ≤ maxLen) (hl : l ≤ 100) (h : RdA w A n B m s d) (hf : fewA n m 1000 = true) (he : ¬ chkA s d = 0) :
    Calls Try.prog 4 #[.agg #[.slice A n c, .slice B m k], .slice Y l e] w (Holds w) := by
  have P1 := fun W => refFewA_any A B n c m k 1000 W hn hm
  rw [hf] at P1
  have P1 := fun W => Lib.hid (P1 W)
  have P2 := fun W h => Lib.hid (at_wrong A B Y n c m k l e s d [] W hn hm h he)
  have P3 := fun W h => Lib.hid (refArrCheck_any A B n c m k s d W hn hm h)
  have hne : (chkA s d == 0) = false := by simpa using he
  have K0 := Lib.hid (keep_new (c := c) (k := k) h 25)
  rename_i q1; clear q1 h hf he
  generalize chkA s d = E at *
  go_enter Try.func4, Try.ntmps4
  go_wp2_with fail
  refine (awake_true _).mono ?_
  rintro e w1 ⟨rfl, hb⟩
  have K1 := Lib.hid (K0.out.call hb)
  obtain ⟨k1, k2, _⟩ := K1.out.box
  clear hb K0
  go_wp2_with fail
  refine (P1 _).out.mono ?_
  rintro e w2 ⟨rfl, hb⟩
  have K2 := Lib.hid (K1.out.call hb)
  clear k1 k2
  obtain ⟨k1, k2, _⟩ := K2.out.box
  clear hb K1
  go_wp2_with fail
  refine (P2 _ K2.out.rd).out.mono ?_
  rintro e w3 ⟨rfl, hb⟩
  have K3 := Lib.hid (K2.out.call hb)
  clear k1 k2
  obtain ⟨k1, k2, _⟩ := K3.out.box
  clear hb K2
  go_wp2_with fail
  refine (P3 _ K3.out.rd).out.mono ?_
  rintro e w4 ⟨rfl, hb⟩
  have K4 := Lib.hid (K3.out.call hb)
  clear hb K3 k1 k2
  go_wp2_with fail
  go_ret
  exact ⟨rfl, K4.out.aft⟩

theorem cells_right (A B Y : Option Addr) (n c m k l e : Nat) (s d ys : List Int) (w : World) (hn : n ≤ maxLen) (hm : m ≤ maxLen) (hl : l ≤ 100) (h : RdA w A n B m s d) (hy : Rd w Y l ys) (hf : fewA n m 1000 = true) (he : chkA s d = 0) :
    Calls Try.prog 4 #[.agg #[.slice A n c, .slice B m k], .slice Y l e] w (Holds w) := by
  have hl' : l ≤ maxLen := by unfold maxLen; omega
  have P1 := fun W => refFewA_any A B n c m k 1000 W hn hm
  rw [hf] at P1
  have P1 := fun W => Lib.hid (P1 W)
  obtain ⟨x, b, P2, P4⟩ : ∃ x b, (∀ W, RdA W A n B m s d → Rd W Y l ys → Calls Try.prog 14 #[.agg #[.slice A n c, .slice B m k], .slice Y l e] W (Cell W x b)) ∧ (∀ W, RdA W A n B m s d → Rd W Y l ys → Calls Try.prog 15 #[.agg #[.slice A n c, .slice B m k], .slice Y l e] W (Cell W x b)) := by
    cases hv : vldB s ys
    · exact ⟨0, false, fun W h1 h2 => at_out A B Y n c m k l e s d ys W hn hm hl' h1 h2 he hv, fun W h1 h2 => refAt_out A B Y n c m k l e s d ys W hn hm hl' h1 h2 he hv⟩
    · exact ⟨_, true, fun W h1 h2 => at_in A B Y n c m k l e s d ys W hn hm hl' h1 h2 he hv, fun W h1 h2 => refAt_in A B Y n c m k l e s d ys W hn hm hl' h1 h2 he hv⟩
  have P2 := fun W h1 h2 => Lib.hid (P2 W h1 h2)
  have P4 := fun W h1 h2 => Lib.hid (P4 W h1 h2)
  have P3 := fun W h => Lib.hid (he ▸ refArrCheck_any A B n c m k s d W hn hm h)
  have K0 := Lib.hid (keep_new (c := c) (k := k) h 25)
  have Y0 := Lib.hid (hy.below (one_below w #[.slice A n c, .slice B m k] 25))
  rename_i q1 q2 q3; clear q1 q2 q3 h hf he hy hl'
  go_enter Try.func4, Try.ntmps4
  go_wp2_with fail
  refine (awake_true _).mono ?_
  rintro e w1 ⟨rfl, hb⟩
  have K1 := Lib.hid (K0.out.call hb)
  have Y1 := Lib.hid (Y0.out.below hb)
  obtain ⟨k1, k2, _⟩ := K1.out.box
  clear hb K0 Y0
  go_wp2_with fail
  refine (P1 _).out.mono ?_
  rintro e w2 ⟨rfl, hb⟩
  have K2 := Lib.hid (K1.out.call hb)
  have Y2 := Lib.hid (Y1.out.below hb)
  clear k1 k2
  obtain ⟨k1, k2, _⟩ := K2.out.box
  clear hb K1 Y1
  go_wp2_with fail
  refine (P2 _ K2.out.rd Y2.out).out.mono ?_
  rintro e w3 ⟨rfl, hb⟩
  have K3 := Lib.hid (K2.out.call hb)
  have Y3 := Lib.hid (Y2.out.below hb)
  clear k1 k2
  obtain ⟨k1, k2, _⟩ := K3.out.box
  clear hb K2 Y2
  go_wp2_with fail
  refine (P3 _ K3.out.rd).out.mono ?_
  rintro e w4 ⟨rfl, hb⟩
  have K4 := Lib.hid (K3.out.call hb)
  have Y4 := Lib.hid (Y3.out.below hb)
  clear k1 k2
  obtain ⟨k1, k2, _⟩ := K4.out.box
  clear hb K3 Y3
  go_wp2_with fail
  refine (P4 _ K4.out.rd Y4.out).out.mono ?_
  rintro e w5 ⟨rfl, hb⟩
  have K5 := Lib.hid (K4.out.call hb)
  clear hb K4 Y4 k1 k2
  go_wp2_with fail
  go_ret
  exact ⟨ret_bool (by simp), K5.out.aft⟩

theorem walk_ArrayCells (A B Y : Option Addr) (n c m k l e : Nat) (s d ys : List Int) (w : World) (hs : In w A n c s) (hd : In w B m k d) (hy : In w Y l e ys) :
    Calls Try.prog 4 #[.agg #[.slice A n c, .slice B m k], .slice Y l e] w (Holds w) := by
  have h : RdA w A n B m s d := ⟨hs.rd, hd.rd⟩
  cases hf : fewA n m 1000
  · exact cells_few A B Y n c m k l e s d w hs.len hd.len hy.len h (.inl hf)
  · by_cases h100 : 100 < l
    · exact cells_few A B Y n c m k l e s d w hs.len hd.len hy.len h (.inr ⟨hf, h100⟩)
    · by_cases he : chkA s d = 0
      · exact cells_right A B Y n c m k l e s d ys w hs.len hd.len (by omega) h hy.rd hf he
      · exact cells_wrong A B Y n c m k l e s d ys w hs.len hd.len (by omega) h hf he
end Go.Proofs.Ytbadbjcommdjgaa.laws
