/- The law ArrayChecks. -/
import Derived.Test.YtbadbjcommdjgaaArrAwake
namespace Go.Proofs.Ytbadbjcommdjgaa.laws
open Go.ChangeShapes Go.WideShapes Go.ChangeAt Go.RowKit Go.Proofs.Ytbadbjcommdjgaa.mem Go.Proofs.Ytbadbjcommdjgaa.shp Go.Proofs.Ytbadbjcommdjgaa.eql Go.Proofs.Ytbadbjcommdjgaa.gam Go.Proofs.Ytbadbjcommdjgaa.arr
set_option linter.unusedVariables false

/-- What a law knows of an array that came in, and of its own copy of the struct, in a later world. -/
structure Keep (w V : World) (b : Nat) (A : Option Addr) (n c : Nat) (B : Option Addr) (m k : Nat) (s d : List Int) : Prop where
  aft : Aft w V
  box : Box2 V b (.slice A n c) (.slice B m k)
  rd : RdA V A n B m s d
theorem Keep.call {w V V' : World} {b n c m k : Nat} {A B : Option Addr} {s d : List Int} (h : Keep w V b A n c B m k s d) (hb : Below V.heap.size V V') : Keep w V' b A n c B m k s d := ⟨h.aft.call hb, h.box.below hb, h.rd.below hb⟩
theorem keep_new {w : World} {n c m k : Nat} {A B : Option Addr} {s d : List Int} (h : RdA w A n B m s d) (t : TypeId) : Keep w (w.alloc (.cells #[.slice A n c, .slice B m k] t)) w.heap.size A n c B m k s d :=
  ⟨one_below w _ _, box2_new _ _ _ _, h.below (one_below _ _ _)⟩

theorem checks_few (A B : Option Addr) (n c m k : Nat) (s d : List Int) (w : World) (hn : n ≤ maxLen) (hm : m ≤ maxLen) (h : RdA w A n B m s d) (hf : fewA n m 70000 = false) :
    Calls Try.prog 3 #[.agg #[.slice A n c, .slice B m k]] w (Holds w) := by
  have P1 := fun W => refFewA_any A B n c m k 70000 W hn hm
  rw [hf] at P1
  have P1 := fun W => Lib.hid (P1 W)
  have K0 := Lib.hid (keep_new (c := c) (k := k) h 25)
  rename_i q1; clear q1 h hf
  go_enter Try.func3, Try.ntmps3
  go_wp2_with fail
  refine (awake_true _).mono ?_
  rintro e w1 ⟨rfl, hb⟩
  have K1 := Lib.hid (K0.out.call hb)
  obtain ⟨k1, k2, _⟩ := K1.out.box
  clear hb K0
  go_wp2_with fail
  refine (P1 _).out.mono ?_
  rintro e w2 ⟨rfl, hb⟩
  have K2 := Lib.hid (K1.out.call hb)
  clear hb K1 k1 k2
  go_wp2_with fail
  refine (awake_true _).mono ?_
  rintro e w3 ⟨rfl, hb⟩
  have K3 := Lib.hid (K2.out.call hb)
  clear hb K2
  go_wp2_with fail
  go_ret
  exact ⟨rfl, K3.out.aft⟩

theorem checks_wrong (A B : Option Addr) (n c m k : Nat) (s d : List Int) (w : World) (hn : n ≤ 1099511627776) (hm : m ≤ 1099511627776) (h : RdA w A n B m s d) (hf : fewA n m 70000 = true) (he : ¬ chkA s d = 0) :
    Calls Try.prog 3 #[.agg #[.slice A n c, .slice B m k]] w (Holds w) := by
  have hn' : n ≤ maxLen := by unfold maxLen; omega
  have hm' : m ≤ maxLen := by unfold maxLen; omega
  have P1 := fun W => refFewA_any A B n c m k 70000 W hn' hm'
  rw [hf] at P1
  have P1 := fun W => Lib.hid (P1 W)
  have P2 := fun W h => Lib.hid (new_wrong A B n c m k s d W hn hm h he)
  have P3 := fun W h => Lib.hid (refArrCheck_any A B n c m k s d W hn' hm' h)
  have P4 := fun W h => Lib.hid (arrCheck_any A B n c m k s d W hn' hm' h)
  have hne : (chkA s d == 0) = false := by simpa using he
  have K0 := Lib.hid (keep_new (c := c) (k := k) h 25)
  rename_i q1; clear q1 h hf he hn' hm'
  generalize chkA s d = E at *
  go_enter Try.func3, Try.ntmps3
  go_wp2_with fail
  refine (awake_true _).mono ?_
  rintro e w1 ⟨rfl, hb⟩
  have K1 := Lib.hid (K0.out.call hb)
  obtain ⟨k1, k2, _⟩ := K1.out.box
  clear hb K0
  go_wp2_with fail
  refine (P1 _).out.mono ?_
  rintro e w2 ⟨rfl, hb⟩
  have K2 := Lib.hid (K1.out.call hb)
  clear k1 k2
  obtain ⟨k1, k2, _⟩ := K2.out.box
  clear hb K1
  go_wp2_with fail
  refine (P2 _ K2.out.rd).out.mono ?_
  rintro e w3 ⟨rfl, hb⟩
  have hb3 := below_more hb (.cells #[.slice none 0 0, .slice none 0 0] 25)
  have K3 := Lib.hid (K2.out.call hb3)
  have B3 := Lib.hid (box2_new w3 (.slice none 0 0) (.slice none 0 0) 25)
  clear k1 k2
  obtain ⟨k1, k2, _⟩ := (K2.out.call hb).box
  clear hb hb3 K2
  go_wp2_with fail
  refine (P3 _ K3.out.rd).out.mono ?_
  rintro e w4 ⟨rfl, hb⟩
  have K4 := Lib.hid (K3.out.call hb)
  have B4 := Lib.hid (B3.out.below hb)
  clear k1 k2
  obtain ⟨k1, k2, _⟩ := K4.out.box
  clear hb K3 B3
  go_wp2_with fail
  refine (P4 _ K4.out.rd).out.mono ?_
  rintro e w5 ⟨rfl, hb⟩
  have K5 := Lib.hid (K4.out.call hb)
  have B5 := Lib.hid (B4.out.below hb)
  clear k1 k2
  obtain ⟨k1, k2, _⟩ := B5.out
  clear hb K4 B4
  go_wp2_with fail
  refine (refArrEqual_at (s := []) (d := []) (s' := []) (d' := []) true (by decide) (by decide) (by decide) (by decide) (by decide) ⟨Rd.nil_, Rd.nil_⟩ ⟨Rd.nil_, Rd.nil_⟩).mono ?_
  rintro e w6 ⟨rfl, hb⟩
  have K6 := Lib.hid (K5.out.call hb)
  clear hb K5 k1 k2
  go_wp2_with fail
  go_ret
  exact ⟨rfl, K6.out.aft⟩

theorem checks_right (A B : Option Addr) (n c m k : Nat) (s d : List Int) (w : World) (hn : n ≤ 1099511627776) (hm : m ≤ 1099511627776) (h : RdA w A n B m s d) (hf : fewA n m 70000 = true) (he : chkA s d = 0) :
    Calls Try.prog 3 #[.agg #[.slice A n c, .slice B m k]] w (Holds w) := by
  have hn' : n ≤ maxLen := by unfold maxLen; omega
  have hm' : m ≤ maxLen := by unfold maxLen; omega
  have P1 := fun W => refFewA_any A B n c m k 70000 W hn' hm'
  rw [hf] at P1
  have P1 := fun W => Lib.hid (P1 W)
  have P2 := fun W h => Lib.hid (new_right A B n c m k s d W hn hm h he)
  have P3 := fun W h => Lib.hid (he ▸ refArrCheck_any A B n c m k s d W hn' hm' h)
  have P4 := fun W h => Lib.hid (he ▸ arrCheck_any A B n c m k s d W hn' hm' h)
  have P5 := fun A' B' c' k' W h => Lib.hid (refArrEqual_at (A := A') (B := B') (A' := A) (B' := B) (n := n) (c := c') (m := m) (k := k') (n' := n) (c' := c) (m' := m) (k' := k) (s := s) (d := d) (s' := s) (d' := d) (w := W) true eqA_of hn' hm' hn' hm' h)
  have K0 := Lib.hid (keep_new (c := c) (k := k) h 25)
  rename_i q1; clear q1 h hf he hn' hm'
  go_enter Try.func3, Try.ntmps3
  go_wp2_with fail
  refine (awake_true _).mono ?_
  rintro e w1 ⟨rfl, hb⟩
  have K1 := Lib.hid (K0.out.call hb)
  obtain ⟨k1, k2, _⟩ := K1.out.box
  clear hb K0
  go_wp2_with fail
  refine (P1 _).out.mono ?_
  rintro e w2 ⟨rfl, hb⟩
  have K2 := Lib.hid (K1.out.call hb)
  clear k1 k2
  obtain ⟨k1, k2, _⟩ := K2.out.box
  clear hb K1
  go_wp2_with fail
  refine (P2 _ K2.out.rd).out.mono ?_
  rintro e w3 ⟨A3, c3, B3, j3, rfl, ho1, ho2, hb⟩
  have hb3 := below_more hb (.cells #[.slice A3 n c3, .slice B3 m j3] 25)
  have K3 := Lib.hid (K2.out.call hb3)
  have B3' := Lib.hid (box2_new w3 (.slice A3 n c3) (.slice B3 m j3) 25)
  have R3 := Lib.hid ((MakesA.rda ho1 ho2).below (one_below w3 #[.slice A3 n c3, .slice B3 m j3] 25))
  clear k1 k2
  obtain ⟨k1, k2, _⟩ := (K2.out.call hb).box
  clear hb hb3 K2 ho1 ho2
  go_wp2_with fail
  refine (P3 _ K3.out.rd).out.mono ?_
  rintro e w4 ⟨rfl, hb⟩
  have K4 := Lib.hid (K3.out.call hb)
  have B4 := Lib.hid (B3'.out.below hb)
  have R4 := Lib.hid (R3.out.below hb)
  clear k1 k2
  obtain ⟨k1, k2, _⟩ := K4.out.box
  clear hb K3 B3' R3
  go_wp2_with fail
  refine (P4 _ K4.out.rd).out.mono ?_
  rintro e w5 ⟨rfl, hb⟩
  have K5 := Lib.hid (K4.out.call hb)
  have B5 := Lib.hid (B4.out.below hb)
  have R5 := Lib.hid (R4.out.below hb)
  clear k1 k2
  obtain ⟨k1, k2, _⟩ := K5.out.box
  obtain ⟨k3, k4, _⟩ := B5.out
  clear hb K4 B4 R4
  go_wp2_with fail
  refine (P5 _ _ _ _ _ R5.out).out K5.out.rd |>.mono ?_
  rintro e w6 ⟨rfl, hb⟩
  have K6 := Lib.hid (K5.out.call hb)
  clear hb K5 k1 k2 k3 k4
  go_wp2_with fail
  go_ret
  exact ⟨rfl, K6.out.aft⟩

theorem walk_ArrayChecks (A B : Option Addr) (n c m k : Nat) (s d : List Int) (w : World) (hs : In w A n c s) (hd : In w B m k d) :
    Calls Try.prog 3 #[.agg #[.slice A n c, .slice B m k]] w (Holds w) := by
  have h : RdA w A n B m s d := ⟨hs.rd, hd.rd⟩
  cases hf : fewA n m 70000
  · exact checks_few A B n c m k s d w hs.len hd.len h hf
  · have hb := of_decide_eq_true hf
    by_cases he : chkA s d = 0
    · exact checks_right A B n c m k s d w (by omega) (by omega) h hf he
    · exact checks_wrong A B n c m k s d w (by omega) (by omega) h hf he
end Go.Proofs.Ytbadbjcommdjgaa.laws
