/- The walks of ShapeRight and ShapeEquals. -/
import Derived.Test.YtbjfflflegbfaaaDoorLawStrides
import Derived.Test.YtbjfflflegbfaaaDoorTextTab
import Derived.Test.YtbjfflflegbfaaaDoorTextApart
namespace Go.Proofs.YtbjfflflegbfaaaDoor.laws
open Go.ChangeShapes Go.WideShapes Go.ChangeAt Go.RowKit Go.Proofs.YtbjfflflegbfaaaDoor.mem Go.Proofs.YtbjfflflegbfaaaDoor.shp Go.Proofs.YtbjfflflegbfaaaDoor.eql Go.Proofs.YtbjfflflegbfaaaDoor.edit Go.Proofs.YtbjfflflegbfaaaDoor.redit Go.Proofs.YtbjfflflegbfaaaDoor.strd Go.Proofs.YtbjfflflegbfaaaDoor.txt
set_option linter.unusedVariables false

theorem right_great (A : Option Addr) (n c : Nat) (w : World) (hn : 300 < n) :
    Calls Tryd.prog 3 #[.slice A n c] w (Holds w) := by
  go_enter Tryd.func3, Tryd.ntmps3
  go_wp2_with fail
  refine (awake_true _).mono ?_
  rintro e w1 ⟨rfl, hb⟩
  have T1 := Lib.hid ((Aft.refl w).call hb)
  clear hb
  go_wp2_with fail
  refine (awake_true _).mono ?_
  rintro e w2 ⟨rfl, hb⟩
  have T2 := Lib.hid (T1.out.call hb)
  clear hb
  go_wp2_with fail
  go_ret
  exact ⟨rfl, T2.out⟩

set_option maxHeartbeats 1000000 in
theorem right_small (A : Option Addr) (n c : Nat) (xs : List Int) (w : World) (h : In w A n c xs) (ht : Tab w) (hn : n ≤ 300) :
    Calls Tryd.prog 3 #[.slice A n c] w (Holds w) := by
  have C1 := fun W hr => check_any A n c xs W h.len hr
  have C2 := fun W hr => refCheck_any A n c xs W h.len hr
  have D1 := fun W hr => cells_any A n c xs W h.len hr
  have D2 := fun W hr => refCells_any A n c xs W h.len hr
  have S1 := fun W hr => strides_any A n c xs W h.len hr
  have S2 := fun W hr => refStrides_any A n c xs W h.len hr
  have X1 := fun W hr ht => text_any A n c xs W (by omega) h.fit hr ht
  have X2 := fun W hr => refText_any A n c xs W (by omega) h.fit hr
  obtain ⟨L, hL⟩ : ∃ L, L = strL xs := ⟨_, rfl⟩
  have hLn : L.length ≤ maxLen := by
    rw [hL]; unfold strL
    have := h.len
    split
    · split
      · rw [List.length_replicate, h.rd.1]; exact this
      · rw [strF_len, h.rd.1]; exact this
    · simp
  rw [← hL] at S1 S2
  generalize strOf (textL xs) = T at *
  generalize chkE xs = E at *
  generalize celN xs = N at *
  have HX := Lib.hid h.rd
  have HL := Lib.hid hLn
  have C1 := Lib.hid C1; have C2 := Lib.hid C2; have D1 := Lib.hid D1; have D2 := Lib.hid D2; have S1 := Lib.hid S1; have S2 := Lib.hid S2; have X1 := Lib.hid X1; have X2 := Lib.hid X2
  rename_i q1 q2 q3 q4 q5 q6 q7 q8; clear q1 q2 q3 q4 q5 q6 q7 q8 h hLn hL
  have HT := Lib.hid ht; clear ht
  go_enter Tryd.func3, Tryd.ntmps3
  go_wp2_with fail
  refine (awake_true _).mono ?_
  rintro e w1 ⟨rfl, hb⟩
  have T1 := Lib.hid ((Aft.refl w).call hb)
  clear hb
  go_wp2_with fail
  refine (C1.out _ (T1.out.rd HX.out)).mono ?_
  rintro e w' ⟨rfl, rfl⟩
  go_wp2_with fail
  refine (C2.out _ (T1.out.rd HX.out)).mono ?_
  rintro e w' ⟨rfl, rfl⟩
  go_wp2_with fail
  refine (D1.out _ (T1.out.rd HX.out)).mono ?_
  rintro e w' ⟨rfl, rfl⟩
  go_wp2_with fail
  refine (D2.out _ (T1.out.rd HX.out)).mono ?_
  rintro e w' ⟨rfl, rfl⟩
  go_wp2_with fail
  refine (S1.out _ (T1.out.rd HX.out)).mono ?_
  intro e w2 hm
  obtain ⟨A2, c2, rfl, ho, hb, _, _, _⟩ := hm.out
  have T2 := Lib.hid (T1.out.call hb)
  have R2 := Lib.hid ho.rd
  clear hm ho hb
  go_wp2_with fail
  refine (S2.out _ (T2.out.rd HX.out)).mono ?_
  intro e w3 hm
  obtain ⟨A3, c3, rfl, ho, hb, _, _, _⟩ := hm.out
  have R23 := Lib.hid (R2.out.below hb)
  have T3 := Lib.hid (T2.out.call hb)
  have R3 := Lib.hid ho.rd
  clear hm ho hb
  go_wp2_with fail
  refine (refEqual_at true (eq_of rfl) HL.out HL.out R23.out R3.out).mono ?_
  rintro e w4 ⟨rfl, hb⟩
  have T4 := Lib.hid (T3.out.call hb)
  clear hb
  go_wp2_with fail
  refine (X1.out _ (T4.out.rd HX.out) (HT.out.below T4.out)).mono ?_
  rintro e w5 ⟨rfl, hb⟩
  have T5 := Lib.hid (T4.out.call hb)
  clear hb
  go_wp2_with fail
  refine (X2.out _ (T5.out.rd HX.out)).mono ?_
  rintro e w' ⟨rfl, rfl⟩
  go_wp2_with fail
  go_ret
  exact ⟨rfl, T5.out⟩

theorem walk_ShapeRight (A : Option Addr) (n c : Nat) (xs : List Int) (w : World) (h : In w A n c xs) (ht : Tab w) :
    Calls Tryd.prog 3 #[.slice A n c] w (Holds w) := by
  by_cases hn : 300 < n
  · exact right_great A n c w hn
  · exact right_small A n c xs w h ht (by omega)

theorem equals_great (A B : Option Addr) (n c m d : Nat) (w : World) (hn : 300 < n ∨ 300 < m) :
    Calls Tryd.prog 7 #[.slice A n c, .slice B m d] w (Holds w) := by
  have hn' : 300 < n ∨ (¬ 300 < n ∧ 300 < m) := by omega
  clear hn
  rcases hn' with hn | ⟨hn, hm⟩
  all_goals
    go_enter Tryd.func7, Tryd.ntmps7
    go_wp2_with fail
    refine (awake_true _).mono ?_
    rintro e w1 ⟨rfl, hb⟩
    have T1 := Lib.hid ((Aft.refl w).call hb)
    clear hb
    go_wp2_with fail
    refine (awake_true _).mono ?_
    rintro e w2 ⟨rfl, hb⟩
    have T2 := Lib.hid (T1.out.call hb)
    clear hb
    go_wp2_with fail
    go_ret
    exact ⟨rfl, T2.out⟩

set_option maxHeartbeats 1000000 in
theorem equals_small (A B : Option Addr) (n c m d : Nat) (xs ys : List Int) (r : Bool) (X Y : ByteArray) (w : World) (h : In w A n c xs) (g : In w B m d ys) (ht : Tab w) (hn : n ≤ 300) (hm : m ≤ 300)
    (hr : eqB xs ys = r) (hX : X = strOf (textL xs)) (hY : Y = strOf (textL ys)) (hXY : (X.toList == Y.toList) = r) :
    Calls Tryd.prog 7 #[.slice A n c, .slice B m d] w (Holds w) := by
  have X1 := fun W hr ht => text_any A n c xs W (by omega) h.fit hr ht
  have Y1 := fun W hr ht => text_any B m d ys W (by omega) g.fit hr ht
  rw [← hX] at X1
  rw [← hY] at Y1
  have HX := Lib.hid h.rd
  have HY := Lib.hid g.rd
  have HN := Lib.hid h.len
  have HM := Lib.hid g.len
  have HR := Lib.hid hr
  have X1 := Lib.hid X1; have Y1 := Lib.hid Y1
  rename_i q1 q2; clear q1 q2 h g hX hY hr
  have HT := Lib.hid ht; clear ht
  go_enter Tryd.func7, Tryd.ntmps7
  go_wp2_with fail
  refine (awake_true _).mono ?_
  rintro e w1 ⟨rfl, hb⟩
  have T1 := Lib.hid ((Aft.refl w).call hb)
  clear hb
  go_wp2_with fail
  refine (equal_at r HR.out HN.out HM.out (T1.out.rd HX.out) (T1.out.rd HY.out)).mono ?_
  rintro e w2 ⟨rfl, hb⟩
  have T2 := Lib.hid (T1.out.call hb)
  clear hb
  go_wp2_with fail
  refine (refEqual_at r HR.out HN.out HM.out (T2.out.rd HX.out) (T2.out.rd HY.out)).mono ?_
  rintro e w3 ⟨rfl, hb⟩
  have T3 := Lib.hid (T2.out.call hb)
  clear hb
  go_wp2_with fail
  refine (X1.out _ (T3.out.rd HX.out) (HT.out.below T3.out)).mono ?_
  rintro e w4 ⟨rfl, hb⟩
  have T4 := Lib.hid (T3.out.call hb)
  clear hb
  go_wp2_with fail
  refine (Y1.out _ (T4.out.rd HY.out) (HT.out.below T4.out)).mono ?_
  rintro e w5 ⟨rfl, hb⟩
  have T5 := Lib.hid (T4.out.call hb)
  clear hb
  go_wp2_with fail
  refine (refEqual_at r HR.out HN.out HM.out (T5.out.rd HX.out) (T5.out.rd HY.out)).mono ?_
  rintro e w6 ⟨rfl, hb⟩
  have T6 := Lib.hid (T5.out.call hb)
  clear hb
  go_wp2_with fail
  go_ret
  exact ⟨rfl, T6.out⟩

theorem walk_ShapeEquals (A B : Option Addr) (n c m d : Nat) (xs ys : List Int) (w : World) (h : In w A n c xs) (g : In w B m d ys) (ht : Tab w) :
    Calls Tryd.prog 7 #[.slice A n c, .slice B m d] w (Holds w) := by
  by_cases hn : 300 < n ∨ 300 < m
  · exact equals_great A B n c m d w hn
  · by_cases he : xs = ys
    · exact equals_small A B n c m d xs ys true _ _ w h g ht (by omega) (by omega) (eq_of he) rfl rfl (by rw [he, beq_self_eq_true])
    · exact equals_small A B n c m d xs ys false _ _ w h g ht (by omega) (by omega) (ne_of he) rfl rfl (by
        rw [beq_eq_false_iff_ne]
        intro e
        rw [ByteArray.toList_eq, ByteArray.toList_eq] at e
        exact he (text_inj (by simpa [txt.strOf] using e)))
end Go.Proofs.YtbjfflflegbfaaaDoor.laws
