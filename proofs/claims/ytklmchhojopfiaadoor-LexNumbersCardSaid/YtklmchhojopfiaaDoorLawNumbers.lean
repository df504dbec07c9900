/- The walk of LexNumbers. -/
import Derived.Test.YtklmchhojopfiaaDoorLexAwake
import Derived.Test.YtklmchhojopfiaaDoorLexLaid
import Derived.Test.YtklmchhojopfiaaDoorLexLawMath
namespace Go.Proofs.YtklmchhojopfiaaDoor.lx
open Go.ChangeShapes Go.WideShapes Go.ChangeAt Go.RowKit Go.Proofs.YtklmchhojopfiaaDoor.mem Go.Proofs.YtklmchhojopfiaaDoor.txt
set_option linter.unusedVariables false

set_option maxHeartbeats 4000000 in
set_option maxRecDepth 100000 in
theorem walk_LexNumbers (n : Int) (h1 : -9223372036854775808 ≤ n) (h2 : n ≤ 9223372036854775807) (w : World) (hl : Lays w) : Calls Tryd.prog 4 #[.int .i64 n] w (Holds w) := by
  have AW := Lib.hid (fun W h => awake_true W h)
  have HL := Lib.hid hl
  have KD := Lib.hid (fun W h => decimal7_any n h1 h2 W h)
  have KE := Lib.hid (fun W => refDecimal7_any n h1 h2 W)
  have hdl := decL_len n h1 h2
  have t1 := toks_of (tok_dec_blanks n h1 h2) (by simp only [List.length_append, List.length_cons, List.length_nil]; omega)
  have t2 := toks_not (tok_dec_letter n) (by simp only [List.length_append, List.length_cons, List.length_nil]; omega)
  obtain ⟨M, hM, hMl⟩ := tok_letter_dec n h1 h2
  have t3 := toks_of hM (by simp only [List.length_append, List.length_cons, List.length_nil]; omega)
  have K1 := Lib.hid (fun W h => tokens_any ([32] ++ decL n ++ [9]) (by simp only [List.length_append, List.length_cons, List.length_nil]; omega) W h)
  have K2 := Lib.hid (fun W h => tokens_any (decL n ++ [97]) (by simp only [List.length_append, List.length_cons, List.length_nil]; omega) W h)
  have K3 := Lib.hid (fun W h => tokens_any ([97] ++ decL n) (by simp only [List.length_append, List.length_cons, List.length_nil]; omega) W h)
  rw [t1.1, t1.2] at K1
  rw [t2.1, t2.2] at K2
  rw [t3.1, t3.2] at K3
  have hst := toList_str (decL n)
  obtain ⟨D, hD⟩ : ∃ D, D = decL n := ⟨_, rfl⟩
  rw [← hD] at KD KE K1 K2 K3 hst hdl
  have c1 : ∀ W, (Op.stringOp .add ⟨#[32]⟩ (strOf D)).run Tryd.prog W = .ok (.string (txt.strOf (([32] : List UInt8) ++ D))) W := cat_run [32] D (by simp only [List.length_cons, List.length_nil]; omega)
  have c2 : ∀ W, (Op.stringOp .add (txt.strOf (([32] : List UInt8) ++ D)) ⟨#[9]⟩).run Tryd.prog W = .ok (.string (txt.strOf (([32] : List UInt8) ++ D ++ [9]))) W := cat_run ([32] ++ D) [9] (by simp only [List.length_append, List.length_cons, List.length_nil]; omega)
  have c3 : ∀ W, (Op.stringOp .add (strOf D) ⟨#[97]⟩).run Tryd.prog W = .ok (.string (txt.strOf (D ++ ([97] : List UInt8)))) W := cat_run D [97] (by simp only [List.length_cons, List.length_nil]; omega)
  have c4 : ∀ W, (Op.stringOp .add ⟨#[97]⟩ (strOf D)).run Tryd.prog W = .ok (.string (txt.strOf (([97] : List UInt8) ++ D))) W := cat_run [97] D (by simp only [List.length_cons, List.length_nil]; omega)
  obtain ⟨x1, hx1⟩ : ∃ x, x = (([32] : List UInt8) ++ D) := ⟨_, rfl⟩
  rw [← hx1] at c1 c2 K1
  obtain ⟨x2, hx2⟩ : ∃ x, x = x1 ++ ([9] : List UInt8) := ⟨_, rfl⟩
  rw [← hx2] at c2 K1
  obtain ⟨x3, hx3⟩ : ∃ x, x = D ++ ([97] : List UInt8) := ⟨_, rfl⟩
  rw [← hx3] at c3 K2
  obtain ⟨x4, hx4⟩ : ∃ x, x = ([97] : List UInt8) ++ D := ⟨_, rfl⟩
  rw [← hx4] at c4 K3
  obtain ⟨ml, hml⟩ : ∃ ml, ml = M.length := ⟨_, rfl⟩
  have HML := Lib.hid hml.symm
  rw [← hml] at hMl
  clear t1 t2 t3 hM hD hx1 hx2 hx3 hx4 hl hml
  by_cases hn : n < 0
  all_goals
    simp only [hn, if_true, if_false] at hMl
    subst hMl
    go_enter Tryd.func4, Tryd.ntmps4
    go_wp2_with fail
    refine (AW.out _ HL.out).mono ?_
    rintro e w1 ⟨rfl, hb⟩
    have T1 := Lib.hid ((Aft.refl w).call hb); clear hb
    go_wp2_with fail
    refine (KD.out _ (HL.out.below T1.out)).mono ?_
    rintro e w2 ⟨rfl, hb⟩
    have T1 := Lib.hid (T1.out.call hb); clear hb
    go_wp2_with fail
    refine (K1.out _ (HL.out.below T1.out)).mono ?_
    rintro e w3 ⟨A1, d1, rfl, ho, hb⟩
    have R1 := Lib.hid ho.rd
    have T1 := Lib.hid (T1.out.call hb); clear hb ho
    go_wp2_with fail
    refine (K2.out _ (HL.out.below T1.out)).mono ?_
    rintro e w4 ⟨A2, d2, rfl, _, hb⟩
    have R1 := Lib.hid (R1.out.below hb)
    have T1 := Lib.hid (T1.out.call hb); clear hb
    go_wp2_with fail
    refine (K3.out _ (HL.out.below T1.out)).mono ?_
    rintro e w5 ⟨A3, d3, rfl, _, hb⟩
    rw [HML.out]
    have R1 := Lib.hid (R1.out.below hb)
    have T1 := Lib.hid (T1.out.call hb); clear hb
    obtain ⟨ad, rfl, _, y1, y2, y3⟩ := R1.out.2 0 _ rfl
    replace y2 := cell_snd y2; replace y3 := cell_trd y3
    have ha0 : ad.add (0 * 3) = ad := by unfold Addr.add; simp
    rw [ha0] at y1 y2 y3
    clear ha0
    simp only [] at y1 y2 y3
    go_wp2_with fail
    refine (KE.out _).mono ?_
    rintro e w6 ⟨rfl, rfl⟩
    go_wp2_with fail
    go_ret
    exact ⟨by first | rfl | (show Ending.returned (Value.bool (!decide (n < 0))) = _; rw [decide_eq_false (by omega)]; rfl), T1.out⟩
end Go.Proofs.YtklmchhojopfiaaDoor.lx
