/- The walk of LexTokens. -/
import Derived.Test.YtklmchhojopfiaaDoorLexAwake
import Derived.Test.YtklmchhojopfiaaDoorLexLaid
import Derived.Test.YtklmchhojopfiaaDoorLexLawMath
import Derived.Test.YtklmchhojopfiaaDoorRefToks
namespace Go.Proofs.YtklmchhojopfiaaDoor.lx
open Go.ChangeShapes Go.WideShapes Go.ChangeAt Go.RowKit Go.Proofs.YtklmchhojopfiaaDoor.mem Go.Proofs.YtklmchhojopfiaaDoor.txt
set_option linter.unusedVariables false

theorem ok_two (l : List UInt8) : okI l = if okB l then 0 else 1 := by unfold okI okB; rfl
set_option maxHeartbeats 4000000 in
set_option maxRecDepth 100000 in
theorem tokens_between (l : List UInt8) (w : World) (hl : Lays w) (h1 : 3000 < l.length) (h2 : l.length ≤ 65536) : Calls Tryd.prog 3 #[.string (strOf l)] w (Holds w) := by
  have AW := Lib.hid (fun W h => awake_true W h)
  have hz := strOf_size l
  have HL := Lib.hid hl
  have g1 : (3000 : Int) < l.length := by omega
  have g2 : (l.length : Int) ≤ 65536 := by omega
  clear hl
  go_enter Tryd.func3, Tryd.ntmps3
  go_wp2_with fail
  refine (AW.out _ HL.out).mono ?_
  rintro e w1 ⟨rfl, hb⟩
  have T1 := Lib.hid ((Aft.refl w).call hb); clear hb
  go_wp2_with fail
  refine (AW.out _ (HL.out.below T1.out)).mono ?_
  rintro e w2 ⟨rfl, hb⟩
  have T2 := Lib.hid (T1.out.call hb); clear hb
  go_wp2_with fail
  go_ret
  exact ⟨rfl, T2.out⟩
set_option maxHeartbeats 4000000 in
set_option maxRecDepth 100000 in
theorem tokens_outside (l : List UInt8) (w : World) (hl : Lays w) (hm : l.length ≤ 9223372036854775807) (h : l.length ≤ 3000 ∨ (3000 < l.length ∧ 65536 < l.length)) : Calls Tryd.prog 3 #[.string (strOf l)] w (Holds w) := by
  have AW := Lib.hid (fun W h => awake_true W h)
  have hz := strOf_size l
  have HL := Lib.hid hl
  have KT := Lib.hid (fun W h => tokens_any l hm W h)
  have KR := Lib.hid (fun W => refTokens_any (strOf l) (by rw [hz]; exact hm) W)
  have KN := Lib.hid (fun W => name_any l W (by omega))
  have KM := Lib.hid (fun W => refName_any (strOf l) W (by rw [hz]; exact hm))
  rw [bl_str] at KR KM
  have hok := ok_two l
  have hLL := tokL_len l
  have KB := Lib.hid (fun A c W h => back_any A (tokL l).length c (tokL l) W (by omega) h)
  have KS := Lib.hid (fun A B c d W h h' => same_any A B (tokL l).length c d (tokL l) W (by omega) h h')
  obtain ⟨ok, hok'⟩ : ∃ b, b = okB l := ⟨_, rfl⟩
  obtain ⟨e0, he0⟩ : ∃ b, b = okI l := ⟨_, rfl⟩
  obtain ⟨nm, hnm⟩ : ∃ b, b = nameB l := ⟨_, rfl⟩
  rw [← hok', ← he0] at hok
  rw [← he0] at KT
  rw [← hok'] at KR
  rw [← hnm] at KN KM
  obtain ⟨L, hL⟩ : ∃ L, L = tokL l := ⟨_, rfl⟩
  rw [← hL] at KT KR KB KS
  clear hl hok' he0 hnm hL hLL hm
  rcases h with h | ⟨h, h'⟩
  · have g1 : ¬ (3000 : Int) < l.length := by omega
    clear h
    cases ok
    all_goals
      simp only [if_true, Bool.false_eq_true, if_false] at hok
      subst hok
      go_enter Tryd.func3, Tryd.ntmps3
      go_wp2_with fail
      refine (AW.out _ HL.out).mono ?_
      rintro e w1 ⟨rfl, hb⟩
      have T1 := Lib.hid ((Aft.refl w).call hb); clear hb
      go_wp2_with fail
      refine (KT.out _ (HL.out.below T1.out)).mono ?_
      rintro e w2 ⟨A1, c1, rfl, ho, hb⟩
      have R1 := Lib.hid ho.rd
      have T1 := Lib.hid (T1.out.call hb); clear hb ho
      go_wp2_with fail
      refine (KR.out _).mono ?_
      rintro e w3 ⟨A2, c2, rfl, ho, hb⟩
      have R1 := Lib.hid (R1.out.below hb)
      have R2 := Lib.hid ho.rd
      have T1 := Lib.hid (T1.out.call hb); clear hb ho
      go_wp2_with fail
      refine (KB.out A1 c1 _ R1.out).mono ?_
      rintro e w4 ⟨A3, c3, rfl, ho, hb⟩
      have R3 := Lib.hid ho.rd
      have R2 := Lib.hid (R2.out.below hb)
      have T1 := Lib.hid (T1.out.call hb); clear hb ho
      go_wp2_with fail
      refine (KS.out A3 A2 c3 c2 _ R3.out R2.out).mono ?_
      rintro e w5 ⟨rfl, q, rfl⟩
      have T1 := Lib.hid (T1.out.drew q)
      go_wp2_with fail
      refine (KN.out _).mono ?_
      rintro e w6 ⟨rfl, hb⟩
      have T1 := Lib.hid (T1.out.call hb); clear hb
      go_wp2_with fail
      refine (KM.out _).mono ?_
      rintro e w7 ⟨rfl, rfl⟩
      go_wp2_with fail
      go_ret
      exact ⟨rfl, T1.out⟩
  · have g1 : (3000 : Int) < l.length := by omega
    have g2 : ¬ (l.length : Int) ≤ 65536 := by omega
    clear h h'
    cases ok
    all_goals
      simp only [if_true, Bool.false_eq_true, if_false] at hok
      subst hok
      go_enter Tryd.func3, Tryd.ntmps3
      go_wp2_with fail
      refine (AW.out _ HL.out).mono ?_
      rintro e w1 ⟨rfl, hb⟩
      have T1 := Lib.hid ((Aft.refl w).call hb); clear hb
      go_wp2_with fail
      refine (KT.out _ (HL.out.below T1.out)).mono ?_
      rintro e w2 ⟨A1, c1, rfl, ho, hb⟩
      have R1 := Lib.hid ho.rd
      have T1 := Lib.hid (T1.out.call hb); clear hb ho
      go_wp2_with fail
      refine (KR.out _).mono ?_
      rintro e w3 ⟨A2, c2, rfl, ho, hb⟩
      have R1 := Lib.hid (R1.out.below hb)
      have R2 := Lib.hid ho.rd
      have T1 := Lib.hid (T1.out.call hb); clear hb ho
      go_wp2_with fail
      refine (KB.out A1 c1 _ R1.out).mono ?_
      rintro e w4 ⟨A3, c3, rfl, ho, hb⟩
      have R3 := Lib.hid ho.rd
      have R2 := Lib.hid (R2.out.below hb)
      have T1 := Lib.hid (T1.out.call hb); clear hb ho
      go_wp2_with fail
      refine (KS.out A3 A2 c3 c2 _ R3.out R2.out).mono ?_
      rintro e w5 ⟨rfl, q, rfl⟩
      have T1 := Lib.hid (T1.out.drew q)
      go_wp2_with fail
      refine (KN.out _).mono ?_
      rintro e w6 ⟨rfl, hb⟩
      have T1 := Lib.hid (T1.out.call hb); clear hb
      go_wp2_with fail
      refine (KM.out _).mono ?_
      rintro e w7 ⟨rfl, rfl⟩
      go_wp2_with fail
      go_ret
      exact ⟨rfl, T1.out⟩
theorem walk_LexTokens (s : ByteArray) (hs : s.size ≤ maxLen) (w : World) (hl : Lays w) : Calls Tryd.prog 3 #[.string s] w (Holds w) := by
  unfold maxLen at hs
  rw [← str_bl s]
  have hz := bl_size s
  by_cases h1 : (bl s).length ≤ 3000
  · exact tokens_outside _ w hl (by omega) (.inl h1)
  · by_cases h2 : (bl s).length ≤ 65536
    · exact tokens_between _ w hl (by omega) h2
    · exact tokens_outside _ w hl (by omega) (.inr ⟨by omega, by omega⟩)
end Go.Proofs.YtklmchhojopfiaaDoor.lx
