/- The walk of GammaMatchesReference. -/
import Derived.Test.YtehpigijlgkokaaGammaAwake
namespace Go.Proofs.Ytehpigijlgkokaa.laws
open Go.ChangeShapes Go.WideShapes Go.ChangeAt Go.RowKit Go.Proofs.Ytehpigijlgkokaa.mem Go.Proofs.Ytehpigijlgkokaa.shp Go.Proofs.Ytehpigijlgkokaa.eql Go.Proofs.Ytehpigijlgkokaa.strd Go.Proofs.Ytehpigijlgkokaa.gam
set_option linter.unusedVariables false


/-- The shape is wrong, or the list is long: awake again. -/
theorem matches_wrong (A B : Option Addr) (n c m d : Nat) (xs ys : List Int) (o : Int) (w : World) (hx : In w A n c xs) (hy : In w B m d ys) (h : ¬ chkE xs = 0 ∨ 100 < m) :
    Calls Try.prog 3 #[.slice A n c, .slice B m d, .int .i64 o] w (Holds w) := by
  have PC := fun W h => refCheck_any A n c xs W hx.len h
  have HX := Lib.hid hx.rd; clear hx hy
  by_cases h0 : chkE xs = 0
  · have h100 : 100 < m := by omega
    rw [h0] at PC
    have PC := fun W h => Lib.hid (PC W h)
    rename_i q1; clear q1 h h0
    go_enter Try.func3, Try.ntmps3
    go_wp2_with fail
    refine (awake_true _).mono ?_
    rintro e w1 ⟨rfl, hb⟩
    have T1 := Lib.hid ((Aft.refl w).call hb)
    clear hb
    go_wp2_with fail
    refine (PC _ (T1.out.rd HX.out)).out.mono ?_
    rintro e w' ⟨rfl, rfl⟩
    go_wp2_with fail
    refine (awake_true _).mono ?_
    rintro e w2 ⟨rfl, hb⟩
    have T2 := Lib.hid (T1.out.call hb)
    clear hb
    go_wp2_with fail
    go_ret
    exact ⟨rfl, T2.out⟩
  · have h01 : (chkE xs != 0) = true := by simpa using h0
    generalize chkE xs = E at *
    have PC := fun W h => Lib.hid (PC W h)
    rename_i q1; clear q1 h h0
    go_enter Try.func3, Try.ntmps3
    go_wp2_with fail
    refine (awake_true _).mono ?_
    rintro e w1 ⟨rfl, hb⟩
    have T1 := Lib.hid ((Aft.refl w).call hb)
    clear hb
    go_wp2_with fail
    refine (PC _ (T1.out.rd HX.out)).out.mono ?_
    rintro e w' ⟨rfl, rfl⟩
    go_wp2_with fail
    refine (awake_true _).mono ?_
    rintro e w2 ⟨rfl, hb⟩
    have T2 := Lib.hid (T1.out.call hb)
    clear hb
    go_wp2_with fail
    go_ret
    exact ⟨rfl, T2.out⟩

set_option maxHeartbeats 4000000 in
theorem matches_right (A B : Option Addr) (n c m d : Nat) (xs ys : List Int) (o : Int) (w : World) (hx : In w A n c xs) (hy : In w B m d ys) (h0 : chkE xs = 0) (h100 : ¬ 100 < m) :
    Calls Try.prog 3 #[.slice A n c, .slice B m d, .int .i64 o] w (Holds w) := by
  have hl16 : n ≤ 16 := by have := (chk_len h0).1; rw [hx.rd.1] at this; exact this
  have PC := fun W h => refCheck_any A n c xs W hx.len h
  rw [h0] at PC
  have PO := fun W h1 h2 => offset_any A B n c m d xs ys W hx.len hy.len h1 h2 h0
  have PI := fun W h1 => index_any A n c xs o W hx.len h1 h0
  have PV := fun W h1 h2 => valid_any A B n c m d xs ys W hx.len hy.len h1 h2
  have PRV := fun W h1 h2 => refValid_any A B n c m d xs ys W hx.len hy.len h1 h2
  have PRO := fun W h1 h2 => refOffset_any A B n c m d xs ys W hx.len hy.len h1 h2 h0
  have PIn := fun W h1 => refIn_any A n c xs o W hx.len h1
  have PRI : inB xs o = true → ∀ W, Rd W A n xs → Calls Try.prog 17 #[.slice A n c, .int .i64 o] W (Makes W (idxL xs o)) := by
    intro hi W h1
    obtain ⟨hp, ho0, ho1, hle⟩ := in_ones h0 hi
    exact refIndex_any A n c xs o W hl16 h1 (fun x hx => ⟨hp x hx, (chk_all h0 x hx).2⟩) ho0 ho1 hle
  have HX := Lib.hid hx.rd
  have HY := Lib.hid hy.rd
  have hL : (idxL xs o).length = n := by rw [idx_len, hx.rd.1]
  have HLN := Lib.hid hL
  clear hL hx hy h0
  have hrr : vldB xs ys = true → rofN xs ys = offN xs ys := fun h => by unfold rofN offN; rw [if_pos h, if_pos h]
  have hr0 : vldB xs ys = false → offN xs ys = 0 := fun h => by unfold offN; rw [h]; rfl
  have hLL : inB xs o = true → idxN xs o = idxL xs o := fun h => by unfold idxN; rw [if_pos h]
  have hL0 : inB xs o = false → idxN xs o = [] := fun h => by unfold idxN; rw [h]; rfl
  generalize vldB xs ys = v at *
  generalize inB xs o = b at *
  generalize idxL xs o = L at *
  generalize idxN xs o = L' at *
  generalize offN xs ys = r at *
  generalize rofN xs ys = rr at *
  have PE : ∀ (P Q : Option Addr) (k l : Nat) (W : World), Rd W P n L → Rd W Q n L → Hid (Calls Try.prog 16 #[.slice P n k, .slice Q n l] W (Says W true)) :=
    fun P Q k l W h1 h2 => Lib.hid (refEqual_at true (eq_of rfl) (by unfold maxLen; omega) (by unfold maxLen; omega) h1 h2)
  have PC := fun W h => Lib.hid (PC W h)
  have PO := fun W h1 h2 => Lib.hid (PO W h1 h2)
  have PI := fun W h1 => Lib.hid (PI W h1)
  have PV := fun W h1 h2 => Lib.hid (PV W h1 h2)
  have PRV := fun W h1 h2 => Lib.hid (PRV W h1 h2)
  have PRO := fun W h1 h2 => Lib.hid (PRO W h1 h2)
  have PIn := fun W h1 => Lib.hid (PIn W h1)
  rename_i q1 q2 q3 q4 q5 q6 q7; clear q1 q2 q3 q4 q5 q6 q7
  cases b
  · obtain rfl := hL0 rfl
    clear hLL hL0 PRI PE HLN
    cases v
    · obtain rfl := hr0 rfl
      clear hrr hr0 PRO
      go_enter Try.func3, Try.ntmps3
      go_wp2_with fail
      refine (awake_true _).mono ?_
      rintro e w1 ⟨rfl, hb⟩
      have T1 := Lib.hid ((Aft.refl w).call hb)
      clear hb
      go_wp2_with fail
      refine (PC _ (T1.out.rd HX.out)).out.mono ?_
      rintro e w' ⟨rfl, rfl⟩
      go_wp2_with fail
      refine (PO _ (T1.out.rd HX.out) (T1.out.rd HY.out)).out.mono ?_
      rintro e w2 ⟨rfl, hb⟩
      have T2 := Lib.hid (T1.out.call hb)
      clear hb
      go_wp2_with fail
      refine (PI _ (T2.out.rd HX.out)).out.mono ?_
      intro e w3 hm
      obtain ⟨P, k, rfl, ho, hb, _, _, _⟩ := hm.out
      have T3 := Lib.hid (T2.out.call hb)
      clear hm ho hb
      go_wp2_with fail
      refine (PV _ (T3.out.rd HX.out) (T3.out.rd HY.out)).out.mono ?_
      rintro e w' ⟨rfl, rfl⟩
      go_wp2_with fail
      refine (PRV _ (T3.out.rd HX.out) (T3.out.rd HY.out)).out.mono ?_
      rintro e w4 ⟨rfl, q, hq⟩
      have T4 := Lib.hid (show Aft w w4 by rw [hq]; exact T3.out.drew q)
      clear hq
      go_wp2_with fail
      refine (PRV _ (T4.out.rd HX.out) (T4.out.rd HY.out)).out.mono ?_
      rintro e w5 ⟨rfl, q, hq⟩
      have T5 := Lib.hid (show Aft w w5 by rw [hq]; exact T4.out.drew q)
      clear hq
      go_wp2_with fail
      refine (PIn _ (T5.out.rd HX.out)).out.mono ?_
      rintro e w' ⟨rfl, rfl⟩
      go_wp2_with fail
      go_ret
      exact ⟨rfl, T5.out⟩
    · obtain rfl := hrr rfl
      clear hrr hr0
      go_enter Try.func3, Try.ntmps3
      go_wp2_with fail
      refine (awake_true _).mono ?_
      rintro e w1 ⟨rfl, hb⟩
      have T1 := Lib.hid ((Aft.refl w).call hb)
      clear hb
      go_wp2_with fail
      refine (PC _ (T1.out.rd HX.out)).out.mono ?_
      rintro e w' ⟨rfl, rfl⟩
      go_wp2_with fail
      refine (PO _ (T1.out.rd HX.out) (T1.out.rd HY.out)).out.mono ?_
      rintro e w2 ⟨rfl, hb⟩
      have T2 := Lib.hid (T1.out.call hb)
      clear hb
      go_wp2_with fail
      refine (PI _ (T2.out.rd HX.out)).out.mono ?_
      intro e w3 hm
      obtain ⟨P, k, rfl, ho, hb, _, _, _⟩ := hm.out
      have T3 := Lib.hid (T2.out.call hb)
      clear hm ho hb
      go_wp2_with fail
      refine (PV _ (T3.out.rd HX.out) (T3.out.rd HY.out)).out.mono ?_
      rintro e w' ⟨rfl, rfl⟩
      go_wp2_with fail
      refine (PRV _ (T3.out.rd HX.out) (T3.out.rd HY.out)).out.mono ?_
      rintro e w4 ⟨rfl, q, hq⟩
      have T4 := Lib.hid (show Aft w w4 by rw [hq]; exact T3.out.drew q)
      clear hq
      go_wp2_with fail
      refine (PRV _ (T4.out.rd HX.out) (T4.out.rd HY.out)).out.mono ?_
      rintro e w5 ⟨rfl, q, hq⟩
      have T5 := Lib.hid (show Aft w w5 by rw [hq]; exact T4.out.drew q)
      clear hq
      go_wp2_with fail
      refine (PIn _ (T5.out.rd HX.out)).out.mono ?_
      rintro e w' ⟨rfl, rfl⟩
      go_wp2_with fail
      refine (PRO _ (T5.out.rd HX.out) (T5.out.rd HY.out)).out.mono ?_
      rintro e w6 ⟨rfl, q, hq⟩
      have T6 := Lib.hid (show Aft w w6 by rw [hq]; exact T5.out.drew q)
      clear hq
      go_wp2_with fail
      go_ret
      exact ⟨rfl, T6.out⟩
  · obtain rfl := hLL rfl
    have PRI := fun W h => Lib.hid (PRI rfl W h)
    rename_i q1
    clear hLL hL0 q1
    cases v
    · obtain rfl := hr0 rfl
      clear hrr hr0 PRO
      go_enter Try.func3, Try.ntmps3
      go_wp2_with fail
      refine (awake_true _).mono ?_
      rintro e w1 ⟨rfl, hb⟩
      have T1 := Lib.hid ((Aft.refl w).call hb)
      clear hb
      go_wp2_with fail
      refine (PC _ (T1.out.rd HX.out)).out.mono ?_
      rintro e w' ⟨rfl, rfl⟩
      go_wp2_with fail
      refine (PO _ (T1.out.rd HX.out) (T1.out.rd HY.out)).out.mono ?_
      rintro e w2 ⟨rfl, hb⟩
      have T2 := Lib.hid (T1.out.call hb)
      clear hb
      go_wp2_with fail
      refine (PI _ (T2.out.rd HX.out)).out.mono ?_
      intro e w3 hm
      obtain ⟨P, k, rfl, ho, hb, _, _, _⟩ := hm.out
      have T3 := Lib.hid (T2.out.call hb)
      have R3 := Lib.hid ho.rd
      have U3 := Lib.hid (Aft.refl w3)
      rw [HLN.out] at R3
      simp only [HLN.out]
      clear hm ho hb
      go_wp2_with fail
      refine (PV _ (T3.out.rd HX.out) (T3.out.rd HY.out)).out.mono ?_
      rintro e w' ⟨rfl, rfl⟩
      go_wp2_with fail
      refine (PRV _ (T3.out.rd HX.out) (T3.out.rd HY.out)).out.mono ?_
      rintro e w4 ⟨rfl, q, hq⟩
      have T4 := Lib.hid (show Aft w w4 by rw [hq]; exact T3.out.drew q)
      have U4 := Lib.hid (show Aft w3 w4 by rw [hq]; exact U3.out.drew q)
      clear hq
      go_wp2_with fail
      refine (PRV _ (T4.out.rd HX.out) (T4.out.rd HY.out)).out.mono ?_
      rintro e w5 ⟨rfl, q, hq⟩
      have T5 := Lib.hid (show Aft w w5 by rw [hq]; exact T4.out.drew q)
      have U5 := Lib.hid (show Aft w3 w5 by rw [hq]; exact U4.out.drew q)
      clear hq
      go_wp2_with fail
      refine (PIn _ (T5.out.rd HX.out)).out.mono ?_
      rintro e w' ⟨rfl, rfl⟩
      go_wp2_with fail
      refine (PRI _ (T5.out.rd HX.out)).out.mono ?_
      intro e w6 hm
      obtain ⟨Q, l, rfl, ho, hb, _, _, _⟩ := hm.out
      have T6 := Lib.hid (T5.out.call hb)
      have U6 := Lib.hid (U5.out.call hb)
      have R6 := Lib.hid ho.rd
      rw [HLN.out] at R6
      simp only [HLN.out]
      clear hm ho hb
      go_wp2_with fail
      refine (PE _ _ _ _ _ (U6.out.rd R3.out) R6.out).out.mono ?_
      rintro e w7 ⟨rfl, hb⟩
      have T7 := Lib.hid (T6.out.call hb)
      clear hb
      go_wp2_with fail
      go_ret
      exact ⟨rfl, T7.out⟩
    · obtain rfl := hrr rfl
      clear hrr hr0
      go_enter Try.func3, Try.ntmps3
      go_wp2_with fail
      refine (awake_true _).mono ?_
      rintro e w1 ⟨rfl, hb⟩
      have T1 := Lib.hid ((Aft.refl w).call hb)
      clear hb
      go_wp2_with fail
      refine (PC _ (T1.out.rd HX.out)).out.mono ?_
      rintro e w' ⟨rfl, rfl⟩
      go_wp2_with fail
      refine (PO _ (T1.out.rd HX.out) (T1.out.rd HY.out)).out.mono ?_
      rintro e w2 ⟨rfl, hb⟩
      have T2 := Lib.hid (T1.out.call hb)
      clear hb
      go_wp2_with fail
      refine (PI _ (T2.out.rd HX.out)).out.mono ?_
      intro e w3 hm
      obtain ⟨P, k, rfl, ho, hb, _, _, _⟩ := hm.out
      have T3 := Lib.hid (T2.out.call hb)
      have R3 := Lib.hid ho.rd
      have U3 := Lib.hid (Aft.refl w3)
      rw [HLN.out] at R3
      simp only [HLN.out]
      clear hm ho hb
      go_wp2_with fail
      refine (PV _ (T3.out.rd HX.out) (T3.out.rd HY.out)).out.mono ?_
      rintro e w' ⟨rfl, rfl⟩
      go_wp2_with fail
      refine (PRV _ (T3.out.rd HX.out) (T3.out.rd HY.out)).out.mono ?_
      rintro e w4 ⟨rfl, q, hq⟩
      have T4 := Lib.hid (show Aft w w4 by rw [hq]; exact T3.out.drew q)
      have U4 := Lib.hid (show Aft w3 w4 by rw [hq]; exact U3.out.drew q)
      clear hq
      go_wp2_with fail
      refine (PRV _ (T4.out.rd HX.out) (T4.out.rd HY.out)).out.mono ?_
      rintro e w5 ⟨rfl, q, hq⟩
      have T5 := Lib.hid (show Aft w w5 by rw [hq]; exact T4.out.drew q)
      have U5 := Lib.hid (show Aft w3 w5 by rw [hq]; exact U4.out.drew q)
      clear hq
      go_wp2_with fail
      refine (PIn _ (T5.out.rd HX.out)).out.mono ?_
      rintro e w' ⟨rfl, rfl⟩
      go_wp2_with fail
      refine (PRO _ (T5.out.rd HX.out) (T5.out.rd HY.out)).out.mono ?_
      rintro e w8 ⟨rfl, q, hq⟩
      have T8 := Lib.hid (show Aft w w8 by rw [hq]; exact T5.out.drew q)
      have U8 := Lib.hid (show Aft w3 w8 by rw [hq]; exact U5.out.drew q)
      clear hq
      go_wp2_with fail
      refine (PRI _ (T8.out.rd HX.out)).out.mono ?_
      intro e w6 hm
      obtain ⟨Q, l, rfl, ho, hb, _, _, _⟩ := hm.out
      have T6 := Lib.hid (T8.out.call hb)
      have U6 := Lib.hid (U8.out.call hb)
      have R6 := Lib.hid ho.rd
      rw [HLN.out] at R6
      simp only [HLN.out]
      clear hm ho hb
      go_wp2_with fail
      refine (PE _ _ _ _ _ (U6.out.rd R3.out) R6.out).out.mono ?_
      rintro e w7 ⟨rfl, hb⟩
      have T7 := Lib.hid (T6.out.call hb)
      clear hb
      go_wp2_with fail
      go_ret
      exact ⟨rfl, T7.out⟩

theorem walk_GammaMatchesReference (A B : Option Addr) (n c m d : Nat) (xs ys : List Int) (o : Int) (w : World) (hx : In w A n c xs) (hy : In w B m d ys) :
    Calls Try.prog 3 #[.slice A n c, .slice B m d, .int .i64 o] w (Holds w) := by
  by_cases h : ¬ chkE xs = 0 ∨ 100 < m
  · exact matches_wrong A B n c m d xs ys o w hx hy h
  · exact matches_right A B n c m d xs ys o w hx hy (by omega) (by omega)
end Go.Proofs.Ytehpigijlgkokaa.laws
