/- The walk of GammaReshapes. -/
import Derived.Test.YtehpigijlgkokaaGammaAwake
namespace Go.Proofs.Ytehpigijlgkokaa.laws
open Go.ChangeShapes Go.WideShapes Go.ChangeAt Go.RowKit Go.Proofs.Ytehpigijlgkokaa.mem Go.Proofs.Ytehpigijlgkokaa.shp Go.Proofs.Ytehpigijlgkokaa.eql Go.Proofs.Ytehpigijlgkokaa.strd Go.Proofs.Ytehpigijlgkokaa.gam
set_option linter.unusedVariables false

/-- A shape is wrong, or the numbers of cells differ: awake again. -/
theorem reshapes_wrong (A B : Option Addr) (n c m d : Nat) (xs ys : List Int) (o : Int) (w : World) (hx : In w A n c xs) (hy : In w B m d ys) (h : ¬ chkE xs = 0 ∨ ¬ chkE ys = 0 ∨ ¬ celN xs = celN ys) :
    Calls Try.prog 6 #[.slice A n c, .slice B m d, .int .u16 o] w (Holds w) := by
  have PC := fun W h => refCheck_any A n c xs W hx.len h
  have PD := fun W h => refCheck_any B m d ys W hy.len h
  have PM := fun W h => refCells_any A n c xs W hx.len h
  have PN := fun W h => refCells_any B m d ys W hy.len h
  have HX := Lib.hid hx.rd
  have HY := Lib.hid hy.rd; clear hx hy
  by_cases h0 : chkE xs = 0
  · by_cases h1 : chkE ys = 0
    · have h2 : ¬ celN xs = celN ys := by omega
      have h3 : (celN xs != celN ys) = true := by simpa using h2
      rw [h0] at PC
      rw [h1] at PD
      clear h h0 h1
      generalize celN xs = M at *
      generalize celN ys = N at *
      have PC := fun W h => Lib.hid (PC W h)
      have PD := fun W h => Lib.hid (PD W h)
      have PM := fun W h => Lib.hid (PM W h)
      have PN := fun W h => Lib.hid (PN W h)
      rename_i q1 q2 q3 q4; clear q1 q2 q3 q4
      go_enter Try.func6, Try.ntmps6
      go_wp2_with fail
      refine (awake_true _).mono ?_
      rintro e w1 ⟨rfl, hb⟩
      have T1 := Lib.hid ((Aft.refl w).call hb)
      clear hb
      go_wp2_with fail
      refine (PC _ (T1.out.rd HX.out)).out.mono ?_
      rintro e w' ⟨rfl, rfl⟩
      go_wp2_with fail
      refine (PD _ (T1.out.rd HY.out)).out.mono ?_
      rintro e w' ⟨rfl, rfl⟩
      go_wp2_with fail
      refine (PM _ (T1.out.rd HX.out)).out.mono ?_
      rintro e w' ⟨rfl, rfl⟩
      go_wp2_with fail
      refine (PN _ (T1.out.rd HY.out)).out.mono ?_
      rintro e w' ⟨rfl, rfl⟩
      go_wp2_with fail
      refine (awake_true _).mono ?_
      rintro e w2 ⟨rfl, hb⟩
      have T2 := Lib.hid (T1.out.call hb)
      clear hb
      go_wp2_with fail
      go_ret
      exact ⟨rfl, T2.out⟩
    · have h01 : (chkE ys != 0) = true := by simpa using h1
      rw [h0] at PC
      clear h h0 h1 PM PN
      generalize chkE ys = E at *
      have PC := fun W h => Lib.hid (PC W h)
      have PD := fun W h => Lib.hid (PD W h)
      rename_i q1 q2; clear q1 q2
      go_enter Try.func6, Try.ntmps6
      go_wp2_with fail
      refine (awake_true _).mono ?_
      rintro e w1 ⟨rfl, hb⟩
      have T1 := Lib.hid ((Aft.refl w).call hb)
      clear hb
      go_wp2_with fail
      refine (PC _ (T1.out.rd HX.out)).out.mono ?_
      rintro e w' ⟨rfl, rfl⟩
      go_wp2_with fail
      refine (PD _ (T1.out.rd HY.out)).out.mono ?_
      rintro e w' ⟨rfl, rfl⟩
      go_wp2_with fail
      refine (awake_true _).mono ?_
      rintro e w2 ⟨rfl, hb⟩
      have T2 := Lib.hid (T1.out.call hb)
      clear hb
      go_wp2_with fail
      go_ret
      exact ⟨rfl, T2.out⟩
  · have h01 : (chkE xs != 0) = true := by simpa using h0
    clear h h0 PM PN PD
    generalize chkE xs = E at *
    have PC := fun W h => Lib.hid (PC W h)
    rename_i q1; clear q1
    go_enter Try.func6, Try.ntmps6
    go_wp2_with fail
    refine (awake_true _).mono ?_
    rintro e w1 ⟨rfl, hb⟩
    have T1 := Lib.hid ((Aft.refl w).call hb)
    clear hb
    go_wp2_with fail
    refine (PC _ (T1.out.rd HX.out)).out.mono ?_
    rintro e w' ⟨rfl, rfl⟩
    go_wp2_with fail
    refine (awake_true _).mono ?_
    rintro e w2 ⟨rfl, hb⟩
    have T2 := Lib.hid (T1.out.call hb)
    clear hb
    go_wp2_with fail
    go_ret
    exact ⟨rfl, T2.out⟩

set_option maxHeartbeats 4000000 in
set_option maxRecDepth 100000 in
theorem reshapes_right (A B : Option Addr) (n c m d : Nat) (xs ys : List Int) (o : Int) (w : World) (hx : In w A n c xs) (hy : In w B m d ys) (ho0 : 0 ≤ o) (ho1 : o ≤ 65535) (h0 : chkE xs = 0) (h1 : chkE ys = 0) (h2 : celN xs = celN ys) :
    Calls Try.prog 6 #[.slice A n c, .slice B m d, .int .u16 o] w (Holds w) := by
  have PC := fun W h => refCheck_any A n c xs W hx.len h
  have PD := fun W h => refCheck_any B m d ys W hy.len h
  have PM := fun W h => refCells_any A n c xs W hx.len h
  have PN := fun W h => refCells_any B m d ys W hy.len h
  rw [h0] at PC
  rw [h1] at PD
  rw [← h2] at PN
  have PI := fun W h => index_any A n c xs o W hx.len h h0
  have HX := Lib.hid hx.rd
  have HY := Lib.hid hy.rd
  have PC := fun W h => Lib.hid (PC W h)
  have PD := fun W h => Lib.hid (PD W h)
  have PM := fun W h => Lib.hid (PM W h)
  have PN := fun W h => Lib.hid (PN W h)
  rename_i q1 q2 q3 q4; clear q1 q2 q3 q4
  by_cases hi : inB xs o = true
  · have hj : inB ys o = true := by unfold inB at hi ⊢; rw [← h2]; exact hi
    obtain ⟨hp, hp0, hp1, hp2⟩ := in_ones h0 hi
    obtain ⟨hq, hq0, hq1, hq2⟩ := in_ones h1 hj
    have er := idx_right hp hp0 hp1
    have es := idx_right hq hq0 hq1
    have e1 : idxN xs o = idxL xs o := by unfold idxN; rw [if_pos hi]
    have e2 : idxN ys o = idxL ys o := by unfold idxN; rw [if_pos hj]
    have PJ := fun W h => index_any B m d ys o W hy.len h h1
    have hln := hx.len
    have hlm := hy.len
    have PO := fun W P k hh h => offset_any A P n c n k xs (idxL xs o) W hln hln hh h h0
    have PQ := fun W P k hh h => offset_any B P m d m k ys (idxL ys o) W hlm hlm hh h h1
    have f1 : offN xs (idxL xs o) = o := by unfold offN; rw [if_pos er.1]; exact er.2
    have f2 : offN ys (idxL ys o) = o := by unfold offN; rw [if_pos es.1]; exact es.2
    rw [hi, e1] at PI
    rw [hj, e2] at PJ
    rw [f1, er.1] at PO
    rw [f2, es.1] at PQ
    have HLN := Lib.hid (show (idxL xs o).length = n by rw [idx_len, hx.rd.1])
    have HLM := Lib.hid (show (idxL ys o).length = m by rw [idx_len, hy.rd.1])
    clear f1 f2 e1 e2 er es hi hj hp hp0 hp1 hp2 hq hq0 hq1 hq2 h0 h1 h2 hx hy
    generalize idxL xs o = L at *
    generalize idxL ys o = M at *
    have PE : ∀ (P Q : Option Addr) (k l : Nat) (W : World), Rd W P n L → Rd W Q n L → Hid (Calls Try.prog 16 #[.slice P n k, .slice Q n l] W (Says W true)) :=
      fun P Q k l W h1 h2 => Lib.hid (refEqual_at true (eq_of rfl) hln hln h1 h2)
    have PI := fun W h1 => Lib.hid (PI W h1)
    have PJ := fun W h1 => Lib.hid (PJ W h1)
    have PO := fun W P k h1 h2 => Lib.hid (PO W P k h1 h2)
    have PQ := fun W P k h1 h2 => Lib.hid (PQ W P k h1 h2)
    rename_i q1 q2 q3 q4; clear q1 q2 q3 q4 hln hlm
    generalize celN xs = N at *
    go_enter Try.func6, Try.ntmps6
    go_wp2_with fail
    refine (awake_true _).mono ?_
    rintro e w1 ⟨rfl, hb⟩
    have T1 := Lib.hid ((Aft.refl w).call hb)
    clear hb
    go_wp2_with fail
    refine (PC _ (T1.out.rd HX.out)).out.mono ?_
    rintro e w' ⟨rfl, rfl⟩
    go_wp2_with fail
    refine (PD _ (T1.out.rd HY.out)).out.mono ?_
    rintro e w' ⟨rfl, rfl⟩
    go_wp2_with fail
    refine (PM _ (T1.out.rd HX.out)).out.mono ?_
    rintro e w' ⟨rfl, rfl⟩
    go_wp2_with fail
    refine (PN _ (T1.out.rd HY.out)).out.mono ?_
    rintro e w' ⟨rfl, rfl⟩
    go_wp2_with fail
    refine (PI _ (T1.out.rd HX.out)).out.mono ?_
    intro e w2 hm
    obtain ⟨P, k, rfl, ho, hb, _, _, _⟩ := hm.out
    have T2 := Lib.hid (T1.out.call hb)
    have R2 := Lib.hid ho.rd
    have U2 := Lib.hid (Aft.refl w2)
    rw [HLN.out] at R2
    simp only [HLN.out]
    clear hm ho hb
    go_wp2_with fail
    refine (PO _ _ _ (T2.out.rd HX.out) R2.out).out.mono ?_
    rintro e w3 ⟨rfl, hb⟩
    have T3 := Lib.hid (T2.out.call hb)
    have U3 := Lib.hid (U2.out.call hb)
    clear hb
    go_wp2_with fail
    refine (PJ _ (T3.out.rd HY.out)).out.mono ?_
    intro e w4 hm
    obtain ⟨Q, l, rfl, ho, hb, _, _, _⟩ := hm.out
    have T4 := Lib.hid (T3.out.call hb)
    have U4 := Lib.hid (U3.out.call hb)
    have R4 := Lib.hid ho.rd
    rw [HLM.out] at R4
    simp only [HLM.out]
    clear hm ho hb
    go_wp2_with fail
    refine (PQ _ _ _ (T4.out.rd HY.out) R4.out).out.mono ?_
    rintro e w5 ⟨rfl, hb⟩
    have T5 := Lib.hid (T4.out.call hb)
    have U5 := Lib.hid (U4.out.call hb)
    clear hb
    go_wp2_with fail
    refine (PI _ (T5.out.rd HX.out)).out.mono ?_
    intro e w6 hm
    obtain ⟨P6, k6, rfl, ho, hb, _, _, _⟩ := hm.out
    have T6 := Lib.hid (T5.out.call hb)
    have R6 := Lib.hid ho.rd
    have U6 := Lib.hid (U5.out.call hb)
    rw [HLN.out] at R6
    simp only [HLN.out]
    clear hm ho hb
    go_wp2_with fail
    refine (PE _ _ _ _ _ (U6.out.rd R2.out) R6.out).out.mono ?_
    rintro e w7 ⟨rfl, hb⟩
    have T7 := Lib.hid (T6.out.call hb)
    clear hb
    go_wp2_with fail
    go_ret
    exact ⟨rfl, T7.out⟩
  · have hi : inB xs o = false := by simpa using hi
    have e1 : idxN xs o = [] := by unfold idxN; rw [hi]; rfl
    have PIn := fun W h => refIn_any A n c xs o W hx.len h
    rw [hi] at PIn
    rw [hi, e1] at PI
    have PI := fun W h1 => Lib.hid (PI W h1)
    have PIn := fun W h1 => Lib.hid (PIn W h1)
    rename_i q1 q2; clear q1 q2 e1 hi h0 h1 h2 hx hy
    generalize celN xs = N at *
    go_enter Try.func6, Try.ntmps6
    go_wp2_with fail
    refine (awake_true _).mono ?_
    rintro e w1 ⟨rfl, hb⟩
    have T1 := Lib.hid ((Aft.refl w).call hb)
    clear hb
    go_wp2_with fail
    refine (PC _ (T1.out.rd HX.out)).out.mono ?_
    rintro e w' ⟨rfl, rfl⟩
    go_wp2_with fail
    refine (PD _ (T1.out.rd HY.out)).out.mono ?_
    rintro e w' ⟨rfl, rfl⟩
    go_wp2_with fail
    refine (PM _ (T1.out.rd HX.out)).out.mono ?_
    rintro e w' ⟨rfl, rfl⟩
    go_wp2_with fail
    refine (PN _ (T1.out.rd HY.out)).out.mono ?_
    rintro e w' ⟨rfl, rfl⟩
    go_wp2_with fail
    refine (PI _ (T1.out.rd HX.out)).out.mono ?_
    intro e w2 hm
    obtain ⟨P, k, rfl, ho, hb, _, _, _⟩ := hm.out
    have T2 := Lib.hid (T1.out.call hb)
    clear hm ho hb
    go_wp2_with fail
    refine (PIn _ (T2.out.rd HX.out)).out.mono ?_
    rintro e w' ⟨rfl, rfl⟩
    go_wp2_with fail
    go_ret
    exact ⟨rfl, T2.out⟩

theorem walk_GammaReshapes (A B : Option Addr) (n c m d : Nat) (xs ys : List Int) (o : Int) (w : World) (hx : In w A n c xs) (hy : In w B m d ys) (ho : (Lit.int .u16 o).wf = true) :
    Calls Try.prog 6 #[.slice A n c, .slice B m d, .int .u16 o] w (Holds w) := by
  by_cases h : ¬ chkE xs = 0 ∨ ¬ chkE ys = 0 ∨ ¬ celN xs = celN ys
  · exact reshapes_wrong A B n c m d xs ys o w hx hy h
  · have hb : 0 ≤ o ∧ o ≤ 65535 := Go.bounds_u16 ho
    exact reshapes_right A B n c m d xs ys o w hx hy hb.1 hb.2 (by omega) (by omega) (by omega)
end Go.Proofs.Ytehpigijlgkokaa.laws
