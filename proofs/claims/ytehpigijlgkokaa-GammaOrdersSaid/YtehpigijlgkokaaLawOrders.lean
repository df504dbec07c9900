/- The walk of GammaOrders. -/
import Derived.Test.YtehpigijlgkokaaGammaAwake
namespace Go.Proofs.Ytehpigijlgkokaa.laws
open Go.ChangeShapes Go.WideShapes Go.ChangeAt Go.RowKit Go.Proofs.Ytehpigijlgkokaa.mem Go.Proofs.Ytehpigijlgkokaa.shp Go.Proofs.Ytehpigijlgkokaa.eql Go.Proofs.Ytehpigijlgkokaa.strd Go.Proofs.Ytehpigijlgkokaa.gam
set_option linter.unusedVariables false

/-- Whether a list is lexicographically less. -/
def lessL : List Int → List Int → Bool
  | y :: ys, z :: zs => decide (y < z) || (decide (y = z) && lessL ys zs)
  | _, _ => false
theorem less_step {ys zs : List Int} {k : Nat} {y z : Int} (hy : ys[k]? = some y) (hz : zs[k]? = some z) :
    lessL (ys.drop k) (zs.drop k) = (decide (y < z) || (decide (y = z) && lessL (ys.drop (k + 1)) (zs.drop (k + 1)))) := by
  rw [drop_at hy, drop_at hz]; rfl
theorem less_end {ys zs : List Int} {n : Nat} (h : ys.length = n) : lessL (ys.drop n) (zs.drop n) = false := by
  rw [List.drop_of_length_le (by omega)]; rfl
theorem less_off : ∀ {xs ys zs : List Int}, vldB xs ys = true → vldB xs zs = true → (offL xs ys < offL xs zs ↔ lessL ys zs = true)
  | [], [], [], _, _ => by simp [offL, lessL]
  | x :: xs, y :: ys, z :: zs, hy, hz => by
    have ho := vld_ones hy
    simp only [vldB, Bool.and_eq_true, decide_eq_true_eq] at hy hz
    have ry := off_range hy.2
    have rz := off_range hz.2
    have ih := less_off hy.2 hz.2
    have hp := prodL_pos (xs := xs) fun u hu => ho u (by simp [hu])
    simp only [offL, lessL, Bool.or_eq_true, Bool.and_eq_true, decide_eq_true_eq]
    rcases Int.lt_trichotomy y z with h | h | h
    · have h1 : (y + 1) * prodL xs ≤ z * prodL xs := Int.mul_le_mul_of_nonneg_right (by omega) (by omega)
      rw [Int.add_mul, Int.one_mul] at h1
      exact ⟨fun _ => .inl h, fun _ => by omega⟩
    · subst h
      rw [← ih]
      exact ⟨fun g => .inr ⟨rfl, by omega⟩, fun g => by omega⟩
    · have h1 : (z + 1) * prodL xs ≤ y * prodL xs := Int.mul_le_mul_of_nonneg_right (by omega) (by omega)
      rw [Int.add_mul, Int.one_mul] at h1
      exact ⟨fun g => by omega, fun g => by omega⟩
  | [], _ :: _, _, h, _ => by simp [vldB] at h
  | [], [], _ :: _, _, h => by simp [vldB] at h
  | _ :: _, [], _, h, _ => by simp [vldB] at h
  | _ :: _, _ :: _, [], _, h => by simp [vldB] at h
theorem off_inj {xs ys zs : List Int} (hy : vldB xs ys = true) (hz : vldB xs zs = true) (h : offL xs ys = offL xs zs) : ys = zs := by
  rw [← off_right hy, ← off_right hz, h]

/-- The shape is wrong, or one of the lists is no index: awake again. -/
theorem orders_wrong (A B C : Option Addr) (n c m d l e : Nat) (xs ys zs : List Int) (w : World) (hx : In w A n c xs) (hy : In w B m d ys) (hz : In w C l e zs) (h : ¬ chkE xs = 0 ∨ ¬ vldB xs ys = true ∨ ¬ vldB xs zs = true) :
    Calls Try.prog 7 #[.slice A n c, .slice B m d, .slice C l e] w (Holds w) := by
  have PC := fun W h => refCheck_any A n c xs W hx.len h
  have PV := fun W h1 h2 => refValid_any A B n c m d xs ys W hx.len hy.len h1 h2
  have PW := fun W h1 h2 => refValid_any A C n c l e xs zs W hx.len hz.len h1 h2
  have HX := Lib.hid hx.rd
  have HY := Lib.hid hy.rd
  have HZ := Lib.hid hz.rd; clear hx hy hz
  by_cases h0 : chkE xs = 0
  · rw [h0] at PC
    cases h1 : vldB xs ys
    · rw [h1] at PV
      clear h h0 h1 PW
      have PC := fun W h => Lib.hid (PC W h)
      have PV := fun W h1 h2 => Lib.hid (PV W h1 h2)
      rename_i q1 q2; clear q1 q2
      go_enter Try.func7, Try.ntmps7
      go_wp2_with fail
      refine (awake_true _).mono ?_
      rintro e w1 ⟨rfl, hb⟩
      have T1 := Lib.hid ((Aft.refl w).call hb)
      clear hb
      go_wp2_with fail
      refine (PC _ (T1.out.rd HX.out)).out.mono ?_
      rintro e w' ⟨rfl, rfl⟩
      go_wp2_with fail
      refine (PV _ (T1.out.rd HX.out) (T1.out.rd HY.out)).out.mono ?_
      rintro e w2 ⟨rfl, q, hq⟩
      have T2 := Lib.hid (show Aft w w2 by rw [hq]; exact T1.out.drew q)
      clear hq
      go_wp2_with fail
      refine (awake_true _).mono ?_
      rintro e w3 ⟨rfl, hb⟩
      have T3 := Lib.hid (T2.out.call hb)
      clear hb
      go_wp2_with fail
      go_ret
      exact ⟨rfl, T3.out⟩
    · have h2 : vldB xs zs = false := by rw [h0, h1] at h; simpa using h
      rw [h1] at PV
      rw [h2] at PW
      clear h h0 h1 h2
      have PC := fun W h => Lib.hid (PC W h)
      have PV := fun W h1 h2 => Lib.hid (PV W h1 h2)
      have PW := fun W h1 h2 => Lib.hid (PW W h1 h2)
      rename_i q1 q2 q3; clear q1 q2 q3
      go_enter Try.func7, Try.ntmps7
      go_wp2_with fail
      refine (awake_true _).mono ?_
      rintro e w1 ⟨rfl, hb⟩
      have T1 := Lib.hid ((Aft.refl w).call hb)
      clear hb
      go_wp2_with fail
      refine (PC _ (T1.out.rd HX.out)).out.mono ?_
      rintro e w' ⟨rfl, rfl⟩
      go_wp2_with fail
      refine (PV _ (T1.out.rd HX.out) (T1.out.rd HY.out)).out.mono ?_
      rintro e w2 ⟨rfl, q, hq⟩
      have T2 := Lib.hid (show Aft w w2 by rw [hq]; exact T1.out.drew q)
      clear hq
      go_wp2_with fail
      refine (PW _ (T2.out.rd HX.out) (T2.out.rd HZ.out)).out.mono ?_
      rintro e w4 ⟨rfl, q, hq⟩
      have T4 := Lib.hid (show Aft w w4 by rw [hq]; exact T2.out.drew q)
      clear hq
      go_wp2_with fail
      refine (awake_true _).mono ?_
      rintro e w3 ⟨rfl, hb⟩
      have T3 := Lib.hid (T4.out.call hb)
      clear hb
      go_wp2_with fail
      go_ret
      exact ⟨rfl, T3.out⟩
  · have h01 : (chkE xs != 0) = true := by simpa using h0
    clear h h0 PV PW
    generalize chkE xs = E at *
    have PC := fun W h => Lib.hid (PC W h)
    rename_i q1; clear q1
    go_enter Try.func7, Try.ntmps7
    go_wp2_with fail
    refine (awake_true _).mono ?_
    rintro e w1 ⟨rfl, hb⟩
    have T1 := Lib.hid ((Aft.refl w).call hb)
    clear hb
    go_wp2_with fail
    refine (PC _ (T1.out.rd HX.out)).out.mono ?_
    rintro e w' ⟨rfl, rfl⟩
    go_wp2_with fail
    refine (awake_true _).mono ?_
    rintro e w2 ⟨rfl, hb⟩
    have T2 := Lib.hid (T1.out.call hb)
    clear hb
    go_wp2_with fail
    go_ret
    exact ⟨rfl, T2.out⟩

set_option maxHeartbeats 4000000 in
set_option maxRecDepth 100000 in
theorem orders_right (A B C : Option Addr) (n c m d l e : Nat) (xs ys zs : List Int) (w : World) (hx : In w A n c xs) (hy : In w B m d ys) (hz : In w C l e zs) (h0 : chkE xs = 0) (h1 : vldB xs ys = true) (h2 : vldB xs zs = true) :
    Calls Try.prog 7 #[.slice A n c, .slice B m d, .slice C l e] w (Holds w) := by
  have hl16 : n ≤ 16 := by have := (chk_len h0).1; rw [hx.rd.1] at this; exact this
  have hnm : n = m := by rw [← hx.rd.1, ← hy.rd.1]; exact vld_len h1
  have hnl : n = l := by rw [← hx.rd.1, ← hz.rd.1]; exact vld_len h2
  subst hnm
  subst hnl
  have PC := fun W h => refCheck_any A n c xs W hx.len h
  have PV := fun W h1 h2 => refValid_any A B n c n d xs ys W hx.len hy.len h1 h2
  have PW := fun W h1 h2 => refValid_any A C n c n e xs zs W hx.len hz.len h1 h2
  have PO := fun W hh h => offset_any A B n c n d xs ys W hx.len hy.len hh h h0
  have PP := fun W hh h => offset_any A C n c n e xs zs W hx.len hz.len hh h h0
  have PE := fun W hh h => refEqual_any B C n d n e ys zs W hy.len hz.len hh h
  have PN := fun W h => refCells_any A n c xs W hx.len h
  have f1 := off_n h0 h1
  have f2 := off_n h0 h2
  have g1 := f1.2.1
  have g2 := f1.2.2
  have hlo := less_off h1 h2
  have hij := off_inj h1 h2
  rw [h0] at PC
  rw [f1.1, h1] at PO
  rw [f2.1, h2] at PP
  rw [h1] at PV
  rw [h2] at PW
  have HX := Lib.hid hx.rd
  have HY := Lib.hid hy.rd
  have HZ := Lib.hid hz.rd
  have HLO := Lib.hid hlo
  have HIJ := Lib.hid hij
  clear hx hy hz f1 f2 h0 h1 h2 hlo hij
  have hcr := cel_range xs
  have hN := hcr.2
  clear hcr
  generalize celN xs = N at *
  generalize hr : offL xs ys = r at *
  generalize hs : offL xs zs = s at *
  have hrs : ys = zs → r = s := fun h => by rw [← hr, ← hs, h]
  have HRS := Lib.hid hrs
  clear hr hs hrs
  have PC := fun W h => Lib.hid (PC W h)
  have PV := fun W h1 h2 => Lib.hid (PV W h1 h2)
  have PW := fun W h1 h2 => Lib.hid (PW W h1 h2)
  have PO := fun W h1 h2 => Lib.hid (PO W h1 h2)
  have PP := fun W h1 h2 => Lib.hid (PP W h1 h2)
  have PE := fun W h1 h2 => Lib.hid (PE W h1 h2)
  have PN := fun W h1 => Lib.hid (PN W h1)
  rename_i q1 q2 q3 q4 q5 q6 q7; clear q1 q2 q3 q4 q5 q6 q7
  go_enter Try.func7, Try.ntmps7
  go_wp2_with fail
  refine (awake_true _).mono ?_
  rintro e w1 ⟨rfl, hb⟩
  have T1 := Lib.hid ((Aft.refl w).call hb)
  clear hb
  go_wp2_with fail
  refine (PC _ (T1.out.rd HX.out)).out.mono ?_
  rintro e w' ⟨rfl, rfl⟩
  go_wp2_with fail
  refine (PV _ (T1.out.rd HX.out) (T1.out.rd HY.out)).out.mono ?_
  rintro e w2 ⟨rfl, q, hq⟩
  have T2 := Lib.hid (show Aft w w2 by rw [hq]; exact T1.out.drew q)
  clear hq
  go_wp2_with fail
  refine (PW _ (T2.out.rd HX.out) (T2.out.rd HZ.out)).out.mono ?_
  rintro e w4 ⟨rfl, q, hq⟩
  have T4 := Lib.hid (show Aft w w4 by rw [hq]; exact T2.out.drew q)
  clear hq
  go_wp2_with fail
  go_loopw [7, 8] (fun v i wr => ∃ k q : Nat, k ≤ n ∧ ∃ j : Int, i = .int .i64 j ∧ -1 ≤ j ∧ j < 16 ∧ Hid (j = (k : Int) - 1) ∧ wr = w4.drewN q ∧ ∃ b : Bool, v = .bool b ∧ Hid (b = lessL (ys.drop k) (zs.drop k))) (fun _ i _ => (intOf i + 1).toNat)
  case atStart => exact ⟨n, 0, Nat.le_refl _, (n : Int) - 1, rfl, by omega, by omega, Lib.hid rfl, rfl, false, rfl, Lib.hid (less_end HY.out.1).symm⟩
  case round =>
    obtain ⟨k, q, hk, j, rfl, hj1, hj2, Hj, rfl, b, rfl, Hb⟩ := hrel
    rcases Nat.eq_zero_or_pos k with rfl | hk0
    · obtain rfl : j = -1 := by have := Hj.out; omega
      have HB : Hid (b = lessL ys zs) := Lib.hid (by rw [Hb.out]; simp)
      have T5 := Lib.hid (T4.out.drew q)
      clear Hj Hb
      rcases Int.lt_trichotomy r s with h | h | h
      · obtain rfl : b = true := by rw [HB.out]; exact HLO.out.1 h
        have he := ne_of (xs := ys) (ys := zs) fun g => by have := HRS.out g; omega
        rw [he] at PE
        have h3 : ¬ r = s := by omega
        have h4 : (r == s) = false := by simpa using h3
        clear he HB
        go_wp2_with fail
        refine (PO _ (T5.out.rd HX.out) (T5.out.rd HY.out)).out.mono ?_
        rintro e w6 ⟨rfl, hb⟩
        have T6 := Lib.hid (T5.out.call hb)
        clear hb
        go_wp2_with fail
        refine (PP _ (T6.out.rd HX.out) (T6.out.rd HZ.out)).out.mono ?_
        rintro e w7 ⟨rfl, hb⟩
        have T7 := Lib.hid (T6.out.call hb)
        clear hb
        go_wp2_with fail
        refine (PE _ (T7.out.rd HY.out) (T7.out.rd HZ.out)).out.mono ?_
        rintro e w8 ⟨rfl, hb⟩
        have T8 := Lib.hid (T7.out.call hb)
        clear hb
        go_wp2_with fail
        refine (PN _ (T8.out.rd HX.out)).out.mono ?_
        rintro e w' ⟨rfl, rfl⟩
        go_wp2_with fail
        go_ret
        exact ⟨rfl, T8.out⟩
      · obtain rfl : b = false := by
          rw [HB.out]
          cases hh : lessL ys zs
          · rfl
          · have := HLO.out.2 hh; omega
        have he := eq_of (HIJ.out h)
        rw [he] at PE
        subst h
        clear he HB
        go_wp2_with fail
        refine (PO _ (T5.out.rd HX.out) (T5.out.rd HY.out)).out.mono ?_
        rintro e w6 ⟨rfl, hb⟩
        have T6 := Lib.hid (T5.out.call hb)
        clear hb
        go_wp2_with fail
        refine (PP _ (T6.out.rd HX.out) (T6.out.rd HZ.out)).out.mono ?_
        rintro e w7 ⟨rfl, hb⟩
        have T7 := Lib.hid (T6.out.call hb)
        clear hb
        go_wp2_with fail
        refine (PE _ (T7.out.rd HY.out) (T7.out.rd HZ.out)).out.mono ?_
        rintro e w8 ⟨rfl, hb⟩
        have T8 := Lib.hid (T7.out.call hb)
        clear hb
        go_wp2_with fail
        refine (PN _ (T8.out.rd HX.out)).out.mono ?_
        rintro e w' ⟨rfl, rfl⟩
        go_wp2_with fail
        go_ret
        exact ⟨rfl, T8.out⟩
      · obtain rfl : b = false := by
          rw [HB.out]
          cases hh : lessL ys zs
          · rfl
          · have := HLO.out.2 hh; omega
        have he := ne_of (xs := ys) (ys := zs) fun g => by have := HRS.out g; omega
        rw [he] at PE
        have h3 : ¬ r = s := by omega
        have h4 : (r == s) = false := by simpa using h3
        have h5 : ¬ r < s := by omega
        have h6 : decide (r < s) = false := by simpa using h5
        clear he HB
        go_wp2_with fail
        refine (PO _ (T5.out.rd HX.out) (T5.out.rd HY.out)).out.mono ?_
        rintro e w6 ⟨rfl, hb⟩
        have T6 := Lib.hid (T5.out.call hb)
        clear hb
        go_wp2_with fail
        refine (PP _ (T6.out.rd HX.out) (T6.out.rd HZ.out)).out.mono ?_
        rintro e w7 ⟨rfl, hb⟩
        have T7 := Lib.hid (T6.out.call hb)
        clear hb
        go_wp2_with fail
        refine (PE _ (T7.out.rd HY.out) (T7.out.rd HZ.out)).out.mono ?_
        rintro e w8 ⟨rfl, hb⟩
        have T8 := Lib.hid (T7.out.call hb)
        clear hb
        go_wp2_with fail
        refine (PN _ (T8.out.rd HX.out)).out.mono ?_
        rintro e w' ⟨rfl, rfl⟩
        go_wp2_with fail
        go_ret
        exact ⟨rfl, T8.out⟩
    · obtain ⟨k, rfl⟩ : ∃ i, k = i + 1 := ⟨k - 1, by omega⟩
      obtain rfl : j = (k : Int) := by have := Hj.out; omega
      clear Hj
      have hkn : k < n := by omega
      obtain ⟨ad1, y, rfl, hy, hc1⟩ := (T4.out.rd HY.out).at_ hkn
      obtain ⟨ad2, z, rfl, hz, hc2⟩ := (T4.out.rd HZ.out).at_ hkn
      have HS := Lib.hid (less_step hy hz)
      have hki : (k : Int) < (n : Int) := by omega
      clear hy hz
      rcases Int.lt_trichotomy y z with h | h | h
      · have HE := Lib.hid (show true = lessL (ys.drop k) (zs.drop k) by rw [HS.out, decide_eq_true h]; rfl)
        have hd1 : decide (y < z) = true := by simpa using h
        go_wp2_with fail
        go_quiet (fail)
        go_wp2_with fail
        go_roundw
        case rel => exact ⟨k, _, by omega, _, by go_num, by omega, by omega, Lib.hid rfl, rfl, true, rfl, HE⟩
        case measure => first | (simp [intOf]; done) | (simp [intOf]; omega)
      · subst h
        have hd1 : decide (y < y) = false := by simp
        have HE := Lib.hid (show b = lessL (ys.drop k) (zs.drop k) by rw [HS.out, hd1, decide_eq_true rfl, ← Hb.out]; simp)
        clear Hb
        cases b
        all_goals
          go_wp2_with fail
          go_quiet (fail)
          go_wp2_with fail
          go_roundw
          case rel => exact ⟨k, _, by omega, _, by go_num, by omega, by omega, Lib.hid rfl, rfl, _, rfl, HE⟩
          case measure => first | (simp [intOf]; done) | (simp [intOf]; omega)
      · have h3 : ¬ y < z := by omega
        have h4 : ¬ y = z := by omega
        have HE := Lib.hid (show false = lessL (ys.drop k) (zs.drop k) by rw [HS.out, decide_eq_false h3, decide_eq_false h4]; rfl)
        have hd1 : decide (y < z) = false := by simpa using h3
        have hd2 : (y == z) = false := by simpa using h4
        go_wp2_with fail
        go_quiet (fail)
        go_wp2_with fail
        go_roundw
        case rel => exact ⟨k, _, by omega, _, by go_num, by omega, by omega, Lib.hid rfl, rfl, false, rfl, HE⟩
        case measure => first | (simp [intOf]; done) | (simp [intOf]; omega)

theorem walk_GammaOrders (A B C : Option Addr) (n c m d l e : Nat) (xs ys zs : List Int) (w : World) (hx : In w A n c xs) (hy : In w B m d ys) (hz : In w C l e zs) :
    Calls Try.prog 7 #[.slice A n c, .slice B m d, .slice C l e] w (Holds w) := by
  by_cases h : ¬ chkE xs = 0 ∨ ¬ vldB xs ys = true ∨ ¬ vldB xs zs = true
  · exact orders_wrong A B C n c m d l e xs ys zs w hx hy hz h
  · exact orders_right A B C n c m d l e xs ys zs w hx hy hz (Classical.byContradiction fun g => h (.inl g)) (Classical.byContradiction fun g => h (.inr (.inl g))) (Classical.byContradiction fun g => h (.inr (.inr g)))
end Go.Proofs.Ytehpigijlgkokaa.laws
