/- The walk of ParseBlanks. -/
import Derived.Test.YtihkflpbccebmaaDoorPsLaw
import Derived.Test.YtihkflpbccebmaaDoorLawLines9
import Derived.Test.YtihkflpbccebmaaDoorRefToks
import Derived.Test.YtihkflpbccebmaaDoorTokSame
namespace Go.Proofs.YtihkflpbccebmaaDoor.ps
open Go.ChangeShapes Go.WideShapes Go.ChangeAt Go.RowKit Go.Proofs.YtihkflpbccebmaaDoor.mem Go.Proofs.YtihkflpbccebmaaDoor.lx Go.Proofs.YtihkflpbccebmaaDoor.tr
set_option linter.unusedVariables false
set_option linter.unusedSimpArgs false

theorem wid_drop {M : List Tk} {k : Nat} {y : Tk} {D : List UInt8} (hy : M[k]? = some y) (h : D ++ widF (M.drop k) = 32 :: widF M) : ((D ++ y.t) ++ [9, 32]) ++ widF (M.drop (k + 1)) = 32 :: widF M := by
  obtain ⟨hk, rfl⟩ := List.getElem?_eq_some_iff.1 hy
  rw [List.drop_eq_getElem_cons hk] at h
  rw [← h]
  show _ = D ++ ((M[k]).t ++ (9 :: 32 :: widF (M.drop (k + 1))))
  simp
theorem wid_end {M : List Tk} {k : Nat} {D : List UInt8} (hk : M.length ≤ k) (h : D ++ widF (M.drop k) = 32 :: widF M) : D = 32 :: widF M := by
  rw [List.drop_eq_nil_of_le hk] at h
  simpa [widF] using h
set_option maxHeartbeats 4000000 in
set_option maxRecDepth 100000 in
theorem blanks_over (l : List UInt8) (w : World) (hl : Lays w) (h1 : 1000 < l.length) : Calls Tryd.prog 5 #[.string (txt.strOf l)] w (Holds w) := by
  have AW := Lib.hid (fun W h => awake_true W h)
  have hz := txt.strOf_size l
  have HL := Lib.hid hl; clear hl
  have AF := Lib.hid (Aft.refl w)
  have g1 : (1000 : Int) < l.length := by omega
  clear h1
  go_enter Tryd.func5, Tryd.ntmps5
  go_wp2_with fail
  refine (AW.out _ HL.out).mono ?_
  rintro e w0 ⟨rfl, hb⟩
  have HL := Lib.hid (HL.out.below hb)
  have AF := Lib.hid (AF.out.call hb)
  clear hb
  go_wp2_with fail
  refine (AW.out _ HL.out).mono ?_
  rintro e w1 ⟨rfl, hb⟩
  have HL := Lib.hid (HL.out.below hb)
  have AF := Lib.hid (AF.out.call hb)
  clear hb
  go_wp2_with fail
  go_ret
  exact ⟨rfl, AF.out⟩
set_option maxHeartbeats 4000000 in
set_option maxRecDepth 100000 in
theorem blanks_none (l : List UInt8) (w : World) (hl : Lays w) (h1 : l.length ≤ 1000) (ht : toks l = none) : Calls Tryd.prog 5 #[.string (txt.strOf l)] w (Holds w) := by
  have AW := Lib.hid (fun W h => awake_true W h)
  have hz := txt.strOf_size l
  have HL := Lib.hid hl; clear hl
  have AF := Lib.hid (Aft.refl w)
  have KR := Lib.hid (fun W => refTokens_any (txt.strOf l) (by rw [hz]; omega) W)
  rw [bl_str] at KR
  have e1 : okB l = false := by unfold okB; rw [ht]; rfl
  have e2 : tokL l = [] := by unfold tokL; rw [ht]; rfl
  rw [e1, e2] at KR
  have g1 : ¬ (1000 : Int) < l.length := by omega
  clear h1 ht e1 e2
  go_enter Tryd.func5, Tryd.ntmps5
  go_wp2_with fail
  refine (AW.out _ HL.out).mono ?_
  rintro e w0 ⟨rfl, hb⟩
  have HL := Lib.hid (HL.out.below hb)
  have AF := Lib.hid (AF.out.call hb)
  clear hb
  go_wp2_with fail
  refine (KR.out _).mono ?_
  rintro e w2 ⟨A, d, rfl, -, hb⟩
  have HL := Lib.hid (HL.out.below hb)
  have AF := Lib.hid (AF.out.call hb)
  clear hb
  go_wp2_with fail
  go_ret
  exact ⟨rfl, AF.out⟩
set_option maxHeartbeats 4000000 in
set_option maxRecDepth 100000 in
theorem blanks_bad (l : List UInt8) (w : World) (hl : Lays w) (h1 : l.length ≤ 1000) (M : List Tk) (ht : toks l = some M) (nm : List UInt8) (T : Tr) (E : Int) (hr : lineOf asN l = (nm, T, E)) (U : Tr) (F : Int) (hr2 : lineOf unN l = ([], U, F)) (hF : F ≠ 0) : Calls Tryd.prog 5 #[.string (txt.strOf l)] w (Holds w) := by
  have AW := Lib.hid (fun W h => awake_true W h)
  have hz := txt.strOf_size l
  have HL := Lib.hid hl; clear hl
  have AF := Lib.hid (Aft.refl w)
  have KR := Lib.hid (fun W => refTokens_any (txt.strOf l) (by rw [hz]; omega) W)
  rw [bl_str] at KR
  have e1 : okB l = true := by unfold okB; rw [ht]; rfl
  have e2 : tokL l = M := by unfold tokL; rw [ht]; rfl
  rw [e1, e2] at KR
  have hw := (tok_each l.length l M (Nat.le_refl _) (toks_ok ht).2.2.2).2
  have hML : M.length ≤ 1000 := by have := (toks_ok ht).2.2.1; omega
  have HW3 := Lib.hid (show (32 :: widF M).length ≤ 3001 by simp; omega)
  have PA := Lib.hid (fun W h => line_any l (by omega) W h)
  rw [hr] at PA
  have PB := Lib.hid (fun W h => line_any (32 :: widF M) (by simp; omega) W h)
  rw [blanks_line ht h1, hr] at PB
  have PC := Lib.hid (fun W h => expr_text l (by omega) W h)
  rw [hr2] at PC
  have PD := Lib.hid (fun W h => expr_text (([40, 40] ++ (32 :: widF M)) ++ [41, 41]) (by simp; omega) W h)
  obtain ⟨r4, hr4⟩ : ∃ r, r = lineOf unN (([40, 40] ++ (32 :: widF M)) ++ [41, 41]) := ⟨_, rfl⟩
  rw [← hr4] at PD
  obtain ⟨nm4, U4, F4⟩ := r4
  clear hr4
  have ge : (F != 0) = true := by simpa using hF
  clear hF
  have PS := Lib.hid (fun (T : Tr) u v W (h : RdT W T u) (h' : RdT W T v) => same_self_any T u v W h h')
  have WD := Lib.hid (fun (k : Nat) (y : Tk) (D : List UInt8) (hy : M[k]? = some y) (h : D ++ widF (M.drop k) = 32 :: widF M) => wid_drop hy h)
  have WE := Lib.hid (fun (k : Nat) (D : List UInt8) (hk : M.length ≤ k) (h : D ++ widF (M.drop k) = 32 :: widF M) => wid_end hk h)
  have W0 := Lib.hid (show ([32] : List UInt8) ++ widF (M.drop 0) = 32 :: widF M from rfl)
  obtain ⟨X, hX⟩ : ∃ X, X = 32 :: widF M := ⟨_, rfl⟩
  rw [← hX] at PB PD HW3 WD WE W0
  obtain ⟨X1, hX1⟩ : ∃ Y, Y = ([40, 40] : List UInt8) ++ X := ⟨_, rfl⟩
  obtain ⟨X2, hX2⟩ : ∃ Y, Y = X1 ++ ([41, 41] : List UInt8) := ⟨_, rfl⟩
  have c1 : ∀ W, (Op.stringOp .add ⟨#[40, 40]⟩ (txt.strOf X)).run Tryd.prog W = .ok (.string (txt.strOf X1)) W := by rw [hX1]; exact txt.cat_run [40, 40] X (by have := HW3.out; simp only [List.length_cons, List.length_nil]; omega)
  have c2 : ∀ W, (Op.stringOp .add (txt.strOf X1) ⟨#[41, 41]⟩).run Tryd.prog W = .ok (.string (txt.strOf X2)) W := by rw [hX2]; exact txt.cat_run X1 [41, 41] (by rw [hX1]; have := HW3.out; simp only [List.length_append, List.length_cons, List.length_nil]; omega)
  rw [← hX1, ← hX2] at PD
  clear hX hX1 hX2
  obtain ⟨n, hn⟩ : ∃ n, n = M.length := ⟨_, rfl⟩
  rw [← hn] at hML
  have HN := Lib.hid hn
  have g1 : ¬ (1000 : Int) < l.length := by omega
  clear h1 ht e1 e2 hw hr hr2 hn
  go_enter Tryd.func5, Tryd.ntmps5
  go_wp2_with fail
  refine (AW.out _ HL.out).mono ?_
  rintro e w0 ⟨rfl, hb⟩
  have HL := Lib.hid (HL.out.below hb)
  have AF := Lib.hid (AF.out.call hb)
  clear hb
  go_wp2_with fail
  refine (KR.out _).mono ?_
  rintro e w2 ⟨A, d, rfl, ho, hb⟩
  have HL := Lib.hid (HL.out.below hb)
  have AF := Lib.hid (AF.out.call hb)
  have RK := Lib.hid ho.rd
  rw [← HN.out] at RK ⊢
  clear hb ho
  go_wp2_with fail
  go_loopw [5, 6] (fun t i wr => ∃ k : Nat, k ≤ n ∧ i = .int .i64 k ∧ Hid (Below w2.heap.size w2 wr) ∧ ∃ D : List UInt8, t = .string (txt.strOf D) ∧ Hid (D ++ widF (M.drop k) = X)) (fun t i _ => n - (intOf i).toNat)
  case atStart => exact ⟨0, Nat.zero_le _, rfl, Lib.hid (Below.refl _ _), [32], rfl, W0⟩
  case round =>
    obtain ⟨k, hk, rfl, HB, D, rfl, HD⟩ := hrel
    by_cases hlt : k < n
    · obtain ⟨y, hy⟩ : ∃ y, M[k]? = some y := ⟨_, List.getElem?_eq_getElem (by rw [← HN.out]; exact hlt)⟩
      obtain ⟨ad, rfl, _, q1, q2, q3⟩ := (RK.out.below HB.out).2 k y hy
      replace q2 := cell_snd q2
      clear q1 q3
      have hD2 := Lib.hid (WD.out k y D hy HD.out)
      have hDl := congrArg List.length hD2.out
      simp only [List.length_append, List.length_cons, List.length_nil] at hDl
      obtain ⟨D1, hD1⟩ : ∃ Y, Y = D ++ y.t := ⟨_, rfl⟩
      obtain ⟨D2, hD3⟩ : ∃ Y, Y = D1 ++ ([9, 32] : List UInt8) := ⟨_, rfl⟩
      have c3 : ∀ W, (Op.stringOp .add (txt.strOf D) (txt.strOf y.t)).run Tryd.prog W = .ok (.string (txt.strOf D1)) W := by rw [hD1]; exact txt.cat_run D y.t (by have := HW3.out; omega)
      have c4 : ∀ W, (Op.stringOp .add (txt.strOf D1) ⟨#[9, 32]⟩).run Tryd.prog W = .ok (.string (txt.strOf D2)) W := by rw [hD3]; exact txt.cat_run D1 [9, 32] (by rw [hD1]; have := HW3.out; simp only [List.length_append, List.length_cons, List.length_nil]; omega)
      rw [← hD1, ← hD3] at hD2
      clear hDl hD1 hD3 hy c1 c2
      go_wp2_with fail
      go_roundw
      case rel => exact ⟨k + 1, by omega, by go_num, HB, D2, rfl, hD2⟩
      case measure => first | (simp [intOf]; done) | (simp [intOf]; omega)
    · obtain rfl := WE.out k D (by have := HN.out; omega) HD.out
      have hb := HB.out
      have RK := Lib.hid (RK.out.below hb)
      have HL := Lib.hid (HL.out.below hb)
      have AF := Lib.hid (AF.out.call hb)
      clear hb HB HD
      go_wp2_with fail
      refine (PA.out _ HL.out).mono ?_
      rintro e w1 ⟨u, rfl, hu, hb⟩
      obtain ⟨k1, f1, a1, s1, A1, n1, c1, B1, m1, d1, rfl, -⟩ := RdQ_six hu
      obtain ⟨V1, hV⟩ : ∃ V, V = w1.alloc (.cells #[.string (txt.strOf nm), .int .i64 k1, .int .i64 f1, .int .i64 a1, .string s1, .slice A1 n1 c1, .slice B1 m1 d1] 33) := ⟨_, rfl⟩
      obtain ⟨sx, b2, -⟩ := seven_new hV
      have RK := Lib.hid ((RK.out.below hb).below b2)
      have HL := Lib.hid ((HL.out.below hb).below b2)
      have AF := Lib.hid ((AF.out.call hb).call b2)
      have TR1 : Hid (RdT V1 _ (.agg #[.int .i64 k1, .int .i64 f1, .int .i64 a1, .string s1, .slice A1 n1 c1, .slice B1 m1 d1])) := Lib.hid (hu.rd.below b2)
      have SX1 := Lib.hid sx
      have HV := Lib.hid hV
      clear hV sx b2 hb hu
      go_upto_region 12 with fail
      rw [← HV.out]
      clear HV
      go_wp2_with fail
      refine (PB.out _ HL.out).mono ?_
      rintro e w2 ⟨u, rfl, hu, hb⟩
      obtain ⟨k2, f2, a2, s2, A2, n2, c2, B2, m2, d2, rfl, -⟩ := RdQ_six hu
      obtain ⟨V2, hV⟩ : ∃ V, V = w2.alloc (.cells #[.string (txt.strOf nm), .int .i64 k2, .int .i64 f2, .int .i64 a2, .string s2, .slice A2 n2 c2, .slice B2 m2 d2] 33) := ⟨_, rfl⟩
      obtain ⟨sx, b2, -⟩ := seven_new hV
      have RK := Lib.hid ((RK.out.below hb).below b2)
      have TR1 := Lib.hid ((TR1.out.below hb).below b2)
      have SX1 := Lib.hid ((SX1.out.below hb).below b2)
      have HL := Lib.hid ((HL.out.below hb).below b2)
      have AF := Lib.hid ((AF.out.call hb).call b2)
      have TR2 : Hid (RdT V2 _ (.agg #[.int .i64 k2, .int .i64 f2, .int .i64 a2, .string s2, .slice A2 n2 c2, .slice B2 m2 d2])) := Lib.hid (hu.rd.below b2)
      have SX2 := Lib.hid sx
      have HV := Lib.hid hV
      clear hV sx b2 hb hu
      go_upto_region 13 with fail
      rw [← HV.out]
      clear HV
      go_wp2_with fail
      refine (PC.out _ HL.out).mono ?_
      rintro e w3 ⟨u, rfl, hu, hb⟩
      obtain ⟨k3, f3, a3, s3, A3, n3, c3, B3, m3, d3, rfl, -⟩ := RdQ_six hu
      obtain ⟨V3, hV⟩ : ∃ V, V = w3.alloc (.cells #[.int .i64 k3, .int .i64 f3, .int .i64 a3, .string s3, .slice A3 n3 c3, .slice B3 m3 d3] 26) := ⟨_, rfl⟩
      obtain ⟨sx, b2, -⟩ := six_new hV
      have RK := Lib.hid ((RK.out.below hb).below b2)
      have TR1 := Lib.hid ((TR1.out.below hb).below b2)
      have SX1 := Lib.hid ((SX1.out.below hb).below b2)
      have TR2 := Lib.hid ((TR2.out.below hb).below b2)
      have SX2 := Lib.hid ((SX2.out.below hb).below b2)
      have HL := Lib.hid ((HL.out.below hb).below b2)
      have AF := Lib.hid ((AF.out.call hb).call b2)
      have TR3 : Hid (RdT V3 _ (.agg #[.int .i64 k3, .int .i64 f3, .int .i64 a3, .string s3, .slice A3 n3 c3, .slice B3 m3 d3])) := Lib.hid (hu.rd.below b2)
      have SX3 := Lib.hid sx
      have HV := Lib.hid hV
      clear hV sx b2 hb hu
      go_upto_region 14 with fail
      rw [← HV.out]
      clear HV
      have x1_0 := SX1.out.c0
      have x1_1 := SX1.out.c1
      have x1_2 := SX1.out.c2
      have x1_3 := SX1.out.c3
      have x1_4 := SX1.out.c4
      have x1_5 := SX1.out.c5
      have x1_6 := SX1.out.c6
      have x2_0 := SX2.out.c0
      have x2_1 := SX2.out.c1
      have x2_2 := SX2.out.c2
      have x2_3 := SX2.out.c3
      have x2_4 := SX2.out.c4
      have x2_5 := SX2.out.c5
      have x2_6 := SX2.out.c6
      go_wp2_with fail
      refine (PS.out T _ _ _ TR1.out TR2.out).mono ?_
      rintro e w4 ⟨rfl, hb⟩
      clear x1_0 x1_1 x1_2 x1_3 x1_4 x1_5 x1_6 x2_0 x2_1 x2_2 x2_3 x2_4 x2_5 x2_6
      have RK := Lib.hid (RK.out.below hb)
      have TR1 := Lib.hid (TR1.out.below hb)
      have SX1 := Lib.hid (SX1.out.below hb)
      have TR2 := Lib.hid (TR2.out.below hb)
      have SX2 := Lib.hid (SX2.out.below hb)
      have TR3 := Lib.hid (TR3.out.below hb)
      have SX3 := Lib.hid (SX3.out.below hb)
      have HL := Lib.hid (HL.out.below hb)
      have AF := Lib.hid (AF.out.call hb)
      clear hb
      go_wp2_with fail
      refine (PD.out _ HL.out).mono ?_
      rintro e w5 ⟨u, rfl, hu, hb⟩
      obtain ⟨k4, f4, a4, s4, A4, n4, c4, B4, m4, d4, rfl, -⟩ := RdQ_six hu
      obtain ⟨V5, hV⟩ : ∃ V, V = w5.alloc (.cells #[.int .i64 k4, .int .i64 f4, .int .i64 a4, .string s4, .slice A4 n4 c4, .slice B4 m4 d4] 26) := ⟨_, rfl⟩
      obtain ⟨sx, b2, -⟩ := six_new hV
      have RK := Lib.hid ((RK.out.below hb).below b2)
      have TR1 := Lib.hid ((TR1.out.below hb).below b2)
      have SX1 := Lib.hid ((SX1.out.below hb).below b2)
      have TR2 := Lib.hid ((TR2.out.below hb).below b2)
      have SX2 := Lib.hid ((SX2.out.below hb).below b2)
      have TR3 := Lib.hid ((TR3.out.below hb).below b2)
      have SX3 := Lib.hid ((SX3.out.below hb).below b2)
      have HL := Lib.hid ((HL.out.below hb).below b2)
      have AF := Lib.hid ((AF.out.call hb).call b2)
      have TR4 : Hid (RdT V5 _ (.agg #[.int .i64 k4, .int .i64 f4, .int .i64 a4, .string s4, .slice A4 n4 c4, .slice B4 m4 d4])) := Lib.hid (hu.rd.below b2)
      have SX4 := Lib.hid sx
      have HV := Lib.hid hV
      clear hV sx b2 hb hu
      go_upto_region 17 with fail
      rw [← HV.out]
      clear HV
      go_wp2_with fail
      go_ret
      exact ⟨rfl, AF.out⟩
set_option maxHeartbeats 4000000 in
set_option maxRecDepth 100000 in
theorem blanks_good (l : List UInt8) (w : World) (hl : Lays w) (h1 : l.length ≤ 1000) (M : List Tk) (ht : toks l = some M) (nm : List UInt8) (T : Tr) (E : Int) (hr : lineOf asN l = (nm, T, E)) (U : Tr) (F : Int) (hr2 : lineOf unN l = ([], U, F)) (hF : F = 0) : Calls Tryd.prog 5 #[.string (txt.strOf l)] w (Holds w) := by
  have AW := Lib.hid (fun W h => awake_true W h)
  have hz := txt.strOf_size l
  have HL := Lib.hid hl; clear hl
  have AF := Lib.hid (Aft.refl w)
  subst hF
  have KR := Lib.hid (fun W => refTokens_any (txt.strOf l) (by rw [hz]; omega) W)
  rw [bl_str] at KR
  have e1 : okB l = true := by unfold okB; rw [ht]; rfl
  have e2 : tokL l = M := by unfold tokL; rw [ht]; rfl
  rw [e1, e2] at KR
  have hw := (tok_each l.length l M (Nat.le_refl _) (toks_ok ht).2.2.2).2
  have hML : M.length ≤ 1000 := by have := (toks_ok ht).2.2.1; omega
  have HW3 := Lib.hid (show (32 :: widF M).length ≤ 3001 by simp; omega)
  have PA := Lib.hid (fun W h => line_any l (by omega) W h)
  rw [hr] at PA
  have PB := Lib.hid (fun W h => line_any (32 :: widF M) (by simp; omega) W h)
  rw [blanks_line ht h1, hr] at PB
  have PC := Lib.hid (fun W h => expr_text l (by omega) W h)
  rw [hr2] at PC
  have PD := Lib.hid (fun W h => expr_text (([40, 40] ++ (32 :: widF M)) ++ [41, 41]) (by simp; omega) W h)
  rw [blanks_paren ht h1 hr2] at PD
  have PS := Lib.hid (fun (T : Tr) u v W (h : RdT W T u) (h' : RdT W T v) => same_self_any T u v W h h')
  have WD := Lib.hid (fun (k : Nat) (y : Tk) (D : List UInt8) (hy : M[k]? = some y) (h : D ++ widF (M.drop k) = 32 :: widF M) => wid_drop hy h)
  have WE := Lib.hid (fun (k : Nat) (D : List UInt8) (hk : M.length ≤ k) (h : D ++ widF (M.drop k) = 32 :: widF M) => wid_end hk h)
  have W0 := Lib.hid (show ([32] : List UInt8) ++ widF (M.drop 0) = 32 :: widF M from rfl)
  obtain ⟨X, hX⟩ : ∃ X, X = 32 :: widF M := ⟨_, rfl⟩
  rw [← hX] at PB PD HW3 WD WE W0
  obtain ⟨X1, hX1⟩ : ∃ Y, Y = ([40, 40] : List UInt8) ++ X := ⟨_, rfl⟩
  obtain ⟨X2, hX2⟩ : ∃ Y, Y = X1 ++ ([41, 41] : List UInt8) := ⟨_, rfl⟩
  have c1 : ∀ W, (Op.stringOp .add ⟨#[40, 40]⟩ (txt.strOf X)).run Tryd.prog W = .ok (.string (txt.strOf X1)) W := by rw [hX1]; exact txt.cat_run [40, 40] X (by have := HW3.out; simp only [List.length_cons, List.length_nil]; omega)
  have c2 : ∀ W, (Op.stringOp .add (txt.strOf X1) ⟨#[41, 41]⟩).run Tryd.prog W = .ok (.string (txt.strOf X2)) W := by rw [hX2]; exact txt.cat_run X1 [41, 41] (by rw [hX1]; have := HW3.out; simp only [List.length_append, List.length_cons, List.length_nil]; omega)
  rw [← hX1, ← hX2] at PD
  clear hX hX1 hX2
  obtain ⟨n, hn⟩ : ∃ n, n = M.length := ⟨_, rfl⟩
  rw [← hn] at hML
  have HN := Lib.hid hn
  have g1 : ¬ (1000 : Int) < l.length := by omega
  clear h1 ht e1 e2 hw hr hr2 hn
  go_enter Tryd.func5, Tryd.ntmps5
  go_wp2_with fail
  refine (AW.out _ HL.out).mono ?_
  rintro e w0 ⟨rfl, hb⟩
  have HL := Lib.hid (HL.out.below hb)
  have AF := Lib.hid (AF.out.call hb)
  clear hb
  go_wp2_with fail
  refine (KR.out _).mono ?_
  rintro e w2 ⟨A, d, rfl, ho, hb⟩
  have HL := Lib.hid (HL.out.below hb)
  have AF := Lib.hid (AF.out.call hb)
  have RK := Lib.hid ho.rd
  rw [← HN.out] at RK ⊢
  clear hb ho
  go_wp2_with fail
  go_loopw [5, 6] (fun t i wr => ∃ k : Nat, k ≤ n ∧ i = .int .i64 k ∧ Hid (Below w2.heap.size w2 wr) ∧ ∃ D : List UInt8, t = .string (txt.strOf D) ∧ Hid (D ++ widF (M.drop k) = X)) (fun t i _ => n - (intOf i).toNat)
  case atStart => exact ⟨0, Nat.zero_le _, rfl, Lib.hid (Below.refl _ _), [32], rfl, W0⟩
  case round =>
    obtain ⟨k, hk, rfl, HB, D, rfl, HD⟩ := hrel
    by_cases hlt : k < n
    · obtain ⟨y, hy⟩ : ∃ y, M[k]? = some y := ⟨_, List.getElem?_eq_getElem (by rw [← HN.out]; exact hlt)⟩
      obtain ⟨ad, rfl, _, q1, q2, q3⟩ := (RK.out.below HB.out).2 k y hy
      replace q2 := cell_snd q2
      clear q1 q3
      have hD2 := Lib.hid (WD.out k y D hy HD.out)
      have hDl := congrArg List.length hD2.out
      simp only [List.length_append, List.length_cons, List.length_nil] at hDl
      obtain ⟨D1, hD1⟩ : ∃ Y, Y = D ++ y.t := ⟨_, rfl⟩
      obtain ⟨D2, hD3⟩ : ∃ Y, Y = D1 ++ ([9, 32] : List UInt8) := ⟨_, rfl⟩
      have c3 : ∀ W, (Op.stringOp .add (txt.strOf D) (txt.strOf y.t)).run Tryd.prog W = .ok (.string (txt.strOf D1)) W := by rw [hD1]; exact txt.cat_run D y.t (by have := HW3.out; omega)
      have c4 : ∀ W, (Op.stringOp .add (txt.strOf D1) ⟨#[9, 32]⟩).run Tryd.prog W = .ok (.string (txt.strOf D2)) W := by rw [hD3]; exact txt.cat_run D1 [9, 32] (by rw [hD1]; have := HW3.out; simp only [List.length_append, List.length_cons, List.length_nil]; omega)
      rw [← hD1, ← hD3] at hD2
      clear hDl hD1 hD3 hy c1 c2
      go_wp2_with fail
      go_roundw
      case rel => exact ⟨k + 1, by omega, by go_num, HB, D2, rfl, hD2⟩
      case measure => first | (simp [intOf]; done) | (simp [intOf]; omega)
    · obtain rfl := WE.out k D (by have := HN.out; omega) HD.out
      have hb := HB.out
      have RK := Lib.hid (RK.out.below hb)
      have HL := Lib.hid (HL.out.below hb)
      have AF := Lib.hid (AF.out.call hb)
      clear hb HB HD
      go_wp2_with fail
      refine (PA.out _ HL.out).mono ?_
      rintro e w1 ⟨u, rfl, hu, hb⟩
      obtain ⟨k1, f1, a1, s1, A1, n1, c1, B1, m1, d1, rfl, -⟩ := RdQ_six hu
      obtain ⟨V1, hV⟩ : ∃ V, V = w1.alloc (.cells #[.string (txt.strOf nm), .int .i64 k1, .int .i64 f1, .int .i64 a1, .string s1, .slice A1 n1 c1, .slice B1 m1 d1] 33) := ⟨_, rfl⟩
      obtain ⟨sx, b2, -⟩ := seven_new hV
      have RK := Lib.hid ((RK.out.below hb).below b2)
      have HL := Lib.hid ((HL.out.below hb).below b2)
      have AF := Lib.hid ((AF.out.call hb).call b2)
      have TR1 : Hid (RdT V1 _ (.agg #[.int .i64 k1, .int .i64 f1, .int .i64 a1, .string s1, .slice A1 n1 c1, .slice B1 m1 d1])) := Lib.hid (hu.rd.below b2)
      have SX1 := Lib.hid sx
      have HV := Lib.hid hV
      clear hV sx b2 hb hu
      go_upto_region 12 with fail
      rw [← HV.out]
      clear HV
      go_wp2_with fail
      refine (PB.out _ HL.out).mono ?_
      rintro e w2 ⟨u, rfl, hu, hb⟩
      obtain ⟨k2, f2, a2, s2, A2, n2, c2, B2, m2, d2, rfl, -⟩ := RdQ_six hu
      obtain ⟨V2, hV⟩ : ∃ V, V = w2.alloc (.cells #[.string (txt.strOf nm), .int .i64 k2, .int .i64 f2, .int .i64 a2, .string s2, .slice A2 n2 c2, .slice B2 m2 d2] 33) := ⟨_, rfl⟩
      obtain ⟨sx, b2, -⟩ := seven_new hV
      have RK := Lib.hid ((RK.out.below hb).below b2)
      have TR1 := Lib.hid ((TR1.out.below hb).below b2)
      have SX1 := Lib.hid ((SX1.out.below hb).below b2)
      have HL := Lib.hid ((HL.out.below hb).below b2)
      have AF := Lib.hid ((AF.out.call hb).call b2)
      have TR2 : Hid (RdT V2 _ (.agg #[.int .i64 k2, .int .i64 f2, .int .i64 a2, .string s2, .slice A2 n2 c2, .slice B2 m2 d2])) := Lib.hid (hu.rd.below b2)
      have SX2 := Lib.hid sx
      have HV := Lib.hid hV
      clear hV sx b2 hb hu
      go_upto_region 13 with fail
      rw [← HV.out]
      clear HV
      go_wp2_with fail
      refine (PC.out _ HL.out).mono ?_
      rintro e w3 ⟨u, rfl, hu, hb⟩
      obtain ⟨k3, f3, a3, s3, A3, n3, c3, B3, m3, d3, rfl, -⟩ := RdQ_six hu
      obtain ⟨V3, hV⟩ : ∃ V, V = w3.alloc (.cells #[.int .i64 k3, .int .i64 f3, .int .i64 a3, .string s3, .slice A3 n3 c3, .slice B3 m3 d3] 26) := ⟨_, rfl⟩
      obtain ⟨sx, b2, -⟩ := six_new hV
      have RK := Lib.hid ((RK.out.below hb).below b2)
      have TR1 := Lib.hid ((TR1.out.below hb).below b2)
      have SX1 := Lib.hid ((SX1.out.below hb).below b2)
      have TR2 := Lib.hid ((TR2.out.below hb).below b2)
      have SX2 := Lib.hid ((SX2.out.below hb).below b2)
      have HL := Lib.hid ((HL.out.below hb).below b2)
      have AF := Lib.hid ((AF.out.call hb).call b2)
      have TR3 : Hid (RdT V3 _ (.agg #[.int .i64 k3, .int .i64 f3, .int .i64 a3, .string s3, .slice A3 n3 c3, .slice B3 m3 d3])) := Lib.hid (hu.rd.below b2)
      have SX3 := Lib.hid sx
      have HV := Lib.hid hV
      clear hV sx b2 hb hu
      go_upto_region 14 with fail
      rw [← HV.out]
      clear HV
      have x1_0 := SX1.out.c0
      have x1_1 := SX1.out.c1
      have x1_2 := SX1.out.c2
      have x1_3 := SX1.out.c3
      have x1_4 := SX1.out.c4
      have x1_5 := SX1.out.c5
      have x1_6 := SX1.out.c6
      have x2_0 := SX2.out.c0
      have x2_1 := SX2.out.c1
      have x2_2 := SX2.out.c2
      have x2_3 := SX2.out.c3
      have x2_4 := SX2.out.c4
      have x2_5 := SX2.out.c5
      have x2_6 := SX2.out.c6
      go_wp2_with fail
      refine (PS.out T _ _ _ TR1.out TR2.out).mono ?_
      rintro e w4 ⟨rfl, hb⟩
      clear x1_0 x1_1 x1_2 x1_3 x1_4 x1_5 x1_6 x2_0 x2_1 x2_2 x2_3 x2_4 x2_5 x2_6
      have RK := Lib.hid (RK.out.below hb)
      have TR1 := Lib.hid (TR1.out.below hb)
      have SX1 := Lib.hid (SX1.out.below hb)
      have TR2 := Lib.hid (TR2.out.below hb)
      have SX2 := Lib.hid (SX2.out.below hb)
      have TR3 := Lib.hid (TR3.out.below hb)
      have SX3 := Lib.hid (SX3.out.below hb)
      have HL := Lib.hid (HL.out.below hb)
      have AF := Lib.hid (AF.out.call hb)
      clear hb
      go_wp2_with fail
      refine (PD.out _ HL.out).mono ?_
      rintro e w5 ⟨u, rfl, hu, hb⟩
      obtain ⟨k4, f4, a4, s4, A4, n4, c4, B4, m4, d4, rfl, -⟩ := RdQ_six hu
      obtain ⟨V5, hV⟩ : ∃ V, V = w5.alloc (.cells #[.int .i64 k4, .int .i64 f4, .int .i64 a4, .string s4, .slice A4 n4 c4, .slice B4 m4 d4] 26) := ⟨_, rfl⟩
      obtain ⟨sx, b2, -⟩ := six_new hV
      have RK := Lib.hid ((RK.out.below hb).below b2)
      have TR1 := Lib.hid ((TR1.out.below hb).below b2)
      have SX1 := Lib.hid ((SX1.out.below hb).below b2)
      have TR2 := Lib.hid ((TR2.out.below hb).below b2)
      have SX2 := Lib.hid ((SX2.out.below hb).below b2)
      have TR3 := Lib.hid ((TR3.out.below hb).below b2)
      have SX3 := Lib.hid ((SX3.out.below hb).below b2)
      have HL := Lib.hid ((HL.out.below hb).below b2)
      have AF := Lib.hid ((AF.out.call hb).call b2)
      have TR4 : Hid (RdT V5 _ (.agg #[.int .i64 k4, .int .i64 f4, .int .i64 a4, .string s4, .slice A4 n4 c4, .slice B4 m4 d4])) := Lib.hid (hu.rd.below b2)
      have SX4 := Lib.hid sx
      have HV := Lib.hid hV
      clear hV sx b2 hb hu
      go_upto_region 17 with fail
      rw [← HV.out]
      clear HV
      have x3_0 := SX3.out.c0
      have x3_1 := SX3.out.c1
      have x3_2 := SX3.out.c2
      have x3_3 := SX3.out.c3
      have x3_4 := SX3.out.c4
      have x3_5 := SX3.out.c5
      have x4_0 := SX4.out.c0
      have x4_1 := SX4.out.c1
      have x4_2 := SX4.out.c2
      have x4_3 := SX4.out.c3
      have x4_4 := SX4.out.c4
      have x4_5 := SX4.out.c5
      go_wp2_with fail
      refine (PS.out U _ _ _ TR3.out TR4.out).mono ?_
      rintro e w6 ⟨rfl, hb⟩
      clear x3_0 x3_1 x3_2 x3_3 x3_4 x3_5 x4_0 x4_1 x4_2 x4_3 x4_4 x4_5
      have RK := Lib.hid (RK.out.below hb)
      have TR1 := Lib.hid (TR1.out.below hb)
      have SX1 := Lib.hid (SX1.out.below hb)
      have TR2 := Lib.hid (TR2.out.below hb)
      have SX2 := Lib.hid (SX2.out.below hb)
      have TR3 := Lib.hid (TR3.out.below hb)
      have SX3 := Lib.hid (SX3.out.below hb)
      have TR4 := Lib.hid (TR4.out.below hb)
      have SX4 := Lib.hid (SX4.out.below hb)
      have HL := Lib.hid (HL.out.below hb)
      have AF := Lib.hid (AF.out.call hb)
      clear hb
      go_wp2_with fail
      go_ret
      exact ⟨rfl, AF.out⟩
theorem un_nil (l : List UInt8) : (lineOf unN l).1 = [] := by
  cases ht : toks l with
  | none => rw [line_none ht]
  | some M =>
    rw [line_some ht]
    unfold lnT
    cases exT (unN M).2 with
    | none => rfl
    | some T =>
      simp only []
      by_cases hd : 100 < deepT T
      · rw [if_pos hd]
      · rw [if_neg hd]; rfl
theorem walk_ParseBlanks (s : ByteArray) (hs : s.size ≤ maxLen) (w : World) (hl : Lays w) : Calls Tryd.prog 5 #[.string s] w (Holds w) := by
  rw [← str_bl s]
  by_cases h1 : (bl s).length ≤ 1000
  · cases ht : toks (bl s) with
    | none => exact blanks_none _ w hl h1 ht
    | some M =>
      obtain ⟨r, hr⟩ : ∃ r, lineOf asN (bl s) = r := ⟨_, rfl⟩
      obtain ⟨nm, T, E⟩ := r
      obtain ⟨r2, hr2⟩ : ∃ r, lineOf unN (bl s) = r := ⟨_, rfl⟩
      have hn := un_nil (bl s)
      rw [hr2] at hn
      obtain ⟨nm2, U, F⟩ := r2
      simp only [] at hn
      subst hn
      by_cases hF : F = 0
      · exact blanks_good _ w hl h1 M ht nm T E hr U F hr2 hF
      · exact blanks_bad _ w hl h1 M ht nm T E hr U F hr2 hF
  · exact blanks_over _ w hl (by omega)
end Go.Proofs.YtihkflpbccebmaaDoor.ps
