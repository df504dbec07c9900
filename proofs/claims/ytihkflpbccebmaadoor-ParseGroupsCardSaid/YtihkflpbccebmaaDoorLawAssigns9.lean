/- The walk of ParseAssigns. -/
import Derived.Test.YtihkflpbccebmaaDoorPsLaw
import Derived.Test.YtihkflpbccebmaaDoorLawLines9
import Derived.Test.YtihkflpbccebmaaDoorLexNam
namespace Go.Proofs.YtihkflpbccebmaaDoor.ps
open Go.ChangeShapes Go.WideShapes Go.ChangeAt Go.RowKit Go.Proofs.YtihkflpbccebmaaDoor.mem Go.Proofs.YtihkflpbccebmaaDoor.lx Go.Proofs.YtihkflpbccebmaaDoor.tr
set_option linter.unusedVariables false
set_option linter.unusedSimpArgs false

set_option maxHeartbeats 4000000 in
set_option maxRecDepth 100000 in
theorem assigns_long (l n : List UInt8) (w : World) (hl : Lays w) (h1 : 1000 < l.length) : Calls Tryd.prog 6 #[.string (txt.strOf l), .string (txt.strOf n)] w (Holds w) := by
  have AW := Lib.hid (fun W h => awake_true W h)
  have hz := txt.strOf_size l
  have hz2 := txt.strOf_size n
  have HL := Lib.hid hl; clear hl
  have AF := Lib.hid (Aft.refl w)
  have g1 : (1000 : Int) < l.length := by omega
  clear h1
  go_enter Tryd.func6, Tryd.ntmps6
  go_wp2_with fail
  refine (AW.out _ HL.out).mono ?_
  rintro e w0 ⟨rfl, hb⟩
  have HL := Lib.hid (HL.out.below hb)
  have AF := Lib.hid (AF.out.call hb)
  clear hb
  go_wp2_with fail
  refine (AW.out _ HL.out).mono ?_
  rintro e w1 ⟨rfl, hb⟩
  have HL := Lib.hid (HL.out.below hb)
  have AF := Lib.hid (AF.out.call hb)
  clear hb
  go_wp2_with fail
  go_ret
  exact ⟨rfl, AF.out⟩
set_option maxHeartbeats 4000000 in
set_option maxRecDepth 100000 in
theorem assigns_wide (l n : List UInt8) (w : World) (hl : Lays w) (h1 : l.length ≤ 1000) (h2 : 100 < n.length) : Calls Tryd.prog 6 #[.string (txt.strOf l), .string (txt.strOf n)] w (Holds w) := by
  have AW := Lib.hid (fun W h => awake_true W h)
  have hz := txt.strOf_size l
  have hz2 := txt.strOf_size n
  have HL := Lib.hid hl; clear hl
  have AF := Lib.hid (Aft.refl w)
  have g1 : ¬ (1000 : Int) < l.length := by omega
  have g2 : (100 : Int) < n.length := by omega
  clear h1 h2
  go_enter Tryd.func6, Tryd.ntmps6
  go_wp2_with fail
  refine (AW.out _ HL.out).mono ?_
  rintro e w0 ⟨rfl, hb⟩
  have HL := Lib.hid (HL.out.below hb)
  have AF := Lib.hid (AF.out.call hb)
  clear hb
  go_wp2_with fail
  refine (AW.out _ HL.out).mono ?_
  rintro e w1 ⟨rfl, hb⟩
  have HL := Lib.hid (HL.out.below hb)
  have AF := Lib.hid (AF.out.call hb)
  clear hb
  go_wp2_with fail
  go_ret
  exact ⟨rfl, AF.out⟩
set_option maxHeartbeats 4000000 in
set_option maxRecDepth 100000 in
theorem assigns_none (l n : List UInt8) (w : World) (hl : Lays w) (h1 : l.length ≤ 1000) (h2 : n.length ≤ 100) (hn : nameB n = false) : Calls Tryd.prog 6 #[.string (txt.strOf l), .string (txt.strOf n)] w (Holds w) := by
  have AW := Lib.hid (fun W h => awake_true W h)
  have hz := txt.strOf_size l
  have hz2 := txt.strOf_size n
  have HL := Lib.hid hl; clear hl
  have AF := Lib.hid (Aft.refl w)
  have PN := Lib.hid (fun W => (show Calls Tryd.prog 15 #[.string (txt.strOf n)] W (fun e w' => e = .returned (.bool false) ∧ W = w') by have := refName_any (txt.strOf n) W (by rw [txt.strOf_size]; omega); rwa [bl_str, hn] at this))
  have g1 : ¬ (1000 : Int) < l.length := by omega
  have g2 : ¬ (100 : Int) < n.length := by omega
  clear h1 h2 hn
  go_enter Tryd.func6, Tryd.ntmps6
  go_wp2_with fail
  refine (AW.out _ HL.out).mono ?_
  rintro e w0 ⟨rfl, hb⟩
  have HL := Lib.hid (HL.out.below hb)
  have AF := Lib.hid (AF.out.call hb)
  clear hb
  go_wp2_with fail
  refine (PN.out _).mono ?_
  rintro e w1 ⟨rfl, hw⟩
  obtain rfl := hw.symm
  clear hw
  go_wp2_with fail
  refine (AW.out _ HL.out).mono ?_
  rintro e w2 ⟨rfl, hb⟩
  have HL := Lib.hid (HL.out.below hb)
  have AF := Lib.hid (AF.out.call hb)
  clear hb
  go_wp2_with fail
  go_ret
  exact ⟨rfl, AF.out⟩
set_option maxHeartbeats 4000000 in
set_option maxRecDepth 100000 in
theorem assigns_bad (l n : List UInt8) (w : World) (hl : Lays w) (h1 : l.length ≤ 1000) (h2 : n.length ≤ 100) (hn : nameB n = true) (nm : List UInt8) (T : Tr) (E : Int) (hE : E ≠ 0) (hr : lineOf unN l = (nm, T, E)) : Calls Tryd.prog 6 #[.string (txt.strOf l), .string (txt.strOf n)] w (Holds w) := by
  have AW := Lib.hid (fun W h => awake_true W h)
  have hz := txt.strOf_size l
  have hz2 := txt.strOf_size n
  have HL := Lib.hid hl; clear hl
  have AF := Lib.hid (Aft.refl w)
  have PN := Lib.hid (fun W => (show Calls Tryd.prog 15 #[.string (txt.strOf n)] W (fun e w' => e = .returned (.bool true) ∧ W = w') by have := refName_any (txt.strOf n) W (by rw [txt.strOf_size]; omega); rwa [bl_str, hn] at this))
  have PE := Lib.hid (fun W h => expr_text l (by omega) W h)
  rw [hr] at PE
  have PL := Lib.hid (fun W h => line_any ((n ++ [32, 226, 134, 144]) ++ l) (by simp only [List.length_append, List.length_cons, List.length_nil]; omega) W h)
  have e0 := assign_line hn h2 h1
  rw [hr] at e0
  simp only [if_neg hE] at e0
  rw [e0] at PL
  clear e0
  obtain ⟨X1, hX1⟩ : ∃ X, X = n ++ ([32, 226, 134, 144] : List UInt8) := ⟨_, rfl⟩
  obtain ⟨X2, hX2⟩ : ∃ X, X = X1 ++ l := ⟨_, rfl⟩
  have c1 : ∀ W, (Op.stringOp .add (txt.strOf n) ⟨#[32, 226, 134, 144]⟩).run Tryd.prog W = .ok (.string (txt.strOf X1)) W := by rw [hX1]; exact txt.cat_run n [32, 226, 134, 144] (by simp only [List.length_cons, List.length_nil]; omega)
  have c2 : ∀ W, (Op.stringOp .add (txt.strOf X1) (txt.strOf l)).run Tryd.prog W = .ok (.string (txt.strOf X2)) W := by rw [hX2]; exact txt.cat_run X1 l (by rw [hX1]; simp only [List.length_append, List.length_cons, List.length_nil]; omega)
  rw [← hX1, ← hX2] at PL
  clear hX1 hX2
  have st := toList_str []
  have ge : (E != 0) = true := by simpa using hE
  have g1 : ¬ (1000 : Int) < l.length := by omega
  have g2 : ¬ (100 : Int) < n.length := by omega
  clear h1 h2 hn hr hE
  go_enter Tryd.func6, Tryd.ntmps6
  go_wp2_with fail
  refine (AW.out _ HL.out).mono ?_
  rintro e w0 ⟨rfl, hb⟩
  have HL := Lib.hid (HL.out.below hb)
  have AF := Lib.hid (AF.out.call hb)
  clear hb
  go_wp2_with fail
  refine (PN.out _).mono ?_
  rintro e w1 ⟨rfl, hw⟩
  obtain rfl := hw.symm
  clear hw
  go_wp2_with fail
  refine (PE.out _ HL.out).mono ?_
  rintro e w2 ⟨u, rfl, hu, hb⟩
  obtain ⟨k1, f1, a1, s1, A1, n1, c1, B1, m1, d1, rfl, -⟩ := RdQ_six hu
  obtain ⟨V2, hV⟩ : ∃ V, V = w2.alloc (.cells #[.int .i64 k1, .int .i64 f1, .int .i64 a1, .string s1, .slice A1 n1 c1, .slice B1 m1 d1] 26) := ⟨_, rfl⟩
  obtain ⟨sx, b2, -⟩ := six_new hV
  have HL := Lib.hid ((HL.out.below hb).below b2)
  have AF := Lib.hid ((AF.out.call hb).call b2)
  have TR1 : Hid (RdT V2 _ (.agg #[.int .i64 k1, .int .i64 f1, .int .i64 a1, .string s1, .slice A1 n1 c1, .slice B1 m1 d1])) := Lib.hid (hu.rd.below b2)
  have SX1 := Lib.hid sx
  have HV := Lib.hid hV
  clear hV sx b2 hb hu
  go_upto_region 4 with fail
  rw [← HV.out]
  clear HV
  go_wp2_with fail
  refine (PL.out _ HL.out).mono ?_
  rintro e w3 ⟨u, rfl, hu, hb⟩
  obtain ⟨k2, f2, a2, s2, A2, n2, c2, B2, m2, d2, rfl, -⟩ := RdQ_six hu
  obtain ⟨V3, hV⟩ : ∃ V, V = w3.alloc (.cells #[.string (txt.strOf []), .int .i64 k2, .int .i64 f2, .int .i64 a2, .string s2, .slice A2 n2 c2, .slice B2 m2 d2] 33) := ⟨_, rfl⟩
  obtain ⟨sx, b2, -⟩ := seven_new hV
  have TR1 := Lib.hid ((TR1.out.below hb).below b2)
  have SX1 := Lib.hid ((SX1.out.below hb).below b2)
  have HL := Lib.hid ((HL.out.below hb).below b2)
  have AF := Lib.hid ((AF.out.call hb).call b2)
  have TR2 : Hid (RdT V3 _ (.agg #[.int .i64 k2, .int .i64 f2, .int .i64 a2, .string s2, .slice A2 n2 c2, .slice B2 m2 d2])) := Lib.hid (hu.rd.below b2)
  have SX2 := Lib.hid sx
  have HV := Lib.hid hV
  clear hV sx b2 hb hu
  go_upto_region 5 with fail
  rw [← HV.out]
  clear HV
  have x2_0 := SX2.out.c0
  have x2_1 := SX2.out.c1
  have x2_2 := SX2.out.c2
  have x2_3 := SX2.out.c3
  have x2_4 := SX2.out.c4
  have x2_5 := SX2.out.c5
  have x2_6 := SX2.out.c6
  go_wp2_with fail
  go_ret
  exact ⟨rfl, AF.out⟩
set_option maxHeartbeats 4000000 in
set_option maxRecDepth 100000 in
theorem assigns_good (l n : List UInt8) (w : World) (hl : Lays w) (h1 : l.length ≤ 1000) (h2 : n.length ≤ 100) (hn : nameB n = true) (T : Tr) (hr : lineOf unN l = ([], T, 0)) : Calls Tryd.prog 6 #[.string (txt.strOf l), .string (txt.strOf n)] w (Holds w) := by
  have AW := Lib.hid (fun W h => awake_true W h)
  have hz := txt.strOf_size l
  have hz2 := txt.strOf_size n
  have HL := Lib.hid hl; clear hl
  have AF := Lib.hid (Aft.refl w)
  have PN := Lib.hid (fun W => (show Calls Tryd.prog 15 #[.string (txt.strOf n)] W (fun e w' => e = .returned (.bool true) ∧ W = w') by have := refName_any (txt.strOf n) W (by rw [txt.strOf_size]; omega); rwa [bl_str, hn] at this))
  have PE := Lib.hid (fun W h => expr_text l (by omega) W h)
  rw [hr] at PE
  have PL := Lib.hid (fun W h => line_any ((n ++ [32, 226, 134, 144]) ++ l) (by simp only [List.length_append, List.length_cons, List.length_nil]; omega) W h)
  have e0 := assign_line hn h2 h1
  rw [hr] at e0
  simp only [if_true] at e0
  rw [e0] at PL
  clear e0
  have PM := Lib.hid (fun W h => line_any l (by omega) W h)
  rw [assign_same hr] at PM
  have PS := Lib.hid (fun u v W (h : RdT W T u) (h' : RdT W T v) => same_self_any T u v W h h')
  obtain ⟨X1, hX1⟩ : ∃ X, X = n ++ ([32, 226, 134, 144] : List UInt8) := ⟨_, rfl⟩
  obtain ⟨X2, hX2⟩ : ∃ X, X = X1 ++ l := ⟨_, rfl⟩
  have c1 : ∀ W, (Op.stringOp .add (txt.strOf n) ⟨#[32, 226, 134, 144]⟩).run Tryd.prog W = .ok (.string (txt.strOf X1)) W := by rw [hX1]; exact txt.cat_run n [32, 226, 134, 144] (by simp only [List.length_cons, List.length_nil]; omega)
  have c2 : ∀ W, (Op.stringOp .add (txt.strOf X1) (txt.strOf l)).run Tryd.prog W = .ok (.string (txt.strOf X2)) W := by rw [hX2]; exact txt.cat_run X1 l (by rw [hX1]; simp only [List.length_append, List.length_cons, List.length_nil]; omega)
  rw [← hX1, ← hX2] at PL
  clear hX1 hX2
  have st := toList_str []
  have g1 : ¬ (1000 : Int) < l.length := by omega
  have g2 : ¬ (100 : Int) < n.length := by omega
  clear h1 h2 hn hr
  go_enter Tryd.func6, Tryd.ntmps6
  go_wp2_with fail
  refine (AW.out _ HL.out).mono ?_
  rintro e w0 ⟨rfl, hb⟩
  have HL := Lib.hid (HL.out.below hb)
  have AF := Lib.hid (AF.out.call hb)
  clear hb
  go_wp2_with fail
  refine (PN.out _).mono ?_
  rintro e w1 ⟨rfl, hw⟩
  obtain rfl := hw.symm
  clear hw
  go_wp2_with fail
  refine (PE.out _ HL.out).mono ?_
  rintro e w2 ⟨u, rfl, hu, hb⟩
  obtain ⟨k1, f1, a1, s1, A1, n1, c1, B1, m1, d1, rfl, -⟩ := RdQ_six hu
  obtain ⟨V2, hV⟩ : ∃ V, V = w2.alloc (.cells #[.int .i64 k1, .int .i64 f1, .int .i64 a1, .string s1, .slice A1 n1 c1, .slice B1 m1 d1] 26) := ⟨_, rfl⟩
  obtain ⟨sx, b2, -⟩ := six_new hV
  have HL := Lib.hid ((HL.out.below hb).below b2)
  have AF := Lib.hid ((AF.out.call hb).call b2)
  have TR1 : Hid (RdT V2 _ (.agg #[.int .i64 k1, .int .i64 f1, .int .i64 a1, .string s1, .slice A1 n1 c1, .slice B1 m1 d1])) := Lib.hid (hu.rd.below b2)
  have SX1 := Lib.hid sx
  have HV := Lib.hid hV
  clear hV sx b2 hb hu
  go_upto_region 4 with fail
  rw [← HV.out]
  clear HV
  go_wp2_with fail
  refine (PL.out _ HL.out).mono ?_
  rintro e w3 ⟨u, rfl, hu, hb⟩
  obtain ⟨k2, f2, a2, s2, A2, n2, c2, B2, m2, d2, rfl, -⟩ := RdQ_six hu
  obtain ⟨V3, hV⟩ : ∃ V, V = w3.alloc (.cells #[.string (txt.strOf n), .int .i64 k2, .int .i64 f2, .int .i64 a2, .string s2, .slice A2 n2 c2, .slice B2 m2 d2] 33) := ⟨_, rfl⟩
  obtain ⟨sx, b2, -⟩ := seven_new hV
  have TR1 := Lib.hid ((TR1.out.below hb).below b2)
  have SX1 := Lib.hid ((SX1.out.below hb).below b2)
  have HL := Lib.hid ((HL.out.below hb).below b2)
  have AF := Lib.hid ((AF.out.call hb).call b2)
  have TR2 : Hid (RdT V3 _ (.agg #[.int .i64 k2, .int .i64 f2, .int .i64 a2, .string s2, .slice A2 n2 c2, .slice B2 m2 d2])) := Lib.hid (hu.rd.below b2)
  have SX2 := Lib.hid sx
  have HV := Lib.hid hV
  clear hV sx b2 hb hu
  go_upto_region 5 with fail
  rw [← HV.out]
  clear HV
  go_wp2_with fail
  refine (PM.out _ HL.out).mono ?_
  rintro e w4 ⟨u, rfl, hu, hb⟩
  obtain ⟨k3, f3, a3, s3, A3, n3, c3, B3, m3, d3, rfl, -⟩ := RdQ_six hu
  obtain ⟨V4, hV⟩ : ∃ V, V = w4.alloc (.cells #[.string (txt.strOf []), .int .i64 k3, .int .i64 f3, .int .i64 a3, .string s3, .slice A3 n3 c3, .slice B3 m3 d3] 33) := ⟨_, rfl⟩
  obtain ⟨sx, b2, -⟩ := seven_new hV
  have TR1 := Lib.hid ((TR1.out.below hb).below b2)
  have SX1 := Lib.hid ((SX1.out.below hb).below b2)
  have TR2 := Lib.hid ((TR2.out.below hb).below b2)
  have SX2 := Lib.hid ((SX2.out.below hb).below b2)
  have HL := Lib.hid ((HL.out.below hb).below b2)
  have AF := Lib.hid ((AF.out.call hb).call b2)
  have TR3 : Hid (RdT V4 _ (.agg #[.int .i64 k3, .int .i64 f3, .int .i64 a3, .string s3, .slice A3 n3 c3, .slice B3 m3 d3])) := Lib.hid (hu.rd.below b2)
  have SX3 := Lib.hid sx
  have HV := Lib.hid hV
  clear hV sx b2 hb hu
  go_upto_region 10 with fail
  rw [← HV.out]
  clear HV
  have x1_0 := SX1.out.c0
  have x1_1 := SX1.out.c1
  have x1_2 := SX1.out.c2
  have x1_3 := SX1.out.c3
  have x1_4 := SX1.out.c4
  have x1_5 := SX1.out.c5
  have x2_0 := SX2.out.c0
  have x2_1 := SX2.out.c1
  have x2_2 := SX2.out.c2
  have x2_3 := SX2.out.c3
  have x2_4 := SX2.out.c4
  have x2_5 := SX2.out.c5
  have x2_6 := SX2.out.c6
  go_wp2_with fail
  refine (PS.out _ _ _ TR2.out TR1.out).mono ?_
  rintro e w5 ⟨rfl, hb⟩
  clear x1_0 x1_1 x1_2 x1_3 x1_4 x1_5 x2_0 x2_1 x2_2 x2_3 x2_4 x2_5 x2_6
  have TR1 := Lib.hid (TR1.out.below hb)
  have SX1 := Lib.hid (SX1.out.below hb)
  have TR2 := Lib.hid (TR2.out.below hb)
  have SX2 := Lib.hid (SX2.out.below hb)
  have TR3 := Lib.hid (TR3.out.below hb)
  have SX3 := Lib.hid (SX3.out.below hb)
  have HL := Lib.hid (HL.out.below hb)
  have AF := Lib.hid (AF.out.call hb)
  clear hb
  have x1_0 := SX1.out.c0
  have x1_1 := SX1.out.c1
  have x1_2 := SX1.out.c2
  have x1_3 := SX1.out.c3
  have x1_4 := SX1.out.c4
  have x1_5 := SX1.out.c5
  have x3_0 := SX3.out.c0
  have x3_1 := SX3.out.c1
  have x3_2 := SX3.out.c2
  have x3_3 := SX3.out.c3
  have x3_4 := SX3.out.c4
  have x3_5 := SX3.out.c5
  have x3_6 := SX3.out.c6
  go_wp2_with fail
  refine (PS.out _ _ _ TR3.out TR1.out).mono ?_
  rintro e w6 ⟨rfl, hb⟩
  clear x1_0 x1_1 x1_2 x1_3 x1_4 x1_5 x3_0 x3_1 x3_2 x3_3 x3_4 x3_5 x3_6
  have TR1 := Lib.hid (TR1.out.below hb)
  have SX1 := Lib.hid (SX1.out.below hb)
  have TR2 := Lib.hid (TR2.out.below hb)
  have SX2 := Lib.hid (SX2.out.below hb)
  have TR3 := Lib.hid (TR3.out.below hb)
  have SX3 := Lib.hid (SX3.out.below hb)
  have HL := Lib.hid (HL.out.below hb)
  have AF := Lib.hid (AF.out.call hb)
  clear hb
  go_wp2_with fail
  go_ret
  exact ⟨rfl, AF.out⟩
theorem un_name {l nm : List UInt8} {T : Tr} (h : lineOf unN l = (nm, T, 0)) : nm = [] := by
  obtain ⟨M, -, -, -, rfl⟩ := line_ok h
  rfl
theorem walk_ParseAssigns (s t : ByteArray) (hs : s.size ≤ maxLen) (ht : t.size ≤ maxLen) (w : World) (hl : Lays w) : Calls Tryd.prog 6 #[.string s, .string t] w (Holds w) := by
  rw [← str_bl s, ← str_bl t]
  by_cases h1 : (bl s).length ≤ 1000
  · by_cases h2 : (bl t).length ≤ 100
    · cases hn : nameB (bl t) with
      | false => exact assigns_none _ _ w hl h1 h2 hn
      | true =>
        obtain ⟨r, hr⟩ : ∃ r, lineOf unN (bl s) = r := ⟨_, rfl⟩
        obtain ⟨nm, T, E⟩ := r
        by_cases hE : E = 0
        · subst hE
          obtain rfl := un_name hr
          exact assigns_good _ _ w hl h1 h2 hn T hr
        · exact assigns_bad _ _ w hl h1 h2 hn nm T E hE hr
    · exact assigns_wide _ _ w hl h1 (by omega)
  · exact assigns_long _ _ w hl (by omega)
end Go.Proofs.YtihkflpbccebmaaDoor.ps
