/- The walk of ParseLines. -/
import Derived.Test.YtihkflpbccebmaaDoorPsLaw
import Derived.Test.YtihkflpbccebmaaDoorTreeSame
import Derived.Test.YtihkflpbccebmaaDoorPsRLine
import Derived.Test.YtihkflpbccebmaaDoorPsRExpr
namespace Go.Proofs.YtihkflpbccebmaaDoor.ps
open Go.ChangeShapes Go.WideShapes Go.ChangeAt Go.RowKit Go.Proofs.YtihkflpbccebmaaDoor.mem Go.Proofs.YtihkflpbccebmaaDoor.lx Go.Proofs.YtihkflpbccebmaaDoor.tr
set_option linter.unusedVariables false
set_option linter.unusedSimpArgs false

theorem same_self_any (T : Tr) (u v : Value) (w : World) (h : RdT w T u) (h' : RdT w T v) : Calls Tryd.prog 13 #[u, v] w (Say w true) := by
  have := refSame_any T T u v w h h'
  rwa [same_self] at this
set_option maxHeartbeats 4000000 in
set_option maxRecDepth 100000 in
theorem lines_between (l : List UInt8) (w : World) (hl : Lays w) (h1 : 2000 < l.length) (h2 : l.length ≤ 65536) : Calls Tryd.prog 3 #[.string (txt.strOf l)] w (Holds w) := by
  have AW := Lib.hid (fun W h => awake_true W h)
  have hz := txt.strOf_size l
  have HL := Lib.hid hl; clear hl
  have AF := Lib.hid (Aft.refl w)
  have g1 : (2000 : Int) < l.length := by omega
  have g2 : (l.length : Int) ≤ 65536 := by omega
  clear h1 h2
  go_enter Tryd.func3, Tryd.ntmps3
  go_wp2_with fail
  refine (AW.out _ HL.out).mono ?_
  rintro e w0 ⟨rfl, hb⟩
  have HL := Lib.hid (HL.out.below hb)
  have AF := Lib.hid (AF.out.call hb)
  clear hb
  go_wp2_with fail
  refine (AW.out _ HL.out).mono ?_
  rintro e w1 ⟨rfl, hb⟩
  have HL := Lib.hid (HL.out.below hb)
  have AF := Lib.hid (AF.out.call hb)
  clear hb
  go_wp2_with fail
  go_ret
  exact ⟨rfl, AF.out⟩
set_option maxHeartbeats 4000000 in
set_option maxRecDepth 100000 in
theorem lines_outside (l : List UInt8) (w : World) (hl : Lays w) (hm : l.length ≤ 9223372036854775807) (h : l.length ≤ 2000 ∨ (2000 < l.length ∧ 65536 < l.length)) : Calls Tryd.prog 3 #[.string (txt.strOf l)] w (Holds w) := by
  have AW := Lib.hid (fun W h => awake_true W h)
  have hz := txt.strOf_size l
  have HL := Lib.hid hl; clear hl
  have AF := Lib.hid (Aft.refl w)
  have PE := Lib.hid (fun W h => expr_text l hm W h)
  have PR := Lib.hid (fun W => rtext_any (fun n => rex_any n) l hm W)
  have PL := Lib.hid (fun W h => line_any l hm W h)
  have PM := Lib.hid (fun W => rline_any (fun n => rex_any n) l hm W)
  have PS := Lib.hid (fun (T : Tr) u v W (h : RdT W T u) (h' : RdT W T v) => same_self_any T u v W h h')
  obtain ⟨T, hT⟩ : ∃ T, T = (lineOf unN l).2.1 := ⟨_, rfl⟩
  obtain ⟨E, hE⟩ : ∃ E, E = (lineOf unN l).2.2 := ⟨_, rfl⟩
  obtain ⟨r, hr⟩ : ∃ r, r = lineOf asN l := ⟨_, rfl⟩
  rw [← hT, ← hE] at PE PR
  rw [← hr] at PL PM
  obtain ⟨nm, U, F⟩ := r
  clear hT hE hr hm
  rcases h with h | ⟨h, h'⟩
  · have g1 : ¬ (2000 : Int) < l.length := by omega
    clear h
    go_enter Tryd.func3, Tryd.ntmps3
    go_wp2_with fail
    refine (AW.out _ HL.out).mono ?_
    rintro e w0 ⟨rfl, hb⟩
    have HL := Lib.hid (HL.out.below hb)
    have AF := Lib.hid (AF.out.call hb)
    clear hb
    go_wp2_with fail
    refine (PE.out _ HL.out).mono ?_
    rintro e w1 ⟨u, rfl, hu, hb⟩
    obtain ⟨k1, f1, a1, s1, A1, n1, c1, B1, m1, d1, rfl, -⟩ := RdQ_six hu
    obtain ⟨V1, hV⟩ : ∃ V, V = w1.alloc (.cells #[.int .i64 k1, .int .i64 f1, .int .i64 a1, .string s1, .slice A1 n1 c1, .slice B1 m1 d1] 26) := ⟨_, rfl⟩
    obtain ⟨sx, b2, -⟩ := six_new hV
    have HL := Lib.hid ((HL.out.below hb).below b2)
    have AF := Lib.hid ((AF.out.call hb).call b2)
    have TR1 : Hid (RdT V1 _ (.agg #[.int .i64 k1, .int .i64 f1, .int .i64 a1, .string s1, .slice A1 n1 c1, .slice B1 m1 d1])) := Lib.hid (hu.rd.below b2)
    have SX1 := Lib.hid sx
    have HV := Lib.hid hV
    clear hV sx b2 hb hu
    go_upto_region 4 with fail
    rw [← HV.out]
    clear HV
    go_wp2_with fail
    refine (PR.out _).mono ?_
    rintro e w2 ⟨u, rfl, hu, hb⟩
    obtain ⟨k2, f2, a2, s2, A2, n2, c2, B2, m2, d2, rfl, -⟩ := RdQ_six hu
    obtain ⟨V2, hV⟩ : ∃ V, V = w2.alloc (.cells #[.int .i64 k2, .int .i64 f2, .int .i64 a2, .string s2, .slice A2 n2 c2, .slice B2 m2 d2] 26) := ⟨_, rfl⟩
    obtain ⟨sx, b2, -⟩ := six_new hV
    have TR1 := Lib.hid ((TR1.out.below hb).below b2)
    have SX1 := Lib.hid ((SX1.out.below hb).below b2)
    have HL := Lib.hid ((HL.out.below hb).below b2)
    have AF := Lib.hid ((AF.out.call hb).call b2)
    have TR2 : Hid (RdT V2 _ (.agg #[.int .i64 k2, .int .i64 f2, .int .i64 a2, .string s2, .slice A2 n2 c2, .slice B2 m2 d2])) := Lib.hid (hu.rd.below b2)
    have SX2 := Lib.hid sx
    have HV := Lib.hid hV
    clear hV sx b2 hb hu
    go_upto_region 5 with fail
    rw [← HV.out]
    clear HV
    go_wp2_with fail
    refine (PL.out _ HL.out).mono ?_
    rintro e w3 ⟨u, rfl, hu, hb⟩
    obtain ⟨k3, f3, a3, s3, A3, n3, c3, B3, m3, d3, rfl, -⟩ := RdQ_six hu
    obtain ⟨V3, hV⟩ : ∃ V, V = w3.alloc (.cells #[.string (txt.strOf nm), .int .i64 k3, .int .i64 f3, .int .i64 a3, .string s3, .slice A3 n3 c3, .slice B3 m3 d3] 33) := ⟨_, rfl⟩
    obtain ⟨sx, b2, -⟩ := seven_new hV
    have TR1 := Lib.hid ((TR1.out.below hb).below b2)
    have SX1 := Lib.hid ((SX1.out.below hb).below b2)
    have TR2 := Lib.hid ((TR2.out.below hb).below b2)
    have SX2 := Lib.hid ((SX2.out.below hb).below b2)
    have HL := Lib.hid ((HL.out.below hb).below b2)
    have AF := Lib.hid ((AF.out.call hb).call b2)
    have TR3 : Hid (RdT V3 _ (.agg #[.int .i64 k3, .int .i64 f3, .int .i64 a3, .string s3, .slice A3 n3 c3, .slice B3 m3 d3])) := Lib.hid (hu.rd.below b2)
    have SX3 := Lib.hid sx
    have HV := Lib.hid hV
    clear hV sx b2 hb hu
    go_upto_region 6 with fail
    rw [← HV.out]
    clear HV
    go_wp2_with fail
    refine (PM.out _).mono ?_
    rintro e w4 ⟨u, rfl, hu, hb⟩
    obtain ⟨k4, f4, a4, s4, A4, n4, c4, B4, m4, d4, rfl, -⟩ := RdQ_six hu
    obtain ⟨V4, hV⟩ : ∃ V, V = w4.alloc (.cells #[.string (txt.strOf nm), .int .i64 k4, .int .i64 f4, .int .i64 a4, .string s4, .slice A4 n4 c4, .slice B4 m4 d4] 33) := ⟨_, rfl⟩
    obtain ⟨sx, b2, -⟩ := seven_new hV
    have TR1 := Lib.hid ((TR1.out.below hb).below b2)
    have SX1 := Lib.hid ((SX1.out.below hb).below b2)
    have TR2 := Lib.hid ((TR2.out.below hb).below b2)
    have SX2 := Lib.hid ((SX2.out.below hb).below b2)
    have TR3 := Lib.hid ((TR3.out.below hb).below b2)
    have SX3 := Lib.hid ((SX3.out.below hb).below b2)
    have HL := Lib.hid ((HL.out.below hb).below b2)
    have AF := Lib.hid ((AF.out.call hb).call b2)
    have TR4 : Hid (RdT V4 _ (.agg #[.int .i64 k4, .int .i64 f4, .int .i64 a4, .string s4, .slice A4 n4 c4, .slice B4 m4 d4])) := Lib.hid (hu.rd.below b2)
    have SX4 := Lib.hid sx
    have HV := Lib.hid hV
    clear hV sx b2 hb hu
    go_upto_region 7 with fail
    rw [← HV.out]
    clear HV
    have x1_0 := SX1.out.c0
    have x1_1 := SX1.out.c1
    have x1_2 := SX1.out.c2
    have x1_3 := SX1.out.c3
    have x1_4 := SX1.out.c4
    have x1_5 := SX1.out.c5
    have x2_0 := SX2.out.c0
    have x2_1 := SX2.out.c1
    have x2_2 := SX2.out.c2
    have x2_3 := SX2.out.c3
    have x2_4 := SX2.out.c4
    have x2_5 := SX2.out.c5
    go_wp2_with fail
    refine (PS.out T _ _ _ TR1.out TR2.out).mono ?_
    rintro e w5 ⟨rfl, hb⟩
    clear x1_0 x1_1 x1_2 x1_3 x1_4 x1_5 x2_0 x2_1 x2_2 x2_3 x2_4 x2_5
    have TR1 := Lib.hid (TR1.out.below hb)
    have SX1 := Lib.hid (SX1.out.below hb)
    have TR2 := Lib.hid (TR2.out.below hb)
    have SX2 := Lib.hid (SX2.out.below hb)
    have TR3 := Lib.hid (TR3.out.below hb)
    have SX3 := Lib.hid (SX3.out.below hb)
    have TR4 := Lib.hid (TR4.out.below hb)
    have SX4 := Lib.hid (SX4.out.below hb)
    have HL := Lib.hid (HL.out.below hb)
    have AF := Lib.hid (AF.out.call hb)
    clear hb
    have x3_0 := SX3.out.c0
    have x3_1 := SX3.out.c1
    have x3_2 := SX3.out.c2
    have x3_3 := SX3.out.c3
    have x3_4 := SX3.out.c4
    have x3_5 := SX3.out.c5
    have x3_6 := SX3.out.c6
    have x4_0 := SX4.out.c0
    have x4_1 := SX4.out.c1
    have x4_2 := SX4.out.c2
    have x4_3 := SX4.out.c3
    have x4_4 := SX4.out.c4
    have x4_5 := SX4.out.c5
    have x4_6 := SX4.out.c6
    go_wp2_with fail
    refine (PS.out U _ _ _ TR3.out TR4.out).mono ?_
    rintro e w6 ⟨rfl, hb⟩
    clear x3_0 x3_1 x3_2 x3_3 x3_4 x3_5 x3_6 x4_0 x4_1 x4_2 x4_3 x4_4 x4_5 x4_6
    have TR1 := Lib.hid (TR1.out.below hb)
    have SX1 := Lib.hid (SX1.out.below hb)
    have TR2 := Lib.hid (TR2.out.below hb)
    have SX2 := Lib.hid (SX2.out.below hb)
    have TR3 := Lib.hid (TR3.out.below hb)
    have SX3 := Lib.hid (SX3.out.below hb)
    have TR4 := Lib.hid (TR4.out.below hb)
    have SX4 := Lib.hid (SX4.out.below hb)
    have HL := Lib.hid (HL.out.below hb)
    have AF := Lib.hid (AF.out.call hb)
    clear hb
    go_wp2_with fail
    go_ret
    exact ⟨rfl, AF.out⟩
  · have g1 : (2000 : Int) < l.length := by omega
    have g2 : ¬ (l.length : Int) ≤ 65536 := by omega
    clear h h'
    go_enter Tryd.func3, Tryd.ntmps3
    go_wp2_with fail
    refine (AW.out _ HL.out).mono ?_
    rintro e w0 ⟨rfl, hb⟩
    have HL := Lib.hid (HL.out.below hb)
    have AF := Lib.hid (AF.out.call hb)
    clear hb
    go_wp2_with fail
    refine (PE.out _ HL.out).mono ?_
    rintro e w1 ⟨u, rfl, hu, hb⟩
    obtain ⟨k1, f1, a1, s1, A1, n1, c1, B1, m1, d1, rfl, -⟩ := RdQ_six hu
    obtain ⟨V1, hV⟩ : ∃ V, V = w1.alloc (.cells #[.int .i64 k1, .int .i64 f1, .int .i64 a1, .string s1, .slice A1 n1 c1, .slice B1 m1 d1] 26) := ⟨_, rfl⟩
    obtain ⟨sx, b2, -⟩ := six_new hV
    have HL := Lib.hid ((HL.out.below hb).below b2)
    have AF := Lib.hid ((AF.out.call hb).call b2)
    have TR1 : Hid (RdT V1 _ (.agg #[.int .i64 k1, .int .i64 f1, .int .i64 a1, .string s1, .slice A1 n1 c1, .slice B1 m1 d1])) := Lib.hid (hu.rd.below b2)
    have SX1 := Lib.hid sx
    have HV := Lib.hid hV
    clear hV sx b2 hb hu
    go_upto_region 4 with fail
    rw [← HV.out]
    clear HV
    go_wp2_with fail
    refine (PR.out _).mono ?_
    rintro e w2 ⟨u, rfl, hu, hb⟩
    obtain ⟨k2, f2, a2, s2, A2, n2, c2, B2, m2, d2, rfl, -⟩ := RdQ_six hu
    obtain ⟨V2, hV⟩ : ∃ V, V = w2.alloc (.cells #[.int .i64 k2, .int .i64 f2, .int .i64 a2, .string s2, .slice A2 n2 c2, .slice B2 m2 d2] 26) := ⟨_, rfl⟩
    obtain ⟨sx, b2, -⟩ := six_new hV
    have TR1 := Lib.hid ((TR1.out.below hb).below b2)
    have SX1 := Lib.hid ((SX1.out.below hb).below b2)
    have HL := Lib.hid ((HL.out.below hb).below b2)
    have AF := Lib.hid ((AF.out.call hb).call b2)
    have TR2 : Hid (RdT V2 _ (.agg #[.int .i64 k2, .int .i64 f2, .int .i64 a2, .string s2, .slice A2 n2 c2, .slice B2 m2 d2])) := Lib.hid (hu.rd.below b2)
    have SX2 := Lib.hid sx
    have HV := Lib.hid hV
    clear hV sx b2 hb hu
    go_upto_region 5 with fail
    rw [← HV.out]
    clear HV
    go_wp2_with fail
    refine (PL.out _ HL.out).mono ?_
    rintro e w3 ⟨u, rfl, hu, hb⟩
    obtain ⟨k3, f3, a3, s3, A3, n3, c3, B3, m3, d3, rfl, -⟩ := RdQ_six hu
    obtain ⟨V3, hV⟩ : ∃ V, V = w3.alloc (.cells #[.string (txt.strOf nm), .int .i64 k3, .int .i64 f3, .int .i64 a3, .string s3, .slice A3 n3 c3, .slice B3 m3 d3] 33) := ⟨_, rfl⟩
    obtain ⟨sx, b2, -⟩ := seven_new hV
    have TR1 := Lib.hid ((TR1.out.below hb).below b2)
    have SX1 := Lib.hid ((SX1.out.below hb).below b2)
    have TR2 := Lib.hid ((TR2.out.below hb).below b2)
    have SX2 := Lib.hid ((SX2.out.below hb).below b2)
    have HL := Lib.hid ((HL.out.below hb).below b2)
    have AF := Lib.hid ((AF.out.call hb).call b2)
    have TR3 : Hid (RdT V3 _ (.agg #[.int .i64 k3, .int .i64 f3, .int .i64 a3, .string s3, .slice A3 n3 c3, .slice B3 m3 d3])) := Lib.hid (hu.rd.below b2)
    have SX3 := Lib.hid sx
    have HV := Lib.hid hV
    clear hV sx b2 hb hu
    go_upto_region 6 with fail
    rw [← HV.out]
    clear HV
    go_wp2_with fail
    refine (PM.out _).mono ?_
    rintro e w4 ⟨u, rfl, hu, hb⟩
    obtain ⟨k4, f4, a4, s4, A4, n4, c4, B4, m4, d4, rfl, -⟩ := RdQ_six hu
    obtain ⟨V4, hV⟩ : ∃ V, V = w4.alloc (.cells #[.string (txt.strOf nm), .int .i64 k4, .int .i64 f4, .int .i64 a4, .string s4, .slice A4 n4 c4, .slice B4 m4 d4] 33) := ⟨_, rfl⟩
    obtain ⟨sx, b2, -⟩ := seven_new hV
    have TR1 := Lib.hid ((TR1.out.below hb).below b2)
    have SX1 := Lib.hid ((SX1.out.below hb).below b2)
    have TR2 := Lib.hid ((TR2.out.below hb).below b2)
    have SX2 := Lib.hid ((SX2.out.below hb).below b2)
    have TR3 := Lib.hid ((TR3.out.below hb).below b2)
    have SX3 := Lib.hid ((SX3.out.below hb).below b2)
    have HL := Lib.hid ((HL.out.below hb).below b2)
    have AF := Lib.hid ((AF.out.call hb).call b2)
    have TR4 : Hid (RdT V4 _ (.agg #[.int .i64 k4, .int .i64 f4, .int .i64 a4, .string s4, .slice A4 n4 c4, .slice B4 m4 d4])) := Lib.hid (hu.rd.below b2)
    have SX4 := Lib.hid sx
    have HV := Lib.hid hV
    clear hV sx b2 hb hu
    go_upto_region 7 with fail
    rw [← HV.out]
    clear HV
    have x1_0 := SX1.out.c0
    have x1_1 := SX1.out.c1
    have x1_2 := SX1.out.c2
    have x1_3 := SX1.out.c3
    have x1_4 := SX1.out.c4
    have x1_5 := SX1.out.c5
    have x2_0 := SX2.out.c0
    have x2_1 := SX2.out.c1
    have x2_2 := SX2.out.c2
    have x2_3 := SX2.out.c3
    have x2_4 := SX2.out.c4
    have x2_5 := SX2.out.c5
    go_wp2_with fail
    refine (PS.out T _ _ _ TR1.out TR2.out).mono ?_
    rintro e w5 ⟨rfl, hb⟩
    clear x1_0 x1_1 x1_2 x1_3 x1_4 x1_5 x2_0 x2_1 x2_2 x2_3 x2_4 x2_5
    have TR1 := Lib.hid (TR1.out.below hb)
    have SX1 := Lib.hid (SX1.out.below hb)
    have TR2 := Lib.hid (TR2.out.below hb)
    have SX2 := Lib.hid (SX2.out.below hb)
    have TR3 := Lib.hid (TR3.out.below hb)
    have SX3 := Lib.hid (SX3.out.below hb)
    have TR4 := Lib.hid (TR4.out.below hb)
    have SX4 := Lib.hid (SX4.out.below hb)
    have HL := Lib.hid (HL.out.below hb)
    have AF := Lib.hid (AF.out.call hb)
    clear hb
    have x3_0 := SX3.out.c0
    have x3_1 := SX3.out.c1
    have x3_2 := SX3.out.c2
    have x3_3 := SX3.out.c3
    have x3_4 := SX3.out.c4
    have x3_5 := SX3.out.c5
    have x3_6 := SX3.out.c6
    have x4_0 := SX4.out.c0
    have x4_1 := SX4.out.c1
    have x4_2 := SX4.out.c2
    have x4_3 := SX4.out.c3
    have x4_4 := SX4.out.c4
    have x4_5 := SX4.out.c5
    have x4_6 := SX4.out.c6
    go_wp2_with fail
    refine (PS.out U _ _ _ TR3.out TR4.out).mono ?_
    rintro e w6 ⟨rfl, hb⟩
    clear x3_0 x3_1 x3_2 x3_3 x3_4 x3_5 x3_6 x4_0 x4_1 x4_2 x4_3 x4_4 x4_5 x4_6
    have TR1 := Lib.hid (TR1.out.below hb)
    have SX1 := Lib.hid (SX1.out.below hb)
    have TR2 := Lib.hid (TR2.out.below hb)
    have SX2 := Lib.hid (SX2.out.below hb)
    have TR3 := Lib.hid (TR3.out.below hb)
    have SX3 := Lib.hid (SX3.out.below hb)
    have TR4 := Lib.hid (TR4.out.below hb)
    have SX4 := Lib.hid (SX4.out.below hb)
    have HL := Lib.hid (HL.out.below hb)
    have AF := Lib.hid (AF.out.call hb)
    clear hb
    go_wp2_with fail
    go_ret
    exact ⟨rfl, AF.out⟩
theorem walk_ParseLines (s : ByteArray) (hs : s.size ≤ maxLen) (w : World) (hl : Lays w) : Calls Tryd.prog 3 #[.string s] w (Holds w) := by
  unfold maxLen at hs
  rw [← str_bl s]
  have hz := bl_size s
  by_cases h1 : (bl s).length ≤ 2000
  · exact lines_outside _ w hl (by omega) (.inl h1)
  · by_cases h2 : (bl s).length ≤ 65536
    · exact lines_between _ w hl (by omega) h2
    · exact lines_outside _ w hl (by omega) (.inr ⟨by omega, by omega⟩)
end Go.Proofs.YtihkflpbccebmaaDoor.ps
