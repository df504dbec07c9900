/- The walk of ShowTidies. -/
import Derived.Test.YthgojbaindejjaaGreatDoorShOk
import Derived.Test.YthgojbaindejjaaGreatDoorLexNam
import Derived.Test.YthgojbaindejjaaGreatDoorAft
import Derived.Deep.RegionHeld3
namespace Go.Proofs.YthgojbaindejjaaGreatDoor.sh
open Go.ChangeShapes Go.WideShapes Go.ChangeAt Go.RowKit Go.Proofs.YthgojbaindejjaaGreatDoor.mem Go.Proofs.YthgojbaindejjaaGreatDoor.lx Go.Proofs.YthgojbaindejjaaGreatDoor.tr Go.Proofs.YthgojbaindejjaaGreatDoor.ps
set_option linter.unusedVariables false
set_option linter.unusedSimpArgs false

theorem same_self_any (T : Tr) (u v : Value) (w : World) (h : RdT w T u) (h' : RdT w T v) : Calls Tryz.prog 16 #[u, v] w (Say w true) := by
  have := refSame_any T T u v w h h'
  rwa [same_self] at this
section
variable {Env : World → Prop} (SO : ShowOk Env)
include SO
set_option maxHeartbeats 4000000 in
set_option maxRecDepth 100000 in
theorem tidies_over (l : List UInt8) (w : World) (hl : Env w) (h1 : 2000 < l.length) : Calls Tryz.prog 5 #[.string (txt.strOf l)] w (Holds w) := by
  have AW := Lib.hid (fun W h => awake_true SO W h)
  have hz := txt.strOf_size l
  have HL := Lib.hid hl; clear hl
  have AF := Lib.hid (Aft.refl w)
  have g1 : (2000 : Int) < l.length := by omega
  clear h1
  go_enter Tryz.func5, Tryz.ntmps5
  go_wp2_with fail
  refine (AW.out _ HL.out).mono ?_
  rintro e w0 ⟨rfl, hb⟩
  have HL := Lib.hid (SO.below HL.out hb)
  have AF := Lib.hid (AF.out.call hb)
  clear hb
  go_wp2_with fail
  refine (AW.out _ HL.out).mono ?_
  rintro e w1 ⟨rfl, hb⟩
  have HL := Lib.hid (SO.below HL.out hb)
  have AF := Lib.hid (AF.out.call hb)
  clear hb
  go_wp2_with fail
  go_ret
  exact ⟨rfl, AF.out⟩
set_option maxHeartbeats 4000000 in
set_option maxRecDepth 100000 in
theorem tidies_bad (l : List UInt8) (w : World) (hl : Env w) (h1 : l.length ≤ 2000) (nm : List UInt8) (T : Tr) (E : Int) (hE : E ≠ 0) (hr : lineOf asN l = (nm, T, E)) : Calls Tryz.prog 5 #[.string (txt.strOf l)] w (Holds w) := by
  have AW := Lib.hid (fun W h => awake_true SO W h)
  have hz := txt.strOf_size l
  have HL := Lib.hid hl; clear hl
  have AF := Lib.hid (Aft.refl w)
  have et : tidyL l = ([], E) := by unfold tidyL; rw [hr]; exact if_neg hE
  have PT := Lib.hid (fun W (h : Env W) => SO.tidy l W (by omega) h)
  have PR := Lib.hid (fun W => refTidy_any l (by omega) W)
  rw [et] at PT PR
  have ge : (E != 0) = true := by simpa using hE
  have g1 : ¬ (2000 : Int) < l.length := by omega
  clear h1 hE hr et
  go_enter Tryz.func5, Tryz.ntmps5
  go_wp2_with fail
  refine (AW.out _ HL.out).mono ?_
  rintro e w0 ⟨rfl, hb⟩
  have HL := Lib.hid (SO.below HL.out hb)
  have AF := Lib.hid (AF.out.call hb)
  clear hb
  go_wp2_with fail
  refine (PT.out _ HL.out).mono ?_
  rintro e w1 ⟨rfl, hb⟩
  have HL := Lib.hid (SO.below HL.out hb)
  have AF := Lib.hid (AF.out.call hb)
  clear hb
  go_wp2_with fail
  refine (PR.out _).mono ?_
  rintro e w2 ⟨rfl, hb⟩
  have HL := Lib.hid (SO.below HL.out hb)
  have AF := Lib.hid (AF.out.call hb)
  clear hb
  go_wp2_with fail
  go_ret
  exact ⟨rfl, AF.out⟩
set_option maxHeartbeats 4000000 in
set_option maxRecDepth 100000 in
theorem tidies_good (l : List UInt8) (w : World) (hl : Env w) (h1 : l.length ≤ 2000) (nm : List UInt8) (T : Tr) (hr : lineOf asN l = (nm, T, 0)) : Calls Tryz.prog 5 #[.string (txt.strOf l)] w (Holds w) := by
  have AW := Lib.hid (fun W h => awake_true SO W h)
  have hz := txt.strOf_size l
  have HL := Lib.hid hl; clear hl
  have AF := Lib.hid (Aft.refl w)
  have hz2 := (line_show hr).2.2.2
  obtain ⟨X, hX⟩ : ∃ X, X = lnS nm T := ⟨_, rfl⟩
  have et : tidyL l = (X, 0) := by unfold tidyL; rw [hr, hX]; exact if_pos rfl
  have e2 := tidy_again hr h1
  rw [← hX] at e2 hz2
  have et2 : tidyL X = (X, 0) := by unfold tidyL; rw [e2, hX]; exact if_pos rfl
  have PT := Lib.hid (fun W (h : Env W) => SO.tidy l W (by omega) h)
  have PR := Lib.hid (fun W => refTidy_any l (by omega) W)
  rw [et] at PT PR
  have PT2 := Lib.hid (fun W (h : Env W) => SO.tidy X W (by omega) h)
  rw [et2] at PT2
  have PL := Lib.hid (fun W (h : Env W) => line_any l (by omega) W (SO.lays h))
  rw [hr] at PL
  have PM := Lib.hid (fun W (h : Env W) => line_any X (by omega) W (SO.lays h))
  rw [e2] at PM
  have PS := Lib.hid (fun u v W (h : RdT W T u) (h' : RdT W T v) => same_self_any T u v W h h')
  have g1 : ¬ (2000 : Int) < l.length := by omega
  clear h1 hr et hz2 hX et2 e2
  go_enter Tryz.func5, Tryz.ntmps5
  go_wp2_with fail
  refine (AW.out _ HL.out).mono ?_
  rintro e w0 ⟨rfl, hb⟩
  have HL := Lib.hid (SO.below HL.out hb)
  have AF := Lib.hid (AF.out.call hb)
  clear hb
  go_wp2_with fail
  refine (PT.out _ HL.out).mono ?_
  rintro e w1 ⟨rfl, hb⟩
  have HL := Lib.hid (SO.below HL.out hb)
  have AF := Lib.hid (AF.out.call hb)
  clear hb
  go_wp2_with fail
  refine (PR.out _).mono ?_
  rintro e w2 ⟨rfl, hb⟩
  have HL := Lib.hid (SO.below HL.out hb)
  have AF := Lib.hid (AF.out.call hb)
  clear hb
  go_wp2_with fail
  refine (PT2.out _ HL.out).mono ?_
  rintro e w3 ⟨rfl, hb⟩
  have HL := Lib.hid (SO.below HL.out hb)
  have AF := Lib.hid (AF.out.call hb)
  clear hb
  go_wp2_with fail
  refine (PL.out _ HL.out).mono ?_
  rintro e w4 ⟨u, rfl, hu, hb⟩
  obtain ⟨k1, f1, a1, s1, A1, n1, c1, B1, m1, d1, rfl, -⟩ := RdQ_six hu
  obtain ⟨V4, hV⟩ : ∃ V, V = w4.alloc (.cells #[.string (txt.strOf nm), .int .i64 k1, .int .i64 f1, .int .i64 a1, .string s1, .slice A1 n1 c1, .slice B1 m1 d1] 32) := ⟨_, rfl⟩
  obtain ⟨sx, b2, -⟩ := seven_new hV
  have HL := Lib.hid (SO.below (SO.below HL.out hb) b2)
  have AF := Lib.hid ((AF.out.call hb).call b2)
  have TR1 : Hid (RdT V4 _ (.agg #[.int .i64 k1, .int .i64 f1, .int .i64 a1, .string s1, .slice A1 n1 c1, .slice B1 m1 d1])) := Lib.hid (hu.rd.below b2)
  have SX1 := Lib.hid sx
  have HV := Lib.hid hV
  clear hV sx b2 hb hu
  go_upto_region 11 with fail
  rw [← HV.out]
  clear HV
  go_wp2_with fail
  refine (PM.out _ HL.out).mono ?_
  rintro e w5 ⟨u, rfl, hu, hb⟩
  obtain ⟨k2, f2, a2, s2, A2, n2, c2, B2, m2, d2, rfl, -⟩ := RdQ_six hu
  obtain ⟨V5, hV⟩ : ∃ V, V = w5.alloc (.cells #[.string (txt.strOf nm), .int .i64 k2, .int .i64 f2, .int .i64 a2, .string s2, .slice A2 n2 c2, .slice B2 m2 d2] 32) := ⟨_, rfl⟩
  obtain ⟨sx, b2, -⟩ := seven_new hV
  have TR1 := Lib.hid ((TR1.out.below hb).below b2)
  have SX1 := Lib.hid ((SX1.out.below hb).below b2)
  have HL := Lib.hid (SO.below (SO.below HL.out hb) b2)
  have AF := Lib.hid ((AF.out.call hb).call b2)
  have TR2 : Hid (RdT V5 _ (.agg #[.int .i64 k2, .int .i64 f2, .int .i64 a2, .string s2, .slice A2 n2 c2, .slice B2 m2 d2])) := Lib.hid (hu.rd.below b2)
  have SX2 := Lib.hid sx
  have HV := Lib.hid hV
  clear hV sx b2 hb hu
  go_upto_region 12 with fail
  rw [← HV.out]
  clear HV
  have x1_0 := SX1.out.c0
  have x1_1 := SX1.out.c1
  have x1_2 := SX1.out.c2
  have x1_3 := SX1.out.c3
  have x1_4 := SX1.out.c4
  have x1_5 := SX1.out.c5
  have x1_6 := SX1.out.c6
  have x2_0 := SX2.out.c0
  have x2_1 := SX2.out.c1
  have x2_2 := SX2.out.c2
  have x2_3 := SX2.out.c3
  have x2_4 := SX2.out.c4
  have x2_5 := SX2.out.c5
  have x2_6 := SX2.out.c6
  go_wp2_with fail
  refine (PS.out _ _ _ TR1.out TR2.out).mono ?_
  rintro e w6 ⟨rfl, hb⟩
  clear x1_0 x1_1 x1_2 x1_3 x1_4 x1_5 x1_6 x2_0 x2_1 x2_2 x2_3 x2_4 x2_5 x2_6
  have TR1 := Lib.hid (TR1.out.below hb)
  have SX1 := Lib.hid (SX1.out.below hb)
  have TR2 := Lib.hid (TR2.out.below hb)
  have SX2 := Lib.hid (SX2.out.below hb)
  have HL := Lib.hid (SO.below HL.out hb)
  have AF := Lib.hid (AF.out.call hb)
  clear hb
  go_wp2_with fail
  go_ret
  exact ⟨rfl, AF.out⟩
theorem walk_ShowTidies (s : ByteArray) (hs : s.size ≤ maxLen) (w : World) (hl : Env w) : Calls Tryz.prog 5 #[.string s] w (Holds w) := by
  rw [← str_bl s]
  by_cases h1 : (bl s).length ≤ 2000
  · obtain ⟨r, hr⟩ : ∃ r, lineOf asN (bl s) = r := ⟨_, rfl⟩
    obtain ⟨nm, T, E⟩ := r
    by_cases hE : E = 0
    · subst hE
      exact tidies_good SO _ w hl h1 nm T hr
    · exact tidies_bad SO _ w hl h1 nm T E hE hr
  · exact tidies_over SO _ w hl (by omega)
end
end Go.Proofs.YthgojbaindejjaaGreatDoor.sh
