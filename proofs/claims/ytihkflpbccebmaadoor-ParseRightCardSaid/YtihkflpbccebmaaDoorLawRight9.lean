/- The walk of ParseRight. -/
import Derived.Test.YtihkflpbccebmaaDoorPsLaw
import Derived.Test.YtihkflpbccebmaaDoorLawLines9
import Derived.Test.YtihkflpbccebmaaDoorTreeRight
import Derived.Test.YtihkflpbccebmaaDoorLexNam
namespace Go.Proofs.YtihkflpbccebmaaDoor.ps
open Go.ChangeShapes Go.WideShapes Go.ChangeAt Go.RowKit Go.Proofs.YtihkflpbccebmaaDoor.mem Go.Proofs.YtihkflpbccebmaaDoor.lx Go.Proofs.YtihkflpbccebmaaDoor.tr
set_option linter.unusedVariables false
set_option linter.unusedSimpArgs false

theorem name_len {l nm : List UInt8} {T : Tr} (h : lineOf asN l = (nm, T, 0)) : nm.length ≤ 65536 := by
  obtain ⟨M, ht, -, -, rfl⟩ := line_ok h
  have hok := (toks_ok ht).1
  match M, hok with
  | [], _ => exact Nat.zero_le _
  | [x], _ => exact Nat.zero_le _
  | x :: a :: R, hok =>
    show (if x.k = 1 ∧ a.t = gArr then (x.t, R) else (([] : List UInt8), x :: a :: R)).1.length ≤ _
    by_cases hc : x.k = 1 ∧ a.t = gArr
    · rw [if_pos hc]; exact (hok x (by simp)).2.2.2.2.2
    · rw [if_neg hc]; exact Nat.zero_le _
set_option maxHeartbeats 4000000 in
set_option maxRecDepth 100000 in
theorem right_over (l : List UInt8) (w : World) (hl : Lays w) (h1 : 2000 < l.length) : Calls Tryd.prog 4 #[.string (txt.strOf l)] w (Holds w) := by
  have AW := Lib.hid (fun W h => awake_true W h)
  have hz := txt.strOf_size l
  have HL := Lib.hid hl; clear hl
  have AF := Lib.hid (Aft.refl w)
  have g1 : (2000 : Int) < l.length := by omega
  clear h1
  go_enter Tryd.func4, Tryd.ntmps4
  go_wp2_with fail
  refine (AW.out _ HL.out).mono ?_
  rintro e w0 ⟨rfl, hb⟩
  have HL := Lib.hid (HL.out.below hb)
  have AF := Lib.hid (AF.out.call hb)
  clear hb
  go_wp2_with fail
  refine (AW.out _ HL.out).mono ?_
  rintro e w1 ⟨rfl, hb⟩
  have HL := Lib.hid (HL.out.below hb)
  have AF := Lib.hid (AF.out.call hb)
  clear hb
  go_wp2_with fail
  go_ret
  exact ⟨rfl, AF.out⟩
set_option maxHeartbeats 4000000 in
set_option maxRecDepth 100000 in
theorem right_no (l : List UInt8) (w : World) (hl : Lays w) (h1 : l.length ≤ 2000) (E : Int) (hE : E = 1 ∨ E = 7) (hr : lineOf asN l = ([], zT, E)) : Calls Tryd.prog 4 #[.string (txt.strOf l)] w (Holds w) := by
  have AW := Lib.hid (fun W h => awake_true W h)
  have hz := txt.strOf_size l
  have HL := Lib.hid hl; clear hl
  have AF := Lib.hid (Aft.refl w)
  have PL := Lib.hid (fun W h => line_any l (by omega) W h)
  rw [hr] at PL
  have PS := Lib.hid (fun u v W (h : RdT W zT u) (h' : RdT W zT v) => same_self_any zT u v W h h')
  have g1 : ¬ (2000 : Int) < l.length := by omega
  have ge : (E != 0) = true := by rcases hE with rfl | rfl <;> decide
  have st := toList_str []
  clear hr h1 hE
  go_enter Tryd.func4, Tryd.ntmps4
  go_wp2_with fail
  refine (AW.out _ HL.out).mono ?_
  rintro e w0 ⟨rfl, hb⟩
  have HL := Lib.hid (HL.out.below hb)
  have AF := Lib.hid (AF.out.call hb)
  clear hb
  go_wp2_with fail
  refine (PL.out _ HL.out).mono ?_
  rintro e w1 ⟨u, rfl, hu, hb⟩
  obtain ⟨k1, f1, a1, s1, A1, n1, c1, B1, m1, d1, rfl, -⟩ := RdQ_six hu
  obtain ⟨V1, hV⟩ : ∃ V, V = w1.alloc (.cells #[.string (txt.strOf []), .int .i64 k1, .int .i64 f1, .int .i64 a1, .string s1, .slice A1 n1 c1, .slice B1 m1 d1] 33) := ⟨_, rfl⟩
  obtain ⟨sx, b2, -⟩ := seven_new hV
  have HL := Lib.hid ((HL.out.below hb).below b2)
  have AF := Lib.hid ((AF.out.call hb).call b2)
  have TR1 : Hid (RdT V1 _ (.agg #[.int .i64 k1, .int .i64 f1, .int .i64 a1, .string s1, .slice A1 n1 c1, .slice B1 m1 d1])) := Lib.hid (hu.rd.below b2)
  have SX1 := Lib.hid sx
  have HV := Lib.hid hV
  clear hV sx b2 hb hu
  go_upto_region 4 with fail
  rw [← HV.out]
  clear HV
  have x1_0 := SX1.out.c0
  have x1_1 := SX1.out.c1
  have x1_2 := SX1.out.c2
  have x1_3 := SX1.out.c3
  have x1_4 := SX1.out.c4
  have x1_5 := SX1.out.c5
  have x1_6 := SX1.out.c6
  go_wp2_with fail
  refine (PS.out _ _ _ TR1.out rd_zero).mono ?_
  rintro e w2 ⟨rfl, hb⟩
  clear x1_0 x1_1 x1_2 x1_3 x1_4 x1_5 x1_6
  have TR1 := Lib.hid (TR1.out.below hb)
  have SX1 := Lib.hid (SX1.out.below hb)
  have HL := Lib.hid (HL.out.below hb)
  have AF := Lib.hid (AF.out.call hb)
  clear hb
  go_wp2_with fail
  go_ret
  exact ⟨rfl, AF.out⟩
set_option maxHeartbeats 4000000 in
set_option maxRecDepth 100000 in
theorem right_yes (l : List UInt8) (w : World) (hl : Lays w) (h1 : l.length ≤ 2000) (nm : List UInt8) (T : Tr) (hT : rightT T = true) (hn : nameB nm = true) (hr : lineOf asN l = (nm, T, 0)) : Calls Tryd.prog 4 #[.string (txt.strOf l)] w (Holds w) := by
  have AW := Lib.hid (fun W h => awake_true W h)
  have hz := txt.strOf_size l
  have HL := Lib.hid hl; clear hl
  have AF := Lib.hid (Aft.refl w)
  have PL := Lib.hid (fun W h => line_any l (by omega) W h)
  have hsz := line_size as_len l
  rw [hr] at PL hsz
  have hsz : sizeT T ≤ 65536 := hsz
  have PR := Lib.hid (fun v W (h : RdT W T v) => (show Calls Tryd.prog 14 #[v] W (Say W true) by have := refRight_any T v W h (by omega); rwa [hT] at this))
  have g1 : ¬ (2000 : Int) < l.length := by omega
  have hlen : nm.length ≤ 9223372036854775807 := by
    have := name_len hr; omega
  have PN := Lib.hid (fun W => (show Calls Tryd.prog 15 #[.string (txt.strOf nm)] W (fun e w' => e = .returned (.bool true) ∧ W = w') by have := refName_any (txt.strOf nm) W (by rw [txt.strOf_size]; exact hlen); rwa [bl_str, hn] at this))
  have st : ((txt.strOf nm).toList == []) = false := by
    rw [toList_str]
    cases nm with
    | nil => exact absurd hn (by decide)
    | cons c r => rfl
  clear hlen
  clear hr h1 hT hsz hn
  go_enter Tryd.func4, Tryd.ntmps4
  go_wp2_with fail
  refine (AW.out _ HL.out).mono ?_
  rintro e w0 ⟨rfl, hb⟩
  have HL := Lib.hid (HL.out.below hb)
  have AF := Lib.hid (AF.out.call hb)
  clear hb
  go_wp2_with fail
  refine (PL.out _ HL.out).mono ?_
  rintro e w1 ⟨u, rfl, hu, hb⟩
  obtain ⟨k1, f1, a1, s1, A1, n1, c1, B1, m1, d1, rfl, -⟩ := RdQ_six hu
  obtain ⟨V1, hV⟩ : ∃ V, V = w1.alloc (.cells #[.string (txt.strOf nm), .int .i64 k1, .int .i64 f1, .int .i64 a1, .string s1, .slice A1 n1 c1, .slice B1 m1 d1] 33) := ⟨_, rfl⟩
  obtain ⟨sx, b2, -⟩ := seven_new hV
  have HL := Lib.hid ((HL.out.below hb).below b2)
  have AF := Lib.hid ((AF.out.call hb).call b2)
  have TR1 : Hid (RdT V1 _ (.agg #[.int .i64 k1, .int .i64 f1, .int .i64 a1, .string s1, .slice A1 n1 c1, .slice B1 m1 d1])) := Lib.hid (hu.rd.below b2)
  have SX1 := Lib.hid sx
  have HV := Lib.hid hV
  clear hV sx b2 hb hu
  go_upto_region 4 with fail
  rw [← HV.out]
  clear HV
  have x1_0 := SX1.out.c0
  have x1_1 := SX1.out.c1
  have x1_2 := SX1.out.c2
  have x1_3 := SX1.out.c3
  have x1_4 := SX1.out.c4
  have x1_5 := SX1.out.c5
  have x1_6 := SX1.out.c6
  go_wp2_with fail
  refine (PR.out _ _ TR1.out).mono ?_
  rintro e w2 ⟨rfl, hb⟩
  clear x1_0 x1_1 x1_2 x1_3 x1_4 x1_5 x1_6
  have TR1 := Lib.hid (TR1.out.below hb)
  have SX1 := Lib.hid (SX1.out.below hb)
  have HL := Lib.hid (HL.out.below hb)
  have AF := Lib.hid (AF.out.call hb)
  clear hb
  have x1_0 := SX1.out.c0
  have x1_1 := SX1.out.c1
  have x1_2 := SX1.out.c2
  have x1_3 := SX1.out.c3
  have x1_4 := SX1.out.c4
  have x1_5 := SX1.out.c5
  have x1_6 := SX1.out.c6
  go_wp2_with fail
  refine (PN.out _).mono ?_
  rintro e w9 ⟨rfl, hw⟩
  obtain rfl := hw.symm
  clear hw
  go_wp2_with fail
  go_ret
  exact ⟨rfl, AF.out⟩
set_option maxHeartbeats 4000000 in
set_option maxRecDepth 100000 in
theorem right_bare (l : List UInt8) (w : World) (hl : Lays w) (h1 : l.length ≤ 2000) (nm : List UInt8) (T : Tr) (hT : rightT T = true) (hn : nm = []) (hr : lineOf asN l = (nm, T, 0)) : Calls Tryd.prog 4 #[.string (txt.strOf l)] w (Holds w) := by
  have AW := Lib.hid (fun W h => awake_true W h)
  have hz := txt.strOf_size l
  have HL := Lib.hid hl; clear hl
  have AF := Lib.hid (Aft.refl w)
  have PL := Lib.hid (fun W h => line_any l (by omega) W h)
  have hsz := line_size as_len l
  rw [hr] at PL hsz
  have hsz : sizeT T ≤ 65536 := hsz
  have PR := Lib.hid (fun v W (h : RdT W T v) => (show Calls Tryd.prog 14 #[v] W (Say W true) by have := refRight_any T v W h (by omega); rwa [hT] at this))
  have g1 : ¬ (2000 : Int) < l.length := by omega
  subst hn
  have st := toList_str []
  clear hr h1 hT hsz
  go_enter Tryd.func4, Tryd.ntmps4
  go_wp2_with fail
  refine (AW.out _ HL.out).mono ?_
  rintro e w0 ⟨rfl, hb⟩
  have HL := Lib.hid (HL.out.below hb)
  have AF := Lib.hid (AF.out.call hb)
  clear hb
  go_wp2_with fail
  refine (PL.out _ HL.out).mono ?_
  rintro e w1 ⟨u, rfl, hu, hb⟩
  obtain ⟨k1, f1, a1, s1, A1, n1, c1, B1, m1, d1, rfl, -⟩ := RdQ_six hu
  obtain ⟨V1, hV⟩ : ∃ V, V = w1.alloc (.cells #[.string (txt.strOf []), .int .i64 k1, .int .i64 f1, .int .i64 a1, .string s1, .slice A1 n1 c1, .slice B1 m1 d1] 33) := ⟨_, rfl⟩
  obtain ⟨sx, b2, -⟩ := seven_new hV
  have HL := Lib.hid ((HL.out.below hb).below b2)
  have AF := Lib.hid ((AF.out.call hb).call b2)
  have TR1 : Hid (RdT V1 _ (.agg #[.int .i64 k1, .int .i64 f1, .int .i64 a1, .string s1, .slice A1 n1 c1, .slice B1 m1 d1])) := Lib.hid (hu.rd.below b2)
  have SX1 := Lib.hid sx
  have HV := Lib.hid hV
  clear hV sx b2 hb hu
  go_upto_region 4 with fail
  rw [← HV.out]
  clear HV
  have x1_0 := SX1.out.c0
  have x1_1 := SX1.out.c1
  have x1_2 := SX1.out.c2
  have x1_3 := SX1.out.c3
  have x1_4 := SX1.out.c4
  have x1_5 := SX1.out.c5
  have x1_6 := SX1.out.c6
  go_wp2_with fail
  refine (PR.out _ _ TR1.out).mono ?_
  rintro e w2 ⟨rfl, hb⟩
  clear x1_0 x1_1 x1_2 x1_3 x1_4 x1_5 x1_6
  have TR1 := Lib.hid (TR1.out.below hb)
  have SX1 := Lib.hid (SX1.out.below hb)
  have HL := Lib.hid (HL.out.below hb)
  have AF := Lib.hid (AF.out.call hb)
  clear hb
  have x1_0 := SX1.out.c0
  have x1_1 := SX1.out.c1
  have x1_2 := SX1.out.c2
  have x1_3 := SX1.out.c3
  have x1_4 := SX1.out.c4
  have x1_5 := SX1.out.c5
  have x1_6 := SX1.out.c6
  go_wp2_with fail
  go_ret
  exact ⟨rfl, AF.out⟩
theorem walk_ParseRight (s : ByteArray) (hs : s.size ≤ maxLen) (w : World) (hl : Lays w) : Calls Tryd.prog 4 #[.string s] w (Holds w) := by
  unfold maxLen at hs
  rw [← str_bl s]
  have hz := bl_size s
  by_cases h1 : (bl s).length ≤ 2000
  · obtain ⟨r, hr⟩ : ∃ r, lineOf asN (bl s) = r := ⟨_, rfl⟩
    obtain ⟨nm, T, E⟩ := r
    rcases line_right hr with ⟨rfl, hT, hn | hn⟩ | ⟨hE, rfl, rfl⟩
    · exact right_bare _ w hl h1 nm T hT hn hr
    · exact right_yes _ w hl h1 nm T hT hn hr
    · exact right_no _ w hl h1 E hE hr
  · exact right_over _ w hl (by omega)
end Go.Proofs.YtihkflpbccebmaaDoor.ps
