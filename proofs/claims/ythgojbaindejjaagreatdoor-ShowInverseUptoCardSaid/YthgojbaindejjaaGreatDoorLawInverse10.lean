/- The walk of ShowInverse. -/
import Derived.Test.YthgojbaindejjaaGreatDoorLawTidies10
import Derived.Test.YthgojbaindejjaaGreatDoorLawMatches10
import Derived.Test.YthgojbaindejjaaGreatDoorAft
import Derived.Deep.RegionHeld3
namespace Go.Proofs.YthgojbaindejjaaGreatDoor.sh
open Go.ChangeShapes Go.WideShapes Go.ChangeAt Go.RowKit Go.Proofs.YthgojbaindejjaaGreatDoor.mem Go.Proofs.YthgojbaindejjaaGreatDoor.lx Go.Proofs.YthgojbaindejjaaGreatDoor.tr Go.Proofs.YthgojbaindejjaaGreatDoor.ps
set_option linter.unusedVariables false
set_option linter.unusedSimpArgs false

section
variable {Env : World → Prop} (SO : ShowOk Env)
include SO
set_option maxHeartbeats 4000000 in
set_option maxRecDepth 100000 in
theorem inverse_big (T1 : Tr) (k1 f1 a1 : Int) (s1 : ByteArray) (A1 : Option Addr) (n1 c1 : Nat) (B1 : Option Addr) (m1 d1 : Nat) (l : List UInt8) (w : World) (hl : Env w) (hv1 : RdT w T1 (.agg #[.int .i64 k1, .int .i64 f1, .int .i64 a1, .string s1, .slice A1 n1 c1, .slice B1 m1 d1])) (hm1 : smallT T1 300 = false) : Calls Tryz.prog 4 #[.agg #[.int .i64 k1, .int .i64 f1, .int .i64 a1, .string s1, .slice A1 n1 c1, .slice B1 m1 d1], .string (txt.strOf l)] w (Holds w) := by
  have AW := Lib.hid (fun W h => awake_true SO W h)
  have HL := Lib.hid hl; clear hl
  have AF := Lib.hid (Aft.refl w)
  obtain ⟨V1, hV1⟩ : ∃ V, V = w.alloc (.cells #[.int .i64 k1, .int .i64 f1, .int .i64 a1, .string s1, .slice A1 n1 c1, .slice B1 m1 d1] 25) := ⟨_, rfl⟩
  obtain ⟨sx, b2, hsz1⟩ := six_new hV1
  have hv1 := hv1.below b2
  have TR1 : Hid (RdT V1 T1 (.agg #[.int .i64 k1, .int .i64 f1, .int .i64 a1, .string s1, .slice A1 n1 c1, .slice B1 m1 d1])) := Lib.hid hv1
  have SX1 := Lib.hid sx
  have HL := Lib.hid (SO.below HL.out b2)
  have AF := Lib.hid (AF.out.call b2)
  have HV := Lib.hid (show V1 = _ from hV1)
  clear sx b2 hV1 hv1 hsz1
  have hz := txt.strOf_size l
  have PM1 := Lib.hid (fun v W (h : RdT W T1 v) => (show Calls Tryz.prog 8 #[v, .int .i64 300] W (Say W false) by have := refSmall_any T1 v W 300 h (by omega) (by omega); rwa [hm1] at this))
  clear hm1
  go_enter Tryz.func4, Tryz.ntmps4
  go_upto_region 1 with fail
  rw [← HV.out]
  clear HV
  go_wp2_with fail
  refine (AW.out _ HL.out).mono ?_
  rintro e w0 ⟨rfl, hb⟩
  have TR1 := Lib.hid (TR1.out.below hb)
  have SX1 := Lib.hid (SX1.out.below hb)
  have HL := Lib.hid (SO.below HL.out hb)
  have AF := Lib.hid (AF.out.call hb)
  clear hb
  have x1_0 := SX1.out.c0
  have x1_1 := SX1.out.c1
  have x1_2 := SX1.out.c2
  have x1_3 := SX1.out.c3
  have x1_4 := SX1.out.c4
  have x1_5 := SX1.out.c5
  go_wp2_with fail
  refine (PM1.out _ _ TR1.out).mono ?_
  rintro e w1 ⟨rfl, hb⟩
  clear x1_0 x1_1 x1_2 x1_3 x1_4 x1_5
  have TR1 := Lib.hid (TR1.out.below hb)
  have SX1 := Lib.hid (SX1.out.below hb)
  have HL := Lib.hid (SO.below HL.out hb)
  have AF := Lib.hid (AF.out.call hb)
  clear hb
  go_wp2_with fail
  refine (AW.out _ HL.out).mono ?_
  rintro e w2 ⟨rfl, hb⟩
  have TR1 := Lib.hid (TR1.out.below hb)
  have SX1 := Lib.hid (SX1.out.below hb)
  have HL := Lib.hid (SO.below HL.out hb)
  have AF := Lib.hid (AF.out.call hb)
  clear hb
  go_wp2_with fail
  go_ret
  exact ⟨rfl, AF.out⟩
set_option maxHeartbeats 4000000 in
set_option maxRecDepth 100000 in
theorem inverse_long (T1 : Tr) (k1 f1 a1 : Int) (s1 : ByteArray) (A1 : Option Addr) (n1 c1 : Nat) (B1 : Option Addr) (m1 d1 : Nat) (l : List UInt8) (w : World) (hl : Env w) (hv1 : RdT w T1 (.agg #[.int .i64 k1, .int .i64 f1, .int .i64 a1, .string s1, .slice A1 n1 c1, .slice B1 m1 d1])) (hm1 : smallT T1 300 = true) (h1 : 100 < l.length) : Calls Tryz.prog 4 #[.agg #[.int .i64 k1, .int .i64 f1, .int .i64 a1, .string s1, .slice A1 n1 c1, .slice B1 m1 d1], .string (txt.strOf l)] w (Holds w) := by
  have AW := Lib.hid (fun W h => awake_true SO W h)
  have HL := Lib.hid hl; clear hl
  have AF := Lib.hid (Aft.refl w)
  obtain ⟨V1, hV1⟩ : ∃ V, V = w.alloc (.cells #[.int .i64 k1, .int .i64 f1, .int .i64 a1, .string s1, .slice A1 n1 c1, .slice B1 m1 d1] 25) := ⟨_, rfl⟩
  obtain ⟨sx, b2, hsz1⟩ := six_new hV1
  have hv1 := hv1.below b2
  have TR1 : Hid (RdT V1 T1 (.agg #[.int .i64 k1, .int .i64 f1, .int .i64 a1, .string s1, .slice A1 n1 c1, .slice B1 m1 d1])) := Lib.hid hv1
  have SX1 := Lib.hid sx
  have HL := Lib.hid (SO.below HL.out b2)
  have AF := Lib.hid (AF.out.call b2)
  have HV := Lib.hid (show V1 = _ from hV1)
  clear sx b2 hV1 hv1 hsz1
  have hz := txt.strOf_size l
  have PM1 := Lib.hid (fun v W (h : RdT W T1 v) => (show Calls Tryz.prog 8 #[v, .int .i64 300] W (Say W true) by have := refSmall_any T1 v W 300 h (by omega) (by omega); rwa [hm1] at this))
  have g1 : (100 : Int) < l.length := by omega
  clear hm1 h1
  go_enter Tryz.func4, Tryz.ntmps4
  go_upto_region 1 with fail
  rw [← HV.out]
  clear HV
  go_wp2_with fail
  refine (AW.out _ HL.out).mono ?_
  rintro e w0 ⟨rfl, hb⟩
  have TR1 := Lib.hid (TR1.out.below hb)
  have SX1 := Lib.hid (SX1.out.below hb)
  have HL := Lib.hid (SO.below HL.out hb)
  have AF := Lib.hid (AF.out.call hb)
  clear hb
  have x1_0 := SX1.out.c0
  have x1_1 := SX1.out.c1
  have x1_2 := SX1.out.c2
  have x1_3 := SX1.out.c3
  have x1_4 := SX1.out.c4
  have x1_5 := SX1.out.c5
  go_wp2_with fail
  refine (PM1.out _ _ TR1.out).mono ?_
  rintro e w1 ⟨rfl, hb⟩
  clear x1_0 x1_1 x1_2 x1_3 x1_4 x1_5
  have TR1 := Lib.hid (TR1.out.below hb)
  have SX1 := Lib.hid (SX1.out.below hb)
  have HL := Lib.hid (SO.below HL.out hb)
  have AF := Lib.hid (AF.out.call hb)
  clear hb
  go_wp2_with fail
  refine (AW.out _ HL.out).mono ?_
  rintro e w2 ⟨rfl, hb⟩
  have TR1 := Lib.hid (TR1.out.below hb)
  have SX1 := Lib.hid (SX1.out.below hb)
  have HL := Lib.hid (SO.below HL.out hb)
  have AF := Lib.hid (AF.out.call hb)
  clear hb
  go_wp2_with fail
  go_ret
  exact ⟨rfl, AF.out⟩
set_option maxHeartbeats 4000000 in
set_option maxRecDepth 100000 in
theorem inverse_noname (T1 : Tr) (k1 f1 a1 : Int) (s1 : ByteArray) (A1 : Option Addr) (n1 c1 : Nat) (B1 : Option Addr) (m1 d1 : Nat) (l : List UInt8) (w : World) (hl : Env w) (hv1 : RdT w T1 (.agg #[.int .i64 k1, .int .i64 f1, .int .i64 a1, .string s1, .slice A1 n1 c1, .slice B1 m1 d1])) (hm1 : smallT T1 300 = true) (h1 : l.length ≤ 100) (h0 : l ≠ []) (hn : nameB l = false) : Calls Tryz.prog 4 #[.agg #[.int .i64 k1, .int .i64 f1, .int .i64 a1, .string s1, .slice A1 n1 c1, .slice B1 m1 d1], .string (txt.strOf l)] w (Holds w) := by
  have AW := Lib.hid (fun W h => awake_true SO W h)
  have HL := Lib.hid hl; clear hl
  have AF := Lib.hid (Aft.refl w)
  obtain ⟨V1, hV1⟩ : ∃ V, V = w.alloc (.cells #[.int .i64 k1, .int .i64 f1, .int .i64 a1, .string s1, .slice A1 n1 c1, .slice B1 m1 d1] 25) := ⟨_, rfl⟩
  obtain ⟨sx, b2, hsz1⟩ := six_new hV1
  have hv1 := hv1.below b2
  have TR1 : Hid (RdT V1 T1 (.agg #[.int .i64 k1, .int .i64 f1, .int .i64 a1, .string s1, .slice A1 n1 c1, .slice B1 m1 d1])) := Lib.hid hv1
  have SX1 := Lib.hid sx
  have HL := Lib.hid (SO.below HL.out b2)
  have AF := Lib.hid (AF.out.call b2)
  have HV := Lib.hid (show V1 = _ from hV1)
  clear sx b2 hV1 hv1 hsz1
  have hz := txt.strOf_size l
  have PM1 := Lib.hid (fun v W (h : RdT W T1 v) => (show Calls Tryz.prog 8 #[v, .int .i64 300] W (Say W true) by have := refSmall_any T1 v W 300 h (by omega) (by omega); rwa [hm1] at this))
  have PN := Lib.hid (fun W => (show Calls Tryz.prog 9 #[.string (txt.strOf l)] W (fun e w' => e = .returned (.bool false) ∧ W = w') by have := refName_any (txt.strOf l) W (by rw [txt.strOf_size]; omega); rwa [bl_str, hn] at this))
  have g1 : ¬ (100 : Int) < l.length := by omega
  have st : ((txt.strOf l).toList == []) = false := by rw [toList_str]; simpa using h0
  have st2 := full_list h0
  clear hm1 h1 h0 hn
  go_enter Tryz.func4, Tryz.ntmps4
  go_upto_region 1 with fail
  rw [← HV.out]
  clear HV
  go_wp2_with fail
  refine (AW.out _ HL.out).mono ?_
  rintro e w0 ⟨rfl, hb⟩
  have TR1 := Lib.hid (TR1.out.below hb)
  have SX1 := Lib.hid (SX1.out.below hb)
  have HL := Lib.hid (SO.below HL.out hb)
  have AF := Lib.hid (AF.out.call hb)
  clear hb
  have x1_0 := SX1.out.c0
  have x1_1 := SX1.out.c1
  have x1_2 := SX1.out.c2
  have x1_3 := SX1.out.c3
  have x1_4 := SX1.out.c4
  have x1_5 := SX1.out.c5
  go_wp2_with fail
  refine (PM1.out _ _ TR1.out).mono ?_
  rintro e w1 ⟨rfl, hb⟩
  clear x1_0 x1_1 x1_2 x1_3 x1_4 x1_5
  have TR1 := Lib.hid (TR1.out.below hb)
  have SX1 := Lib.hid (SX1.out.below hb)
  have HL := Lib.hid (SO.below HL.out hb)
  have AF := Lib.hid (AF.out.call hb)
  clear hb
  go_wp2_with fail
  refine (PN.out _).mono ?_
  rintro e w2 ⟨rfl, hw⟩
  obtain rfl := hw.symm
  clear hw
  go_wp2_with fail
  refine (AW.out _ HL.out).mono ?_
  rintro e w3 ⟨rfl, hb⟩
  have TR1 := Lib.hid (TR1.out.below hb)
  have SX1 := Lib.hid (SX1.out.below hb)
  have HL := Lib.hid (SO.below HL.out hb)
  have AF := Lib.hid (AF.out.call hb)
  clear hb
  go_wp2_with fail
  go_ret
  exact ⟨rfl, AF.out⟩
set_option maxHeartbeats 4000000 in
set_option maxRecDepth 100000 in
theorem inverse_far (T1 : Tr) (k1 f1 a1 : Int) (s1 : ByteArray) (A1 : Option Addr) (n1 c1 : Nat) (B1 : Option Addr) (m1 d1 : Nat) (l : List UInt8) (w : World) (hl : Env w) (hv1 : RdT w T1 (.agg #[.int .i64 k1, .int .i64 f1, .int .i64 a1, .string s1, .slice A1 n1 c1, .slice B1 m1 d1])) (hm1 : smallT T1 300 = true) (h1 : l.length ≤ 100) (h0 : l ≠ []) (hn : nameB l = true) (hx : 65536 < (lnS l T1).length) (hs : (showT T1).length ≤ 100000000) : Calls Tryz.prog 4 #[.agg #[.int .i64 k1, .int .i64 f1, .int .i64 a1, .string s1, .slice A1 n1 c1, .slice B1 m1 d1], .string (txt.strOf l)] w (Holds w) := by
  have hR := (small_R hv1 hm1).1
  have hD := (small_R hv1 hm1).2
  have AW := Lib.hid (fun W h => awake_true SO W h)
  have HL := Lib.hid hl; clear hl
  have AF := Lib.hid (Aft.refl w)
  obtain ⟨V1, hV1⟩ : ∃ V, V = w.alloc (.cells #[.int .i64 k1, .int .i64 f1, .int .i64 a1, .string s1, .slice A1 n1 c1, .slice B1 m1 d1] 25) := ⟨_, rfl⟩
  obtain ⟨sx, b2, hsz1⟩ := six_new hV1
  have hv1 := hv1.below b2
  have TR1 : Hid (RdT V1 T1 (.agg #[.int .i64 k1, .int .i64 f1, .int .i64 a1, .string s1, .slice A1 n1 c1, .slice B1 m1 d1])) := Lib.hid hv1
  have SX1 := Lib.hid sx
  have HL := Lib.hid (SO.below HL.out b2)
  have AF := Lib.hid (AF.out.call b2)
  have HV := Lib.hid (show V1 = _ from hV1)
  clear sx b2 hV1 hv1 hsz1
  have hz := txt.strOf_size l
  have PM1 := Lib.hid (fun v W (h : RdT W T1 v) => (show Calls Tryz.prog 8 #[v, .int .i64 300] W (Say W true) by have := refSmall_any T1 v W 300 h (by omega) (by omega); rwa [hm1] at this))
  have PN := Lib.hid (fun W => (show Calls Tryz.prog 9 #[.string (txt.strOf l)] W (fun e w' => e = .returned (.bool true) ∧ W = w') by have := refName_any (txt.strOf l) W (by rw [txt.strOf_size]; omega); rwa [bl_str, hn] at this))
  have st : ((txt.strOf l).toList == []) = false := by rw [toList_str]; simpa using h0
  have st2 := full_list h0
  have PL := Lib.hid (fun k f a s A n c B m d W (h : Env W) hv => SO.line ⟨hR, hD⟩ l k f a s A n c B m d W h hv (by omega) hs)
  obtain ⟨X, hX⟩ : ∃ X, X = lnS l T1 := ⟨_, rfl⟩
  rw [← hX] at PL hx
  have hzx := txt.strOf_size X
  have g1 : ¬ (100 : Int) < l.length := by omega
  have gx : (65536 : Int) < X.length := by omega
  clear hm1 h1 h0 hs hX hx hR hD hn
  go_enter Tryz.func4, Tryz.ntmps4
  go_upto_region 1 with fail
  rw [← HV.out]
  clear HV
  go_wp2_with fail
  refine (AW.out _ HL.out).mono ?_
  rintro e w0 ⟨rfl, hb⟩
  have TR1 := Lib.hid (TR1.out.below hb)
  have SX1 := Lib.hid (SX1.out.below hb)
  have HL := Lib.hid (SO.below HL.out hb)
  have AF := Lib.hid (AF.out.call hb)
  clear hb
  have x1_0 := SX1.out.c0
  have x1_1 := SX1.out.c1
  have x1_2 := SX1.out.c2
  have x1_3 := SX1.out.c3
  have x1_4 := SX1.out.c4
  have x1_5 := SX1.out.c5
  go_wp2_with fail
  refine (PM1.out _ _ TR1.out).mono ?_
  rintro e w1 ⟨rfl, hb⟩
  clear x1_0 x1_1 x1_2 x1_3 x1_4 x1_5
  have TR1 := Lib.hid (TR1.out.below hb)
  have SX1 := Lib.hid (SX1.out.below hb)
  have HL := Lib.hid (SO.below HL.out hb)
  have AF := Lib.hid (AF.out.call hb)
  clear hb
  go_wp2_with fail
  refine (PN.out _).mono ?_
  rintro e w2 ⟨rfl, hw⟩
  obtain rfl := hw.symm
  clear hw
  have x1_0 := SX1.out.c0
  have x1_1 := SX1.out.c1
  have x1_2 := SX1.out.c2
  have x1_3 := SX1.out.c3
  have x1_4 := SX1.out.c4
  have x1_5 := SX1.out.c5
  go_wp2_with fail
  refine (PL.out _ _ _ _ _ _ _ _ _ _ _ HL.out TR1.out).mono ?_
  rintro e w3 ⟨rfl, hb⟩
  clear x1_0 x1_1 x1_2 x1_3 x1_4 x1_5
  have TR1 := Lib.hid (TR1.out.below hb)
  have SX1 := Lib.hid (SX1.out.below hb)
  have HL := Lib.hid (SO.below HL.out hb)
  have AF := Lib.hid (AF.out.call hb)
  clear hb
  go_wp2_with fail
  go_ret
  exact ⟨rfl, AF.out⟩
set_option maxHeartbeats 4000000 in
set_option maxRecDepth 100000 in
theorem inverse_farb (T1 : Tr) (k1 f1 a1 : Int) (s1 : ByteArray) (A1 : Option Addr) (n1 c1 : Nat) (B1 : Option Addr) (m1 d1 : Nat) (l : List UInt8) (w : World) (hl : Env w) (hv1 : RdT w T1 (.agg #[.int .i64 k1, .int .i64 f1, .int .i64 a1, .string s1, .slice A1 n1 c1, .slice B1 m1 d1])) (hm1 : smallT T1 300 = true) (h1 : l.length ≤ 100) (h0 : l = []) (hx : 65536 < (lnS l T1).length) (hs : (showT T1).length ≤ 100000000) : Calls Tryz.prog 4 #[.agg #[.int .i64 k1, .int .i64 f1, .int .i64 a1, .string s1, .slice A1 n1 c1, .slice B1 m1 d1], .string (txt.strOf l)] w (Holds w) := by
  have hR := (small_R hv1 hm1).1
  have hD := (small_R hv1 hm1).2
  have AW := Lib.hid (fun W h => awake_true SO W h)
  have HL := Lib.hid hl; clear hl
  have AF := Lib.hid (Aft.refl w)
  obtain ⟨V1, hV1⟩ : ∃ V, V = w.alloc (.cells #[.int .i64 k1, .int .i64 f1, .int .i64 a1, .string s1, .slice A1 n1 c1, .slice B1 m1 d1] 25) := ⟨_, rfl⟩
  obtain ⟨sx, b2, hsz1⟩ := six_new hV1
  have hv1 := hv1.below b2
  have TR1 : Hid (RdT V1 T1 (.agg #[.int .i64 k1, .int .i64 f1, .int .i64 a1, .string s1, .slice A1 n1 c1, .slice B1 m1 d1])) := Lib.hid hv1
  have SX1 := Lib.hid sx
  have HL := Lib.hid (SO.below HL.out b2)
  have AF := Lib.hid (AF.out.call b2)
  have HV := Lib.hid (show V1 = _ from hV1)
  clear sx b2 hV1 hv1 hsz1
  have hz := txt.strOf_size l
  have PM1 := Lib.hid (fun v W (h : RdT W T1 v) => (show Calls Tryz.prog 8 #[v, .int .i64 300] W (Say W true) by have := refSmall_any T1 v W 300 h (by omega) (by omega); rwa [hm1] at this))
  have st : ((txt.strOf l).toList == []) = true := by rw [toList_str, h0]; rfl
  have st2 := empty_list h0
  have PL := Lib.hid (fun k f a s A n c B m d W (h : Env W) hv => SO.line ⟨hR, hD⟩ l k f a s A n c B m d W h hv (by omega) hs)
  obtain ⟨X, hX⟩ : ∃ X, X = lnS l T1 := ⟨_, rfl⟩
  rw [← hX] at PL hx
  have hzx := txt.strOf_size X
  have g1 : ¬ (100 : Int) < l.length := by omega
  have gx : (65536 : Int) < X.length := by omega
  clear hm1 h1 h0 hs hX hx hR hD
  go_enter Tryz.func4, Tryz.ntmps4
  go_upto_region 1 with fail
  rw [← HV.out]
  clear HV
  go_wp2_with fail
  refine (AW.out _ HL.out).mono ?_
  rintro e w0 ⟨rfl, hb⟩
  have TR1 := Lib.hid (TR1.out.below hb)
  have SX1 := Lib.hid (SX1.out.below hb)
  have HL := Lib.hid (SO.below HL.out hb)
  have AF := Lib.hid (AF.out.call hb)
  clear hb
  have x1_0 := SX1.out.c0
  have x1_1 := SX1.out.c1
  have x1_2 := SX1.out.c2
  have x1_3 := SX1.out.c3
  have x1_4 := SX1.out.c4
  have x1_5 := SX1.out.c5
  go_wp2_with fail
  refine (PM1.out _ _ TR1.out).mono ?_
  rintro e w1 ⟨rfl, hb⟩
  clear x1_0 x1_1 x1_2 x1_3 x1_4 x1_5
  have TR1 := Lib.hid (TR1.out.below hb)
  have SX1 := Lib.hid (SX1.out.below hb)
  have HL := Lib.hid (SO.below HL.out hb)
  have AF := Lib.hid (AF.out.call hb)
  clear hb
  have x1_0 := SX1.out.c0
  have x1_1 := SX1.out.c1
  have x1_2 := SX1.out.c2
  have x1_3 := SX1.out.c3
  have x1_4 := SX1.out.c4
  have x1_5 := SX1.out.c5
  go_wp2_with fail
  refine (PL.out _ _ _ _ _ _ _ _ _ _ _ HL.out TR1.out).mono ?_
  rintro e w2 ⟨rfl, hb⟩
  clear x1_0 x1_1 x1_2 x1_3 x1_4 x1_5
  have TR1 := Lib.hid (TR1.out.below hb)
  have SX1 := Lib.hid (SX1.out.below hb)
  have HL := Lib.hid (SO.below HL.out hb)
  have AF := Lib.hid (AF.out.call hb)
  clear hb
  go_wp2_with fail
  go_ret
  exact ⟨rfl, AF.out⟩
set_option maxHeartbeats 4000000 in
set_option maxRecDepth 100000 in
theorem inverse_named (T1 : Tr) (k1 f1 a1 : Int) (s1 : ByteArray) (A1 : Option Addr) (n1 c1 : Nat) (B1 : Option Addr) (m1 d1 : Nat) (l : List UInt8) (w : World) (hl : Env w) (hv1 : RdT w T1 (.agg #[.int .i64 k1, .int .i64 f1, .int .i64 a1, .string s1, .slice A1 n1 c1, .slice B1 m1 d1])) (hm1 : smallT T1 300 = true) (h1 : l.length ≤ 100) (h0 : l ≠ []) (hn : nameB l = true) (hx : (lnS l T1).length ≤ 65536) (hs : (showT T1).length ≤ 100000000) : Calls Tryz.prog 4 #[.agg #[.int .i64 k1, .int .i64 f1, .int .i64 a1, .string s1, .slice A1 n1 c1, .slice B1 m1 d1], .string (txt.strOf l)] w (Holds w) := by
  have hR := (small_R hv1 hm1).1
  have hD := (small_R hv1 hm1).2
  have AW := Lib.hid (fun W h => awake_true SO W h)
  have HL := Lib.hid hl; clear hl
  have AF := Lib.hid (Aft.refl w)
  obtain ⟨V1, hV1⟩ : ∃ V, V = w.alloc (.cells #[.int .i64 k1, .int .i64 f1, .int .i64 a1, .string s1, .slice A1 n1 c1, .slice B1 m1 d1] 25) := ⟨_, rfl⟩
  obtain ⟨sx, b2, hsz1⟩ := six_new hV1
  have hv1 := hv1.below b2
  have TR1 : Hid (RdT V1 T1 (.agg #[.int .i64 k1, .int .i64 f1, .int .i64 a1, .string s1, .slice A1 n1 c1, .slice B1 m1 d1])) := Lib.hid hv1
  have SX1 := Lib.hid sx
  have HL := Lib.hid (SO.below HL.out b2)
  have AF := Lib.hid (AF.out.call b2)
  have HV := Lib.hid (show V1 = _ from hV1)
  clear sx b2 hV1 hv1 hsz1
  have hz := txt.strOf_size l
  have PM1 := Lib.hid (fun v W (h : RdT W T1 v) => (show Calls Tryz.prog 8 #[v, .int .i64 300] W (Say W true) by have := refSmall_any T1 v W 300 h (by omega) (by omega); rwa [hm1] at this))
  have PN := Lib.hid (fun W => (show Calls Tryz.prog 9 #[.string (txt.strOf l)] W (fun e w' => e = .returned (.bool true) ∧ W = w') by have := refName_any (txt.strOf l) W (by rw [txt.strOf_size]; omega); rwa [bl_str, hn] at this))
  have st : ((txt.strOf l).toList == []) = false := by rw [toList_str]; simpa using h0
  have st2 := full_list h0
  have PL := Lib.hid (fun k f a s A n c B m d W (h : Env W) hv => SO.line ⟨hR, hD⟩ l k f a s A n c B m d W h hv (by omega) hs)
  have hnm : l = [] ∨ nameB l = true := .inr hn
  have hzl : (showT T1).length ≤ (lnS l T1).length := by
    unfold lnS
    by_cases h : l = []
    · rw [if_pos h]; omega
    · rw [if_neg h]; simp only [List.length_append]; omega
  have PX := Lib.hid (fun v W (h : Env W) hv => SO.expr ⟨hR, hD⟩ v W h hv hs)
  have PE := Lib.hid (fun W (h : Env W) => expr_text (showT T1) (by omega) W (SO.lays h))
  rw [show_expr hR hD (by omega)] at PE
  have PM := Lib.hid (fun W (h : Env W) => line_any (lnS l T1) (by omega) W (SO.lays h))
  rw [show_line hnm hR hD hx] at PM
  have PS := Lib.hid (fun u v W (h : RdT W T1 u) (h' : RdT W T1 v) => same_self_any T1 u v W h h')
  obtain ⟨Z, hZ⟩ : ∃ Z, Z = showT T1 := ⟨_, rfl⟩
  rw [← hZ] at PX PE
  clear hZ hzl hnm
  obtain ⟨X, hX⟩ : ∃ X, X = lnS l T1 := ⟨_, rfl⟩
  rw [← hX] at PL hx PM
  have hzx := txt.strOf_size X
  have g1 : ¬ (100 : Int) < l.length := by omega
  have gx : ¬ (65536 : Int) < X.length := by omega
  clear hm1 h1 h0 hs hX hx hR hD hn
  go_enter Tryz.func4, Tryz.ntmps4
  go_upto_region 1 with fail
  rw [← HV.out]
  clear HV
  go_wp2_with fail
  refine (AW.out _ HL.out).mono ?_
  rintro e w0 ⟨rfl, hb⟩
  have TR1 := Lib.hid (TR1.out.below hb)
  have SX1 := Lib.hid (SX1.out.below hb)
  have HL := Lib.hid (SO.below HL.out hb)
  have AF := Lib.hid (AF.out.call hb)
  clear hb
  have x1_0 := SX1.out.c0
  have x1_1 := SX1.out.c1
  have x1_2 := SX1.out.c2
  have x1_3 := SX1.out.c3
  have x1_4 := SX1.out.c4
  have x1_5 := SX1.out.c5
  go_wp2_with fail
  refine (PM1.out _ _ TR1.out).mono ?_
  rintro e w1 ⟨rfl, hb⟩
  clear x1_0 x1_1 x1_2 x1_3 x1_4 x1_5
  have TR1 := Lib.hid (TR1.out.below hb)
  have SX1 := Lib.hid (SX1.out.below hb)
  have HL := Lib.hid (SO.below HL.out hb)
  have AF := Lib.hid (AF.out.call hb)
  clear hb
  go_wp2_with fail
  refine (PN.out _).mono ?_
  rintro e w2 ⟨rfl, hw⟩
  obtain rfl := hw.symm
  clear hw
  have x1_0 := SX1.out.c0
  have x1_1 := SX1.out.c1
  have x1_2 := SX1.out.c2
  have x1_3 := SX1.out.c3
  have x1_4 := SX1.out.c4
  have x1_5 := SX1.out.c5
  go_wp2_with fail
  refine (PL.out _ _ _ _ _ _ _ _ _ _ _ HL.out TR1.out).mono ?_
  rintro e w3 ⟨rfl, hb⟩
  clear x1_0 x1_1 x1_2 x1_3 x1_4 x1_5
  have TR1 := Lib.hid (TR1.out.below hb)
  have SX1 := Lib.hid (SX1.out.below hb)
  have HL := Lib.hid (SO.below HL.out hb)
  have AF := Lib.hid (AF.out.call hb)
  clear hb
  have x1_0 := SX1.out.c0
  have x1_1 := SX1.out.c1
  have x1_2 := SX1.out.c2
  have x1_3 := SX1.out.c3
  have x1_4 := SX1.out.c4
  have x1_5 := SX1.out.c5
  go_wp2_with fail
  refine (PX.out _ _ HL.out TR1.out).mono ?_
  rintro e w4 ⟨rfl, hb⟩
  clear x1_0 x1_1 x1_2 x1_3 x1_4 x1_5
  have TR1 := Lib.hid (TR1.out.below hb)
  have SX1 := Lib.hid (SX1.out.below hb)
  have HL := Lib.hid (SO.below HL.out hb)
  have AF := Lib.hid (AF.out.call hb)
  clear hb
  go_wp2_with fail
  refine (PE.out _ HL.out).mono ?_
  rintro e w5 ⟨u, rfl, hu, hb⟩
  obtain ⟨k2, f2, a2, s2, A2, n2, c2, B2, m2, d2, rfl, -⟩ := RdQ_six hu
  obtain ⟨V5, hV⟩ : ∃ V, V = w5.alloc (.cells #[.int .i64 k2, .int .i64 f2, .int .i64 a2, .string s2, .slice A2 n2 c2, .slice B2 m2 d2] 25) := ⟨_, rfl⟩
  obtain ⟨sx, b2, -⟩ := six_new hV
  have TR1 := Lib.hid ((TR1.out.below hb).below b2)
  have SX1 := Lib.hid ((SX1.out.below hb).below b2)
  have HL := Lib.hid (SO.below (SO.below HL.out hb) b2)
  have AF := Lib.hid ((AF.out.call hb).call b2)
  have TR2 : Hid (RdT V5 _ (.agg #[.int .i64 k2, .int .i64 f2, .int .i64 a2, .string s2, .slice A2 n2 c2, .slice B2 m2 d2])) := Lib.hid (hu.rd.below b2)
  have SX2 := Lib.hid sx
  have HV := Lib.hid hV
  clear hV sx b2 hb hu
  go_upto_region 7 with fail
  rw [← HV.out]
  clear HV
  go_wp2_with fail
  refine (PM.out _ HL.out).mono ?_
  rintro e w6 ⟨u, rfl, hu, hb⟩
  obtain ⟨k3, f3, a3, s3, A3, n3, c3, B3, m3, d3, rfl, -⟩ := RdQ_six hu
  obtain ⟨V6, hV⟩ : ∃ V, V = w6.alloc (.cells #[.string (txt.strOf l), .int .i64 k3, .int .i64 f3, .int .i64 a3, .string s3, .slice A3 n3 c3, .slice B3 m3 d3] 32) := ⟨_, rfl⟩
  obtain ⟨sx, b2, -⟩ := seven_new hV
  have TR1 := Lib.hid ((TR1.out.below hb).below b2)
  have SX1 := Lib.hid ((SX1.out.below hb).below b2)
  have TR2 := Lib.hid ((TR2.out.below hb).below b2)
  have SX2 := Lib.hid ((SX2.out.below hb).below b2)
  have HL := Lib.hid (SO.below (SO.below HL.out hb) b2)
  have AF := Lib.hid ((AF.out.call hb).call b2)
  have TR3 : Hid (RdT V6 _ (.agg #[.int .i64 k3, .int .i64 f3, .int .i64 a3, .string s3, .slice A3 n3 c3, .slice B3 m3 d3])) := Lib.hid (hu.rd.below b2)
  have SX3 := Lib.hid sx
  have HV := Lib.hid hV
  clear hV sx b2 hb hu
  go_upto_region 8 with fail
  rw [← HV.out]
  clear HV
  have x1_0 := SX1.out.c0
  have x1_1 := SX1.out.c1
  have x1_2 := SX1.out.c2
  have x1_3 := SX1.out.c3
  have x1_4 := SX1.out.c4
  have x1_5 := SX1.out.c5
  have x2_0 := SX2.out.c0
  have x2_1 := SX2.out.c1
  have x2_2 := SX2.out.c2
  have x2_3 := SX2.out.c3
  have x2_4 := SX2.out.c4
  have x2_5 := SX2.out.c5
  go_wp2_with fail
  refine (PS.out _ _ _ TR2.out TR1.out).mono ?_
  rintro e w7 ⟨rfl, hb⟩
  clear x1_0 x1_1 x1_2 x1_3 x1_4 x1_5 x2_0 x2_1 x2_2 x2_3 x2_4 x2_5
  have TR1 := Lib.hid (TR1.out.below hb)
  have SX1 := Lib.hid (SX1.out.below hb)
  have TR2 := Lib.hid (TR2.out.below hb)
  have SX2 := Lib.hid (SX2.out.below hb)
  have TR3 := Lib.hid (TR3.out.below hb)
  have SX3 := Lib.hid (SX3.out.below hb)
  have HL := Lib.hid (SO.below HL.out hb)
  have AF := Lib.hid (AF.out.call hb)
  clear hb
  have x1_0 := SX1.out.c0
  have x1_1 := SX1.out.c1
  have x1_2 := SX1.out.c2
  have x1_3 := SX1.out.c3
  have x1_4 := SX1.out.c4
  have x1_5 := SX1.out.c5
  have x3_0 := SX3.out.c0
  have x3_1 := SX3.out.c1
  have x3_2 := SX3.out.c2
  have x3_3 := SX3.out.c3
  have x3_4 := SX3.out.c4
  have x3_5 := SX3.out.c5
  have x3_6 := SX3.out.c6
  go_wp2_with fail
  refine (PS.out _ _ _ TR3.out TR1.out).mono ?_
  rintro e w8 ⟨rfl, hb⟩
  clear x1_0 x1_1 x1_2 x1_3 x1_4 x1_5 x3_0 x3_1 x3_2 x3_3 x3_4 x3_5 x3_6
  have TR1 := Lib.hid (TR1.out.below hb)
  have SX1 := Lib.hid (SX1.out.below hb)
  have TR2 := Lib.hid (TR2.out.below hb)
  have SX2 := Lib.hid (SX2.out.below hb)
  have TR3 := Lib.hid (TR3.out.below hb)
  have SX3 := Lib.hid (SX3.out.below hb)
  have HL := Lib.hid (SO.below HL.out hb)
  have AF := Lib.hid (AF.out.call hb)
  clear hb
  go_wp2_with fail
  go_ret
  exact ⟨rfl, AF.out⟩
set_option maxHeartbeats 4000000 in
set_option maxRecDepth 100000 in
theorem inverse_bare (T1 : Tr) (k1 f1 a1 : Int) (s1 : ByteArray) (A1 : Option Addr) (n1 c1 : Nat) (B1 : Option Addr) (m1 d1 : Nat) (l : List UInt8) (w : World) (hl : Env w) (hv1 : RdT w T1 (.agg #[.int .i64 k1, .int .i64 f1, .int .i64 a1, .string s1, .slice A1 n1 c1, .slice B1 m1 d1])) (hm1 : smallT T1 300 = true) (h1 : l.length ≤ 100) (h0 : l = []) (hx : (lnS l T1).length ≤ 65536) (hs : (showT T1).length ≤ 100000000) : Calls Tryz.prog 4 #[.agg #[.int .i64 k1, .int .i64 f1, .int .i64 a1, .string s1, .slice A1 n1 c1, .slice B1 m1 d1], .string (txt.strOf l)] w (Holds w) := by
  have hR := (small_R hv1 hm1).1
  have hD := (small_R hv1 hm1).2
  have AW := Lib.hid (fun W h => awake_true SO W h)
  have HL := Lib.hid hl; clear hl
  have AF := Lib.hid (Aft.refl w)
  obtain ⟨V1, hV1⟩ : ∃ V, V = w.alloc (.cells #[.int .i64 k1, .int .i64 f1, .int .i64 a1, .string s1, .slice A1 n1 c1, .slice B1 m1 d1] 25) := ⟨_, rfl⟩
  obtain ⟨sx, b2, hsz1⟩ := six_new hV1
  have hv1 := hv1.below b2
  have TR1 : Hid (RdT V1 T1 (.agg #[.int .i64 k1, .int .i64 f1, .int .i64 a1, .string s1, .slice A1 n1 c1, .slice B1 m1 d1])) := Lib.hid hv1
  have SX1 := Lib.hid sx
  have HL := Lib.hid (SO.below HL.out b2)
  have AF := Lib.hid (AF.out.call b2)
  have HV := Lib.hid (show V1 = _ from hV1)
  clear sx b2 hV1 hv1 hsz1
  have hz := txt.strOf_size l
  have PM1 := Lib.hid (fun v W (h : RdT W T1 v) => (show Calls Tryz.prog 8 #[v, .int .i64 300] W (Say W true) by have := refSmall_any T1 v W 300 h (by omega) (by omega); rwa [hm1] at this))
  have st : ((txt.strOf l).toList == []) = true := by rw [toList_str, h0]; rfl
  have st2 := empty_list h0
  have PL := Lib.hid (fun k f a s A n c B m d W (h : Env W) hv => SO.line ⟨hR, hD⟩ l k f a s A n c B m d W h hv (by omega) hs)
  have hnm : l = [] ∨ nameB l = true := .inl h0
  have hzl : (showT T1).length ≤ (lnS l T1).length := by
    unfold lnS
    by_cases h : l = []
    · rw [if_pos h]; omega
    · rw [if_neg h]; simp only [List.length_append]; omega
  have PX := Lib.hid (fun v W (h : Env W) hv => SO.expr ⟨hR, hD⟩ v W h hv hs)
  have PE := Lib.hid (fun W (h : Env W) => expr_text (showT T1) (by omega) W (SO.lays h))
  rw [show_expr hR hD (by omega)] at PE
  have PM := Lib.hid (fun W (h : Env W) => line_any (lnS l T1) (by omega) W (SO.lays h))
  rw [show_line hnm hR hD hx] at PM
  have PS := Lib.hid (fun u v W (h : RdT W T1 u) (h' : RdT W T1 v) => same_self_any T1 u v W h h')
  obtain ⟨Z, hZ⟩ : ∃ Z, Z = showT T1 := ⟨_, rfl⟩
  rw [← hZ] at PX PE
  clear hZ hzl hnm
  obtain ⟨X, hX⟩ : ∃ X, X = lnS l T1 := ⟨_, rfl⟩
  rw [← hX] at PL hx PM
  have hzx := txt.strOf_size X
  have g1 : ¬ (100 : Int) < l.length := by omega
  have gx : ¬ (65536 : Int) < X.length := by omega
  clear hm1 h1 h0 hs hX hx hR hD
  go_enter Tryz.func4, Tryz.ntmps4
  go_upto_region 1 with fail
  rw [← HV.out]
  clear HV
  go_wp2_with fail
  refine (AW.out _ HL.out).mono ?_
  rintro e w0 ⟨rfl, hb⟩
  have TR1 := Lib.hid (TR1.out.below hb)
  have SX1 := Lib.hid (SX1.out.below hb)
  have HL := Lib.hid (SO.below HL.out hb)
  have AF := Lib.hid (AF.out.call hb)
  clear hb
  have x1_0 := SX1.out.c0
  have x1_1 := SX1.out.c1
  have x1_2 := SX1.out.c2
  have x1_3 := SX1.out.c3
  have x1_4 := SX1.out.c4
  have x1_5 := SX1.out.c5
  go_wp2_with fail
  refine (PM1.out _ _ TR1.out).mono ?_
  rintro e w1 ⟨rfl, hb⟩
  clear x1_0 x1_1 x1_2 x1_3 x1_4 x1_5
  have TR1 := Lib.hid (TR1.out.below hb)
  have SX1 := Lib.hid (SX1.out.below hb)
  have HL := Lib.hid (SO.below HL.out hb)
  have AF := Lib.hid (AF.out.call hb)
  clear hb
  have x1_0 := SX1.out.c0
  have x1_1 := SX1.out.c1
  have x1_2 := SX1.out.c2
  have x1_3 := SX1.out.c3
  have x1_4 := SX1.out.c4
  have x1_5 := SX1.out.c5
  go_wp2_with fail
  refine (PL.out _ _ _ _ _ _ _ _ _ _ _ HL.out TR1.out).mono ?_
  rintro e w2 ⟨rfl, hb⟩
  clear x1_0 x1_1 x1_2 x1_3 x1_4 x1_5
  have TR1 := Lib.hid (TR1.out.below hb)
  have SX1 := Lib.hid (SX1.out.below hb)
  have HL := Lib.hid (SO.below HL.out hb)
  have AF := Lib.hid (AF.out.call hb)
  clear hb
  have x1_0 := SX1.out.c0
  have x1_1 := SX1.out.c1
  have x1_2 := SX1.out.c2
  have x1_3 := SX1.out.c3
  have x1_4 := SX1.out.c4
  have x1_5 := SX1.out.c5
  go_wp2_with fail
  refine (PX.out _ _ HL.out TR1.out).mono ?_
  rintro e w3 ⟨rfl, hb⟩
  clear x1_0 x1_1 x1_2 x1_3 x1_4 x1_5
  have TR1 := Lib.hid (TR1.out.below hb)
  have SX1 := Lib.hid (SX1.out.below hb)
  have HL := Lib.hid (SO.below HL.out hb)
  have AF := Lib.hid (AF.out.call hb)
  clear hb
  go_wp2_with fail
  refine (PE.out _ HL.out).mono ?_
  rintro e w4 ⟨u, rfl, hu, hb⟩
  obtain ⟨k2, f2, a2, s2, A2, n2, c2, B2, m2, d2, rfl, -⟩ := RdQ_six hu
  obtain ⟨V4, hV⟩ : ∃ V, V = w4.alloc (.cells #[.int .i64 k2, .int .i64 f2, .int .i64 a2, .string s2, .slice A2 n2 c2, .slice B2 m2 d2] 25) := ⟨_, rfl⟩
  obtain ⟨sx, b2, -⟩ := six_new hV
  have TR1 := Lib.hid ((TR1.out.below hb).below b2)
  have SX1 := Lib.hid ((SX1.out.below hb).below b2)
  have HL := Lib.hid (SO.below (SO.below HL.out hb) b2)
  have AF := Lib.hid ((AF.out.call hb).call b2)
  have TR2 : Hid (RdT V4 _ (.agg #[.int .i64 k2, .int .i64 f2, .int .i64 a2, .string s2, .slice A2 n2 c2, .slice B2 m2 d2])) := Lib.hid (hu.rd.below b2)
  have SX2 := Lib.hid sx
  have HV := Lib.hid hV
  clear hV sx b2 hb hu
  go_upto_region 7 with fail
  rw [← HV.out]
  clear HV
  go_wp2_with fail
  refine (PM.out _ HL.out).mono ?_
  rintro e w5 ⟨u, rfl, hu, hb⟩
  obtain ⟨k3, f3, a3, s3, A3, n3, c3, B3, m3, d3, rfl, -⟩ := RdQ_six hu
  obtain ⟨V5, hV⟩ : ∃ V, V = w5.alloc (.cells #[.string (txt.strOf l), .int .i64 k3, .int .i64 f3, .int .i64 a3, .string s3, .slice A3 n3 c3, .slice B3 m3 d3] 32) := ⟨_, rfl⟩
  obtain ⟨sx, b2, -⟩ := seven_new hV
  have TR1 := Lib.hid ((TR1.out.below hb).below b2)
  have SX1 := Lib.hid ((SX1.out.below hb).below b2)
  have TR2 := Lib.hid ((TR2.out.below hb).below b2)
  have SX2 := Lib.hid ((SX2.out.below hb).below b2)
  have HL := Lib.hid (SO.below (SO.below HL.out hb) b2)
  have AF := Lib.hid ((AF.out.call hb).call b2)
  have TR3 : Hid (RdT V5 _ (.agg #[.int .i64 k3, .int .i64 f3, .int .i64 a3, .string s3, .slice A3 n3 c3, .slice B3 m3 d3])) := Lib.hid (hu.rd.below b2)
  have SX3 := Lib.hid sx
  have HV := Lib.hid hV
  clear hV sx b2 hb hu
  go_upto_region 8 with fail
  rw [← HV.out]
  clear HV
  have x1_0 := SX1.out.c0
  have x1_1 := SX1.out.c1
  have x1_2 := SX1.out.c2
  have x1_3 := SX1.out.c3
  have x1_4 := SX1.out.c4
  have x1_5 := SX1.out.c5
  have x2_0 := SX2.out.c0
  have x2_1 := SX2.out.c1
  have x2_2 := SX2.out.c2
  have x2_3 := SX2.out.c3
  have x2_4 := SX2.out.c4
  have x2_5 := SX2.out.c5
  go_wp2_with fail
  refine (PS.out _ _ _ TR2.out TR1.out).mono ?_
  rintro e w6 ⟨rfl, hb⟩
  clear x1_0 x1_1 x1_2 x1_3 x1_4 x1_5 x2_0 x2_1 x2_2 x2_3 x2_4 x2_5
  have TR1 := Lib.hid (TR1.out.below hb)
  have SX1 := Lib.hid (SX1.out.below hb)
  have TR2 := Lib.hid (TR2.out.below hb)
  have SX2 := Lib.hid (SX2.out.below hb)
  have TR3 := Lib.hid (TR3.out.below hb)
  have SX3 := Lib.hid (SX3.out.below hb)
  have HL := Lib.hid (SO.below HL.out hb)
  have AF := Lib.hid (AF.out.call hb)
  clear hb
  have x1_0 := SX1.out.c0
  have x1_1 := SX1.out.c1
  have x1_2 := SX1.out.c2
  have x1_3 := SX1.out.c3
  have x1_4 := SX1.out.c4
  have x1_5 := SX1.out.c5
  have x3_0 := SX3.out.c0
  have x3_1 := SX3.out.c1
  have x3_2 := SX3.out.c2
  have x3_3 := SX3.out.c3
  have x3_4 := SX3.out.c4
  have x3_5 := SX3.out.c5
  have x3_6 := SX3.out.c6
  go_wp2_with fail
  refine (PS.out _ _ _ TR3.out TR1.out).mono ?_
  rintro e w7 ⟨rfl, hb⟩
  clear x1_0 x1_1 x1_2 x1_3 x1_4 x1_5 x3_0 x3_1 x3_2 x3_3 x3_4 x3_5 x3_6
  have TR1 := Lib.hid (TR1.out.below hb)
  have SX1 := Lib.hid (SX1.out.below hb)
  have TR2 := Lib.hid (TR2.out.below hb)
  have SX2 := Lib.hid (SX2.out.below hb)
  have TR3 := Lib.hid (TR3.out.below hb)
  have SX3 := Lib.hid (SX3.out.below hb)
  have HL := Lib.hid (SO.below HL.out hb)
  have AF := Lib.hid (AF.out.call hb)
  clear hb
  go_wp2_with fail
  go_ret
  exact ⟨rfl, AF.out⟩
theorem walk_ShowInverse (T : Tr) (v : Value) (s : ByteArray) (w : World) (hl : Env w) (hv : RdT w T v) (hw : wtT T ≤ 1048576) : Calls Tryz.prog 4 #[v, .string s] w (Holds w) := by
  rw [← str_bl s]
  obtain ⟨k, f, a, t, A, n, c, B, m, d, e⟩ : ∃ k f a t A n c B m d, v = .agg #[.int .i64 k, .int .i64 f, .int .i64 a, .string t, .slice A n c, .slice B m d] := by
    obtain ⟨_, _, _, t, _, _⟩ := T
    obtain ⟨A, n, c, B, m, d, e, _⟩ := rdT_node.1 hv
    exact ⟨_, _, _, t, A, n, c, B, m, d, e⟩
  subst e
  cases hm : smallT T 300 with
  | false => exact inverse_big SO T _ _ _ _ _ _ _ _ _ _ _ w hl hv hm
  | true =>
    have hs := show_short (small_R hv hm).1 hw
    by_cases h1 : (bl s).length ≤ 100
    · by_cases h0 : bl s = []
      · by_cases hx : (lnS (bl s) T).length ≤ 65536
        · exact inverse_bare SO T _ _ _ _ _ _ _ _ _ _ _ w hl hv hm h1 h0 hx hs
        · exact inverse_farb SO T _ _ _ _ _ _ _ _ _ _ _ w hl hv hm h1 h0 (by omega) hs
      · cases hn : nameB (bl s) with
        | false => exact inverse_noname SO T _ _ _ _ _ _ _ _ _ _ _ w hl hv hm h1 h0 hn
        | true =>
          by_cases hx : (lnS (bl s) T).length ≤ 65536
          · exact inverse_named SO T _ _ _ _ _ _ _ _ _ _ _ w hl hv hm h1 h0 hn hx hs
          · exact inverse_far SO T _ _ _ _ _ _ _ _ _ _ _ w hl hv hm h1 h0 hn (by omega) hs
    · exact inverse_long SO T _ _ _ _ _ _ _ _ _ _ _ w hl hv hm (by omega)
end
end Go.Proofs.YthgojbaindejjaaGreatDoor.sh
