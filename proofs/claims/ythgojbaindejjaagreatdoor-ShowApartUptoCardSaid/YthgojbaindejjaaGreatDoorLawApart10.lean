/- The walk of ShowApart. -/
import Derived.Test.YthgojbaindejjaaGreatDoorLawMatches10
import Derived.Test.YthgojbaindejjaaGreatDoorLexLead
import Derived.Test.YthgojbaindejjaaGreatDoorAft
import Derived.Deep.RegionHeld3
namespace Go.Proofs.YthgojbaindejjaaGreatDoor.sh
open Go.ChangeShapes Go.WideShapes Go.ChangeAt Go.RowKit Go.Proofs.YthgojbaindejjaaGreatDoor.mem Go.Proofs.YthgojbaindejjaaGreatDoor.lx Go.Proofs.YthgojbaindejjaaGreatDoor.tr Go.Proofs.YthgojbaindejjaaGreatDoor.ps
set_option linter.unusedVariables false
set_option linter.unusedSimpArgs false

section
variable {Env : World → Prop} (SO : ShowOk Env)
include SO
set_option maxHeartbeats 4000000 in
set_option maxRecDepth 100000 in
theorem apart_one (T1 : Tr) (k1 f1 a1 : Int) (s1 : ByteArray) (A1 : Option Addr) (n1 c1 : Nat) (B1 : Option Addr) (m1 d1 : Nat) (T2 : Tr) (k2 f2 a2 : Int) (s2 : ByteArray) (A2 : Option Addr) (n2 c2 : Nat) (B2 : Option Addr) (m2 d2 : Nat) (w : World) (hl : Env w) (hv1 : RdT w T1 (.agg #[.int .i64 k1, .int .i64 f1, .int .i64 a1, .string s1, .slice A1 n1 c1, .slice B1 m1 d1])) (hv2 : RdT w T2 (.agg #[.int .i64 k2, .int .i64 f2, .int .i64 a2, .string s2, .slice A2 n2 c2, .slice B2 m2 d2])) (hm1 : smallT T1 300 = false) : Calls Tryz.prog 6 #[.agg #[.int .i64 k1, .int .i64 f1, .int .i64 a1, .string s1, .slice A1 n1 c1, .slice B1 m1 d1], .agg #[.int .i64 k2, .int .i64 f2, .int .i64 a2, .string s2, .slice A2 n2 c2, .slice B2 m2 d2]] w (Holds w) := by
  have AW := Lib.hid (fun W h => awake_true SO W h)
  have HL := Lib.hid hl; clear hl
  have AF := Lib.hid (Aft.refl w)
  obtain ⟨V1, hV1⟩ : ∃ V, V = w.alloc (.cells #[.int .i64 k1, .int .i64 f1, .int .i64 a1, .string s1, .slice A1 n1 c1, .slice B1 m1 d1] 25) := ⟨_, rfl⟩
  obtain ⟨sx, b2, hsz1⟩ := six_new hV1
  have hv1 := hv1.below b2
  have hv2 := hv2.below b2
  have TR1 : Hid (RdT V1 T1 (.agg #[.int .i64 k1, .int .i64 f1, .int .i64 a1, .string s1, .slice A1 n1 c1, .slice B1 m1 d1])) := Lib.hid hv1
  have SX1 := Lib.hid sx
  have HL := Lib.hid (SO.below HL.out b2)
  have AF := Lib.hid (AF.out.call b2)
  obtain ⟨V2, hV2⟩ : ∃ V, V = V1.alloc (.cells #[.int .i64 k2, .int .i64 f2, .int .i64 a2, .string s2, .slice A2 n2 c2, .slice B2 m2 d2] 25) := ⟨_, rfl⟩
  obtain ⟨sx, b2, hsz2⟩ := six_new hV2
  rw [hsz1] at sx
  have TR1 := Lib.hid (TR1.out.below b2)
  have SX1 := Lib.hid (SX1.out.below b2)
  have hv2 := hv2.below b2
  have TR2 : Hid (RdT V2 T2 (.agg #[.int .i64 k2, .int .i64 f2, .int .i64 a2, .string s2, .slice A2 n2 c2, .slice B2 m2 d2])) := Lib.hid hv2
  have SX2 := Lib.hid sx
  have HL := Lib.hid (SO.below HL.out b2)
  have AF := Lib.hid (AF.out.call b2)
  have HV := Lib.hid (show V2 = (w.alloc (.cells #[.int .i64 k1, .int .i64 f1, .int .i64 a1, .string s1, .slice A1 n1 c1, .slice B1 m1 d1] 25)).alloc (.cells #[.int .i64 k2, .int .i64 f2, .int .i64 a2, .string s2, .slice A2 n2 c2, .slice B2 m2 d2] 25) by rw [hV2, hV1])
  clear sx b2 hV2 hv2 hsz2 hV1 hv1 hsz1
  have PM1 := Lib.hid (fun v W (h : RdT W T1 v) => (show Calls Tryz.prog 8 #[v, .int .i64 300] W (Say W false) by have := refSmall_any T1 v W 300 h (by omega) (by omega); rwa [hm1] at this))
  clear hm1
  go_enter Tryz.func6, Tryz.ntmps6
  go_upto_region 1 with fail
  rw [← HV.out]
  clear HV
  go_wp2_with fail
  refine (AW.out _ HL.out).mono ?_
  rintro e w0 ⟨rfl, hb⟩
  have TR1 := Lib.hid (TR1.out.below hb)
  have SX1 := Lib.hid (SX1.out.below hb)
  have TR2 := Lib.hid (TR2.out.below hb)
  have SX2 := Lib.hid (SX2.out.below hb)
  have HL := Lib.hid (SO.below HL.out hb)
  have AF := Lib.hid (AF.out.call hb)
  clear hb
  have x1_0 := SX1.out.c0
  have x1_1 := SX1.out.c1
  have x1_2 := SX1.out.c2
  have x1_3 := SX1.out.c3
  have x1_4 := SX1.out.c4
  have x1_5 := SX1.out.c5
  go_wp2_with fail
  refine (PM1.out _ _ TR1.out).mono ?_
  rintro e w1 ⟨rfl, hb⟩
  clear x1_0 x1_1 x1_2 x1_3 x1_4 x1_5
  have TR1 := Lib.hid (TR1.out.below hb)
  have SX1 := Lib.hid (SX1.out.below hb)
  have TR2 := Lib.hid (TR2.out.below hb)
  have SX2 := Lib.hid (SX2.out.below hb)
  have HL := Lib.hid (SO.below HL.out hb)
  have AF := Lib.hid (AF.out.call hb)
  clear hb
  go_wp2_with fail
  refine (AW.out _ HL.out).mono ?_
  rintro e w2 ⟨rfl, hb⟩
  have TR1 := Lib.hid (TR1.out.below hb)
  have SX1 := Lib.hid (SX1.out.below hb)
  have TR2 := Lib.hid (TR2.out.below hb)
  have SX2 := Lib.hid (SX2.out.below hb)
  have HL := Lib.hid (SO.below HL.out hb)
  have AF := Lib.hid (AF.out.call hb)
  clear hb
  go_wp2_with fail
  go_ret
  exact ⟨rfl, AF.out⟩
set_option maxHeartbeats 4000000 in
set_option maxRecDepth 100000 in
theorem apart_two (T1 : Tr) (k1 f1 a1 : Int) (s1 : ByteArray) (A1 : Option Addr) (n1 c1 : Nat) (B1 : Option Addr) (m1 d1 : Nat) (T2 : Tr) (k2 f2 a2 : Int) (s2 : ByteArray) (A2 : Option Addr) (n2 c2 : Nat) (B2 : Option Addr) (m2 d2 : Nat) (w : World) (hl : Env w) (hv1 : RdT w T1 (.agg #[.int .i64 k1, .int .i64 f1, .int .i64 a1, .string s1, .slice A1 n1 c1, .slice B1 m1 d1])) (hv2 : RdT w T2 (.agg #[.int .i64 k2, .int .i64 f2, .int .i64 a2, .string s2, .slice A2 n2 c2, .slice B2 m2 d2])) (hm1 : smallT T1 300 = true) (hm2 : smallT T2 300 = false) : Calls Tryz.prog 6 #[.agg #[.int .i64 k1, .int .i64 f1, .int .i64 a1, .string s1, .slice A1 n1 c1, .slice B1 m1 d1], .agg #[.int .i64 k2, .int .i64 f2, .int .i64 a2, .string s2, .slice A2 n2 c2, .slice B2 m2 d2]] w (Holds w) := by
  have AW := Lib.hid (fun W h => awake_true SO W h)
  have HL := Lib.hid hl; clear hl
  have AF := Lib.hid (Aft.refl w)
  obtain ⟨V1, hV1⟩ : ∃ V, V = w.alloc (.cells #[.int .i64 k1, .int .i64 f1, .int .i64 a1, .string s1, .slice A1 n1 c1, .slice B1 m1 d1] 25) := ⟨_, rfl⟩
  obtain ⟨sx, b2, hsz1⟩ := six_new hV1
  have hv1 := hv1.below b2
  have hv2 := hv2.below b2
  have TR1 : Hid (RdT V1 T1 (.agg #[.int .i64 k1, .int .i64 f1, .int .i64 a1, .string s1, .slice A1 n1 c1, .slice B1 m1 d1])) := Lib.hid hv1
  have SX1 := Lib.hid sx
  have HL := Lib.hid (SO.below HL.out b2)
  have AF := Lib.hid (AF.out.call b2)
  obtain ⟨V2, hV2⟩ : ∃ V, V = V1.alloc (.cells #[.int .i64 k2, .int .i64 f2, .int .i64 a2, .string s2, .slice A2 n2 c2, .slice B2 m2 d2] 25) := ⟨_, rfl⟩
  obtain ⟨sx, b2, hsz2⟩ := six_new hV2
  rw [hsz1] at sx
  have TR1 := Lib.hid (TR1.out.below b2)
  have SX1 := Lib.hid (SX1.out.below b2)
  have hv2 := hv2.below b2
  have TR2 : Hid (RdT V2 T2 (.agg #[.int .i64 k2, .int .i64 f2, .int .i64 a2, .string s2, .slice A2 n2 c2, .slice B2 m2 d2])) := Lib.hid hv2
  have SX2 := Lib.hid sx
  have HL := Lib.hid (SO.below HL.out b2)
  have AF := Lib.hid (AF.out.call b2)
  have HV := Lib.hid (show V2 = (w.alloc (.cells #[.int .i64 k1, .int .i64 f1, .int .i64 a1, .string s1, .slice A1 n1 c1, .slice B1 m1 d1] 25)).alloc (.cells #[.int .i64 k2, .int .i64 f2, .int .i64 a2, .string s2, .slice A2 n2 c2, .slice B2 m2 d2] 25) by rw [hV2, hV1])
  clear sx b2 hV2 hv2 hsz2 hV1 hv1 hsz1
  have PM1 := Lib.hid (fun v W (h : RdT W T1 v) => (show Calls Tryz.prog 8 #[v, .int .i64 300] W (Say W true) by have := refSmall_any T1 v W 300 h (by omega) (by omega); rwa [hm1] at this))
  have PM2 := Lib.hid (fun v W (h : RdT W T2 v) => (show Calls Tryz.prog 8 #[v, .int .i64 300] W (Say W false) by have := refSmall_any T2 v W 300 h (by omega) (by omega); rwa [hm2] at this))
  clear hm1 hm2
  go_enter Tryz.func6, Tryz.ntmps6
  go_upto_region 1 with fail
  rw [← HV.out]
  clear HV
  go_wp2_with fail
  refine (AW.out _ HL.out).mono ?_
  rintro e w0 ⟨rfl, hb⟩
  have TR1 := Lib.hid (TR1.out.below hb)
  have SX1 := Lib.hid (SX1.out.below hb)
  have TR2 := Lib.hid (TR2.out.below hb)
  have SX2 := Lib.hid (SX2.out.below hb)
  have HL := Lib.hid (SO.below HL.out hb)
  have AF := Lib.hid (AF.out.call hb)
  clear hb
  have x1_0 := SX1.out.c0
  have x1_1 := SX1.out.c1
  have x1_2 := SX1.out.c2
  have x1_3 := SX1.out.c3
  have x1_4 := SX1.out.c4
  have x1_5 := SX1.out.c5
  go_wp2_with fail
  refine (PM1.out _ _ TR1.out).mono ?_
  rintro e w1 ⟨rfl, hb⟩
  clear x1_0 x1_1 x1_2 x1_3 x1_4 x1_5
  have TR1 := Lib.hid (TR1.out.below hb)
  have SX1 := Lib.hid (SX1.out.below hb)
  have TR2 := Lib.hid (TR2.out.below hb)
  have SX2 := Lib.hid (SX2.out.below hb)
  have HL := Lib.hid (SO.below HL.out hb)
  have AF := Lib.hid (AF.out.call hb)
  clear hb
  have x2_0 := SX2.out.c0
  have x2_1 := SX2.out.c1
  have x2_2 := SX2.out.c2
  have x2_3 := SX2.out.c3
  have x2_4 := SX2.out.c4
  have x2_5 := SX2.out.c5
  go_wp2_with fail
  refine (PM2.out _ _ TR2.out).mono ?_
  rintro e w2 ⟨rfl, hb⟩
  clear x2_0 x2_1 x2_2 x2_3 x2_4 x2_5
  have TR1 := Lib.hid (TR1.out.below hb)
  have SX1 := Lib.hid (SX1.out.below hb)
  have TR2 := Lib.hid (TR2.out.below hb)
  have SX2 := Lib.hid (SX2.out.below hb)
  have HL := Lib.hid (SO.below HL.out hb)
  have AF := Lib.hid (AF.out.call hb)
  clear hb
  go_wp2_with fail
  refine (AW.out _ HL.out).mono ?_
  rintro e w3 ⟨rfl, hb⟩
  have TR1 := Lib.hid (TR1.out.below hb)
  have SX1 := Lib.hid (SX1.out.below hb)
  have TR2 := Lib.hid (TR2.out.below hb)
  have SX2 := Lib.hid (SX2.out.below hb)
  have HL := Lib.hid (SO.below HL.out hb)
  have AF := Lib.hid (AF.out.call hb)
  clear hb
  go_wp2_with fail
  go_ret
  exact ⟨rfl, AF.out⟩
set_option maxHeartbeats 4000000 in
set_option maxRecDepth 100000 in
theorem apart_both (T1 : Tr) (k1 f1 a1 : Int) (s1 : ByteArray) (A1 : Option Addr) (n1 c1 : Nat) (B1 : Option Addr) (m1 d1 : Nat) (T2 : Tr) (k2 f2 a2 : Int) (s2 : ByteArray) (A2 : Option Addr) (n2 c2 : Nat) (B2 : Option Addr) (m2 d2 : Nat) (w : World) (hl : Env w) (hv1 : RdT w T1 (.agg #[.int .i64 k1, .int .i64 f1, .int .i64 a1, .string s1, .slice A1 n1 c1, .slice B1 m1 d1])) (hv2 : RdT w T2 (.agg #[.int .i64 k2, .int .i64 f2, .int .i64 a2, .string s2, .slice A2 n2 c2, .slice B2 m2 d2])) (hm1 : smallT T1 300 = true) (hm2 : smallT T2 300 = true) (hs1 : (showT T1).length ≤ 100000000) (hs2 : (showT T2).length ≤ 100000000) (ans : Bool) (hans : sameT T1 T2 = ans) : Calls Tryz.prog 6 #[.agg #[.int .i64 k1, .int .i64 f1, .int .i64 a1, .string s1, .slice A1 n1 c1, .slice B1 m1 d1], .agg #[.int .i64 k2, .int .i64 f2, .int .i64 a2, .string s2, .slice A2 n2 c2, .slice B2 m2 d2]] w (Holds w) := by
  have hR1 := (small_R hv1 hm1).1
  have hR2 := (small_R hv2 hm2).1
  have HR1 := Lib.hid (And.intro hR1 (small_R hv1 hm1).2)
  have HR2 := Lib.hid (And.intro hR2 (small_R hv2 hm2).2)
  have HS1 := Lib.hid hs1
  have HS2 := Lib.hid hs2
  have AW := Lib.hid (fun W h => awake_true SO W h)
  have HL := Lib.hid hl; clear hl
  have AF := Lib.hid (Aft.refl w)
  obtain ⟨V1, hV1⟩ : ∃ V, V = w.alloc (.cells #[.int .i64 k1, .int .i64 f1, .int .i64 a1, .string s1, .slice A1 n1 c1, .slice B1 m1 d1] 25) := ⟨_, rfl⟩
  obtain ⟨sx, b2, hsz1⟩ := six_new hV1
  have hv1 := hv1.below b2
  have hv2 := hv2.below b2
  have TR1 : Hid (RdT V1 T1 (.agg #[.int .i64 k1, .int .i64 f1, .int .i64 a1, .string s1, .slice A1 n1 c1, .slice B1 m1 d1])) := Lib.hid hv1
  have SX1 := Lib.hid sx
  have HL := Lib.hid (SO.below HL.out b2)
  have AF := Lib.hid (AF.out.call b2)
  obtain ⟨V2, hV2⟩ : ∃ V, V = V1.alloc (.cells #[.int .i64 k2, .int .i64 f2, .int .i64 a2, .string s2, .slice A2 n2 c2, .slice B2 m2 d2] 25) := ⟨_, rfl⟩
  obtain ⟨sx, b2, hsz2⟩ := six_new hV2
  rw [hsz1] at sx
  have TR1 := Lib.hid (TR1.out.below b2)
  have SX1 := Lib.hid (SX1.out.below b2)
  have hv2 := hv2.below b2
  have TR2 : Hid (RdT V2 T2 (.agg #[.int .i64 k2, .int .i64 f2, .int .i64 a2, .string s2, .slice A2 n2 c2, .slice B2 m2 d2])) := Lib.hid hv2
  have SX2 := Lib.hid sx
  have HL := Lib.hid (SO.below HL.out b2)
  have AF := Lib.hid (AF.out.call b2)
  have HV := Lib.hid (show V2 = (w.alloc (.cells #[.int .i64 k1, .int .i64 f1, .int .i64 a1, .string s1, .slice A1 n1 c1, .slice B1 m1 d1] 25)).alloc (.cells #[.int .i64 k2, .int .i64 f2, .int .i64 a2, .string s2, .slice A2 n2 c2, .slice B2 m2 d2] 25) by rw [hV2, hV1])
  clear sx b2 hV2 hv2 hsz2 hV1 hv1 hsz1
  have PM1 := Lib.hid (fun v W (h : RdT W T1 v) => (show Calls Tryz.prog 8 #[v, .int .i64 300] W (Say W true) by have := refSmall_any T1 v W 300 h (by omega) (by omega); rwa [hm1] at this))
  have PM2 := Lib.hid (fun v W (h : RdT W T2 v) => (show Calls Tryz.prog 8 #[v, .int .i64 300] W (Say W true) by have := refSmall_any T2 v W 300 h (by omega) (by omega); rwa [hm2] at this))
  have tz : ((txt.strOf (showT T1)).toList == (txt.strOf (showT T2)).toList) = ans := by
    rw [str_same]
    cases ans with
    | true => rw [of_same hans]; simp
    | false =>
      have := of_not_same hans
      simp only [beq_eq_false_iff_ne]
      exact fun e => this (show_inj hR1 hR2 e)
  have HA := Lib.hid hans
  clear hm1 hm2 hs1 hs2 hR1 hR2 hans
  go_enter Tryz.func6, Tryz.ntmps6
  go_upto_region 1 with fail
  rw [← HV.out]
  clear HV
  go_wp2_with fail
  refine (AW.out _ HL.out).mono ?_
  rintro e w0 ⟨rfl, hb⟩
  have TR1 := Lib.hid (TR1.out.below hb)
  have SX1 := Lib.hid (SX1.out.below hb)
  have TR2 := Lib.hid (TR2.out.below hb)
  have SX2 := Lib.hid (SX2.out.below hb)
  have HL := Lib.hid (SO.below HL.out hb)
  have AF := Lib.hid (AF.out.call hb)
  clear hb
  have x1_0 := SX1.out.c0
  have x1_1 := SX1.out.c1
  have x1_2 := SX1.out.c2
  have x1_3 := SX1.out.c3
  have x1_4 := SX1.out.c4
  have x1_5 := SX1.out.c5
  go_wp2_with fail
  refine (PM1.out _ _ TR1.out).mono ?_
  rintro e w1 ⟨rfl, hb⟩
  clear x1_0 x1_1 x1_2 x1_3 x1_4 x1_5
  have TR1 := Lib.hid (TR1.out.below hb)
  have SX1 := Lib.hid (SX1.out.below hb)
  have TR2 := Lib.hid (TR2.out.below hb)
  have SX2 := Lib.hid (SX2.out.below hb)
  have HL := Lib.hid (SO.below HL.out hb)
  have AF := Lib.hid (AF.out.call hb)
  clear hb
  have x2_0 := SX2.out.c0
  have x2_1 := SX2.out.c1
  have x2_2 := SX2.out.c2
  have x2_3 := SX2.out.c3
  have x2_4 := SX2.out.c4
  have x2_5 := SX2.out.c5
  go_wp2_with fail
  refine (PM2.out _ _ TR2.out).mono ?_
  rintro e w2 ⟨rfl, hb⟩
  clear x2_0 x2_1 x2_2 x2_3 x2_4 x2_5
  have TR1 := Lib.hid (TR1.out.below hb)
  have SX1 := Lib.hid (SX1.out.below hb)
  have TR2 := Lib.hid (TR2.out.below hb)
  have SX2 := Lib.hid (SX2.out.below hb)
  have HL := Lib.hid (SO.below HL.out hb)
  have AF := Lib.hid (AF.out.call hb)
  clear hb
  go_wp2_with fail
  have CA : ∀ V, Hid (Below w2.heap.size w2 V) → Hid (Calls Tryz.prog 10 #[.agg #[.int .i64 k1, .int .i64 f1, .int .i64 a1, .string s1, .slice A1 n1 c1, .slice B1 m1 d1]] V fun e V' => e = .returned (.string (txt.strOf (showT T1))) ∧ Hid (Below w2.heap.size w2 V')) := fun V h =>
    Lib.hid ((SO.expr HR1.out _ V (SO.below HL.out h.out) (TR1.out.below h.out) HS1.out).mono fun e V' ⟨he, hb⟩ => ⟨he, Lib.hid (h.out.trans (hb.mono h.out.size))⟩)
  have CB : ∀ V, Hid (Below w2.heap.size w2 V) → Hid (Calls Tryz.prog 10 #[.agg #[.int .i64 k2, .int .i64 f2, .int .i64 a2, .string s2, .slice A2 n2 c2, .slice B2 m2 d2]] V fun e V' => e = .returned (.string (txt.strOf (showT T2))) ∧ Hid (Below w2.heap.size w2 V')) := fun V h =>
    Lib.hid ((SO.expr HR2.out _ V (SO.below HL.out h.out) (TR2.out.below h.out) HS2.out).mono fun e V' ⟨he, hb⟩ => ⟨he, Lib.hid (h.out.trans (hb.mono h.out.size))⟩)
  have CS : ∀ V, Hid (Below w2.heap.size w2 V) → Hid (Calls Tryz.prog 16 #[.agg #[.int .i64 k1, .int .i64 f1, .int .i64 a1, .string s1, .slice A1 n1 c1, .slice B1 m1 d1], .agg #[.int .i64 k2, .int .i64 f2, .int .i64 a2, .string s2, .slice A2 n2 c2, .slice B2 m2 d2]] V fun e V' => e = .returned (.bool ans) ∧ Hid (Below w2.heap.size w2 V')) := fun V h =>
    Lib.hid ((HA.out ▸ refSame_any T1 T2 _ _ V (TR1.out.below h.out) (TR2.out.below h.out)).mono fun e V' ⟨he, hb⟩ => ⟨he, Lib.hid (h.out.trans (hb.mono h.out.size))⟩)
  have HKC := Lib.hid (show ∀ V, Below w2.heap.size w2 V → V.cell? ⟨w.heap.size, 0, none⟩ = some (.int .i64 k1) ∧ V.cell? ⟨w.heap.size, 1, none⟩ = some (.int .i64 f1) ∧ V.cell? ⟨w.heap.size, 2, none⟩ = some (.int .i64 a1) ∧ V.cell? ⟨w.heap.size, 3, none⟩ = some (.string s1) ∧ V.cell? ⟨w.heap.size, 4, none⟩ = some (.slice A1 n1 c1) ∧ V.cell? ⟨w.heap.size, 5, none⟩ = some (.slice B1 m1 d1) ∧ V.cell? ⟨w.heap.size + 1, 0, none⟩ = some (.int .i64 k2) ∧ V.cell? ⟨w.heap.size + 1, 1, none⟩ = some (.int .i64 f2) ∧ V.cell? ⟨w.heap.size + 1, 2, none⟩ = some (.int .i64 a2) ∧ V.cell? ⟨w.heap.size + 1, 3, none⟩ = some (.string s2) ∧ V.cell? ⟨w.heap.size + 1, 4, none⟩ = some (.slice A2 n2 c2) ∧ V.cell? ⟨w.heap.size + 1, 5, none⟩ = some (.slice B2 m2 d2) from fun V h => by
    obtain ⟨x0, x1, x2, x3, x4, x5, -⟩ := SX1.out.below h
    obtain ⟨y0, y1, y2, y3, y4, y5, -⟩ := SX2.out.below h
    exact ⟨x0, x1, x2, x3, x4, x5, y0, y1, y2, y3, y4, y5⟩)
  have HB0 := Lib.hid (Below.refl w2.heap.size w2)
  obtain ⟨z0, z1, z2, z3, z4, z5, u0, u1, u2, u3, u4, u5⟩ := HKC.out w2 HB0.out
  obtain ⟨Z1, hZ1⟩ : ∃ Z, Z = showT T1 := ⟨_, rfl⟩
  obtain ⟨Z2, hZ2⟩ : ∃ Z, Z = showT T2 := ⟨_, rfl⟩
  rw [← hZ1] at CA tz
  rw [← hZ2] at CB tz
  clear hZ1 hZ2
  go_region_held3 (fun w' => w'.cell? ⟨w.heap.size, 0, none⟩ = some (.int .i64 k1) ∧ w'.cell? ⟨w.heap.size, 1, none⟩ = some (.int .i64 f1) ∧ w'.cell? ⟨w.heap.size, 2, none⟩ = some (.int .i64 a1) ∧ w'.cell? ⟨w.heap.size, 3, none⟩ = some (.string s1) ∧ w'.cell? ⟨w.heap.size, 4, none⟩ = some (.slice A1 n1 c1) ∧ w'.cell? ⟨w.heap.size, 5, none⟩ = some (.slice B1 m1 d1) ∧ w'.cell? ⟨w.heap.size + 1, 0, none⟩ = some (.int .i64 k2) ∧ w'.cell? ⟨w.heap.size + 1, 1, none⟩ = some (.int .i64 f2) ∧ w'.cell? ⟨w.heap.size + 1, 2, none⟩ = some (.int .i64 a2) ∧ w'.cell? ⟨w.heap.size + 1, 3, none⟩ = some (.string s2) ∧ w'.cell? ⟨w.heap.size + 1, 4, none⟩ = some (.slice A2 n2 c2) ∧ w'.cell? ⟨w.heap.size + 1, 5, none⟩ = some (.slice B2 m2 d2)) (go_keep)
    (first
    | (go_at_call 10; with_reducible refine (CA _ (by first | assumption | exact Lib.hid (Below.drew HB0.out) | exact Lib.hid (Below.drew HBB.out) | exact Lib.hid (Below.drew HBC.out))).out.mono ?_
       rintro e vA ⟨rfl, HBA⟩
       obtain ⟨qA0, qA1, qA2, qA3, qA4, qA5, qA6, qA7, qA8, qA9, qA10, qA11⟩ := HKC.out _ HBA.out)
    | (go_at_call 10; with_reducible refine (CB _ (by first | assumption | exact Lib.hid (Below.drew HB0.out) | exact Lib.hid (Below.drew HBA.out) | exact Lib.hid (Below.drew HBC.out))).out.mono ?_
       rintro e vB ⟨rfl, HBB⟩
       obtain ⟨qB0, qB1, qB2, qB3, qB4, qB5, qB6, qB7, qB8, qB9, qB10, qB11⟩ := HKC.out _ HBB.out)
    | (go_at_call 16; with_reducible refine (CS _ (by first | assumption | exact Lib.hid (Below.drew HB0.out) | exact Lib.hid (Below.drew HBA.out) | exact Lib.hid (Below.drew HBB.out))).out.mono ?_
       rintro e vC ⟨rfl, HBC⟩
       obtain ⟨qC0, qC1, qC2, qC3, qC4, qC5, qC6, qC7, qC8, qC9, qC10, qC11⟩ := HKC.out _ HBC.out))
  all_goals
    go_wp2_with fail
    go_ret
    exact ⟨by simp, by first | exact AF.out.call HBA.out | exact AF.out.call HBB.out | exact AF.out.call HBC.out⟩
theorem walk_ShowApart (T U : Tr) (v u : Value) (w : World) (hl : Env w) (hv : RdT w T v) (hu : RdT w U u) (hw : wtT T ≤ 1048576) (hw2 : wtT U ≤ 1048576) : Calls Tryz.prog 6 #[v, u] w (Holds w) := by
  obtain ⟨k1, f1, a1, t1, A1, n1, c1, B1, m1, d1, e1⟩ : ∃ k f a t A n c B m d, v = .agg #[.int .i64 k, .int .i64 f, .int .i64 a, .string t, .slice A n c, .slice B m d] := by
    obtain ⟨_, _, _, t, _, _⟩ := T
    obtain ⟨A, n, c, B, m, d, e, _⟩ := rdT_node.1 hv
    exact ⟨_, _, _, t, A, n, c, B, m, d, e⟩
  subst e1
  obtain ⟨k2, f2, a2, t2, A2, n2, c2, B2, m2, d2, e2⟩ : ∃ k f a t A n c B m d, u = .agg #[.int .i64 k, .int .i64 f, .int .i64 a, .string t, .slice A n c, .slice B m d] := by
    obtain ⟨_, _, _, t, _, _⟩ := U
    obtain ⟨A, n, c, B, m, d, e, _⟩ := rdT_node.1 hu
    exact ⟨_, _, _, t, A, n, c, B, m, d, e⟩
  subst e2
  cases hm : smallT T 300 with
  | false => exact apart_one SO T _ _ _ _ _ _ _ _ _ _ U _ _ _ _ _ _ _ _ _ _ w hl hv hu hm
  | true =>
    cases hm2 : smallT U 300 with
    | false => exact apart_two SO T _ _ _ _ _ _ _ _ _ _ U _ _ _ _ _ _ _ _ _ _ w hl hv hu hm hm2
    | true => exact apart_both SO T _ _ _ _ _ _ _ _ _ _ U _ _ _ _ _ _ _ _ _ _ w hl hv hu hm hm2 (show_short (small_R hv hm).1 hw) (show_short (small_R hu hm2).1 hw2) _ rfl
end
end Go.Proofs.YthgojbaindejjaaGreatDoor.sh
