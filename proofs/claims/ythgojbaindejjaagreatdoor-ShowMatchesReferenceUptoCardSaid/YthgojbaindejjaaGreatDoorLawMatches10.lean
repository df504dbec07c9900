/- The walk of ShowMatchesReference. -/
import Derived.Test.YthgojbaindejjaaGreatDoorShOk
import Derived.Test.YthgojbaindejjaaGreatDoorLexNam
import Derived.Test.YthgojbaindejjaaGreatDoorTreeRight
import Derived.Test.YthgojbaindejjaaGreatDoorAft
import Derived.Deep.RegionHeld3
namespace Go.Proofs.YthgojbaindejjaaGreatDoor.sh
open Go.ChangeShapes Go.WideShapes Go.ChangeAt Go.RowKit Go.Proofs.YthgojbaindejjaaGreatDoor.mem Go.Proofs.YthgojbaindejjaaGreatDoor.lx Go.Proofs.YthgojbaindejjaaGreatDoor.tr Go.Proofs.YthgojbaindejjaaGreatDoor.ps
set_option linter.unusedVariables false
set_option linter.unusedSimpArgs false

theorem small_R {w : World} {T : Tr} {v : Value} (hv : RdT w T v) (hm : smallT T 300 = true) : R T ∧ deepT T ≤ 100 := by
  unfold smallT rightT at hm
  simp only [Bool.and_eq_true, decide_eq_true_eq] at hm
  exact ⟨rd_R T v hv hm.2.2, hm.2.1⟩
section
variable {Env : World → Prop} (SO : ShowOk Env)
include SO
set_option maxHeartbeats 4000000 in
set_option maxRecDepth 100000 in
theorem matches_big (T1 : Tr) (k1 f1 a1 : Int) (s1 : ByteArray) (A1 : Option Addr) (n1 c1 : Nat) (B1 : Option Addr) (m1 d1 : Nat) (l : List UInt8) (w : World) (hl : Env w) (hv1 : RdT w T1 (.agg #[.int .i64 k1, .int .i64 f1, .int .i64 a1, .string s1, .slice A1 n1 c1, .slice B1 m1 d1])) (hm1 : smallT T1 300 = false) : Calls Tryz.prog 3 #[.agg #[.int .i64 k1, .int .i64 f1, .int .i64 a1, .string s1, .slice A1 n1 c1, .slice B1 m1 d1], .string (txt.strOf l)] w (Holds w) := by
  have AW := Lib.hid (fun W h => awake_true SO W h)
  have HL := Lib.hid hl; clear hl
  have AF := Lib.hid (Aft.refl w)
  obtain ⟨V1, hV1⟩ : ∃ V, V = w.alloc (.cells #[.int .i64 k1, .int .i64 f1, .int .i64 a1, .string s1, .slice A1 n1 c1, .slice B1 m1 d1] 25) := ⟨_, rfl⟩
  obtain ⟨sx, b2, hsz1⟩ := six_new hV1
  have hv1 := hv1.below b2
  have TR1 : Hid (RdT V1 T1 (.agg #[.int .i64 k1, .int .i64 f1, .int .i64 a1, .string s1, .slice A1 n1 c1, .slice B1 m1 d1])) := Lib.hid hv1
  have SX1 := Lib.hid sx
  have HL := Lib.hid (SO.below HL.out b2)
  have AF := Lib.hid (AF.out.call b2)
  have HV := Lib.hid (show V1 = _ from hV1)
  clear sx b2 hV1 hv1 hsz1
  have hz := txt.strOf_size l
  have PM1 := Lib.hid (fun v W (h : RdT W T1 v) => (show Calls Tryz.prog 8 #[v, .int .i64 300] W (Say W false) by have := refSmall_any T1 v W 300 h (by omega) (by omega); rwa [hm1] at this))
  clear hm1
  go_enter Tryz.func3, Tryz.ntmps3
  go_upto_region 1 with fail
  rw [← HV.out]
  clear HV
  go_wp2_with fail
  refine (AW.out _ HL.out).mono ?_
  rintro e w0 ⟨rfl, hb⟩
  have TR1 := Lib.hid (TR1.out.below hb)
  have SX1 := Lib.hid (SX1.out.below hb)
  have HL := Lib.hid (SO.below HL.out hb)
  have AF := Lib.hid (AF.out.call hb)
  clear hb
  have x1_0 := SX1.out.c0
  have x1_1 := SX1.out.c1
  have x1_2 := SX1.out.c2
  have x1_3 := SX1.out.c3
  have x1_4 := SX1.out.c4
  have x1_5 := SX1.out.c5
  go_wp2_with fail
  refine (PM1.out _ _ TR1.out).mono ?_
  rintro e w1 ⟨rfl, hb⟩
  clear x1_0 x1_1 x1_2 x1_3 x1_4 x1_5
  have TR1 := Lib.hid (TR1.out.below hb)
  have SX1 := Lib.hid (SX1.out.below hb)
  have HL := Lib.hid (SO.below HL.out hb)
  have AF := Lib.hid (AF.out.call hb)
  clear hb
  go_wp2_with fail
  refine (AW.out _ HL.out).mono ?_
  rintro e w2 ⟨rfl, hb⟩
  have TR1 := Lib.hid (TR1.out.below hb)
  have SX1 := Lib.hid (SX1.out.below hb)
  have HL := Lib.hid (SO.below HL.out hb)
  have AF := Lib.hid (AF.out.call hb)
  clear hb
  go_wp2_with fail
  go_ret
  exact ⟨rfl, AF.out⟩
set_option maxHeartbeats 4000000 in
set_option maxRecDepth 100000 in
theorem matches_long (T1 : Tr) (k1 f1 a1 : Int) (s1 : ByteArray) (A1 : Option Addr) (n1 c1 : Nat) (B1 : Option Addr) (m1 d1 : Nat) (l : List UInt8) (w : World) (hl : Env w) (hv1 : RdT w T1 (.agg #[.int .i64 k1, .int .i64 f1, .int .i64 a1, .string s1, .slice A1 n1 c1, .slice B1 m1 d1])) (hm1 : smallT T1 300 = true) (h1 : 100 < l.length) : Calls Tryz.prog 3 #[.agg #[.int .i64 k1, .int .i64 f1, .int .i64 a1, .string s1, .slice A1 n1 c1, .slice B1 m1 d1], .string (txt.strOf l)] w (Holds w) := by
  have AW := Lib.hid (fun W h => awake_true SO W h)
  have HL := Lib.hid hl; clear hl
  have AF := Lib.hid (Aft.refl w)
  obtain ⟨V1, hV1⟩ : ∃ V, V = w.alloc (.cells #[.int .i64 k1, .int .i64 f1, .int .i64 a1, .string s1, .slice A1 n1 c1, .slice B1 m1 d1] 25) := ⟨_, rfl⟩
  obtain ⟨sx, b2, hsz1⟩ := six_new hV1
  have hv1 := hv1.below b2
  have TR1 : Hid (RdT V1 T1 (.agg #[.int .i64 k1, .int .i64 f1, .int .i64 a1, .string s1, .slice A1 n1 c1, .slice B1 m1 d1])) := Lib.hid hv1
  have SX1 := Lib.hid sx
  have HL := Lib.hid (SO.below HL.out b2)
  have AF := Lib.hid (AF.out.call b2)
  have HV := Lib.hid (show V1 = _ from hV1)
  clear sx b2 hV1 hv1 hsz1
  have hz := txt.strOf_size l
  have PM1 := Lib.hid (fun v W (h : RdT W T1 v) => (show Calls Tryz.prog 8 #[v, .int .i64 300] W (Say W true) by have := refSmall_any T1 v W 300 h (by omega) (by omega); rwa [hm1] at this))
  have g1 : (100 : Int) < l.length := by omega
  clear hm1 h1
  go_enter Tryz.func3, Tryz.ntmps3
  go_upto_region 1 with fail
  rw [← HV.out]
  clear HV
  go_wp2_with fail
  refine (AW.out _ HL.out).mono ?_
  rintro e w0 ⟨rfl, hb⟩
  have TR1 := Lib.hid (TR1.out.below hb)
  have SX1 := Lib.hid (SX1.out.below hb)
  have HL := Lib.hid (SO.below HL.out hb)
  have AF := Lib.hid (AF.out.call hb)
  clear hb
  have x1_0 := SX1.out.c0
  have x1_1 := SX1.out.c1
  have x1_2 := SX1.out.c2
  have x1_3 := SX1.out.c3
  have x1_4 := SX1.out.c4
  have x1_5 := SX1.out.c5
  go_wp2_with fail
  refine (PM1.out _ _ TR1.out).mono ?_
  rintro e w1 ⟨rfl, hb⟩
  clear x1_0 x1_1 x1_2 x1_3 x1_4 x1_5
  have TR1 := Lib.hid (TR1.out.below hb)
  have SX1 := Lib.hid (SX1.out.below hb)
  have HL := Lib.hid (SO.below HL.out hb)
  have AF := Lib.hid (AF.out.call hb)
  clear hb
  go_wp2_with fail
  refine (AW.out _ HL.out).mono ?_
  rintro e w2 ⟨rfl, hb⟩
  have TR1 := Lib.hid (TR1.out.below hb)
  have SX1 := Lib.hid (SX1.out.below hb)
  have HL := Lib.hid (SO.below HL.out hb)
  have AF := Lib.hid (AF.out.call hb)
  clear hb
  go_wp2_with fail
  go_ret
  exact ⟨rfl, AF.out⟩
set_option maxHeartbeats 4000000 in
set_option maxRecDepth 100000 in
theorem matches_noname (T1 : Tr) (k1 f1 a1 : Int) (s1 : ByteArray) (A1 : Option Addr) (n1 c1 : Nat) (B1 : Option Addr) (m1 d1 : Nat) (l : List UInt8) (w : World) (hl : Env w) (hv1 : RdT w T1 (.agg #[.int .i64 k1, .int .i64 f1, .int .i64 a1, .string s1, .slice A1 n1 c1, .slice B1 m1 d1])) (hm1 : smallT T1 300 = true) (h1 : l.length ≤ 100) (h0 : l ≠ []) (hn : nameB l = false) : Calls Tryz.prog 3 #[.agg #[.int .i64 k1, .int .i64 f1, .int .i64 a1, .string s1, .slice A1 n1 c1, .slice B1 m1 d1], .string (txt.strOf l)] w (Holds w) := by
  have AW := Lib.hid (fun W h => awake_true SO W h)
  have HL := Lib.hid hl; clear hl
  have AF := Lib.hid (Aft.refl w)
  obtain ⟨V1, hV1⟩ : ∃ V, V = w.alloc (.cells #[.int .i64 k1, .int .i64 f1, .int .i64 a1, .string s1, .slice A1 n1 c1, .slice B1 m1 d1] 25) := ⟨_, rfl⟩
  obtain ⟨sx, b2, hsz1⟩ := six_new hV1
  have hv1 := hv1.below b2
  have TR1 : Hid (RdT V1 T1 (.agg #[.int .i64 k1, .int .i64 f1, .int .i64 a1, .string s1, .slice A1 n1 c1, .slice B1 m1 d1])) := Lib.hid hv1
  have SX1 := Lib.hid sx
  have HL := Lib.hid (SO.below HL.out b2)
  have AF := Lib.hid (AF.out.call b2)
  have HV := Lib.hid (show V1 = _ from hV1)
  clear sx b2 hV1 hv1 hsz1
  have hz := txt.strOf_size l
  have PM1 := Lib.hid (fun v W (h : RdT W T1 v) => (show Calls Tryz.prog 8 #[v, .int .i64 300] W (Say W true) by have := refSmall_any T1 v W 300 h (by omega) (by omega); rwa [hm1] at this))
  have PN := Lib.hid (fun W => (show Calls Tryz.prog 9 #[.string (txt.strOf l)] W (fun e w' => e = .returned (.bool false) ∧ W = w') by have := refName_any (txt.strOf l) W (by rw [txt.strOf_size]; omega); rwa [bl_str, hn] at this))
  have g1 : ¬ (100 : Int) < l.length := by omega
  have st : ((txt.strOf l).toList == []) = false := by rw [toList_str]; simpa using h0
  have st2 := full_list h0
  clear hm1 h1 h0 hn
  go_enter Tryz.func3, Tryz.ntmps3
  go_upto_region 1 with fail
  rw [← HV.out]
  clear HV
  go_wp2_with fail
  refine (AW.out _ HL.out).mono ?_
  rintro e w0 ⟨rfl, hb⟩
  have TR1 := Lib.hid (TR1.out.below hb)
  have SX1 := Lib.hid (SX1.out.below hb)
  have HL := Lib.hid (SO.below HL.out hb)
  have AF := Lib.hid (AF.out.call hb)
  clear hb
  have x1_0 := SX1.out.c0
  have x1_1 := SX1.out.c1
  have x1_2 := SX1.out.c2
  have x1_3 := SX1.out.c3
  have x1_4 := SX1.out.c4
  have x1_5 := SX1.out.c5
  go_wp2_with fail
  refine (PM1.out _ _ TR1.out).mono ?_
  rintro e w1 ⟨rfl, hb⟩
  clear x1_0 x1_1 x1_2 x1_3 x1_4 x1_5
  have TR1 := Lib.hid (TR1.out.below hb)
  have SX1 := Lib.hid (SX1.out.below hb)
  have HL := Lib.hid (SO.below HL.out hb)
  have AF := Lib.hid (AF.out.call hb)
  clear hb
  go_wp2_with fail
  refine (PN.out _).mono ?_
  rintro e w2 ⟨rfl, hw⟩
  obtain rfl := hw.symm
  clear hw
  go_wp2_with fail
  refine (AW.out _ HL.out).mono ?_
  rintro e w3 ⟨rfl, hb⟩
  have TR1 := Lib.hid (TR1.out.below hb)
  have SX1 := Lib.hid (SX1.out.below hb)
  have HL := Lib.hid (SO.below HL.out hb)
  have AF := Lib.hid (AF.out.call hb)
  clear hb
  go_wp2_with fail
  go_ret
  exact ⟨rfl, AF.out⟩
set_option maxHeartbeats 4000000 in
set_option maxRecDepth 100000 in
theorem matches_named (T1 : Tr) (k1 f1 a1 : Int) (s1 : ByteArray) (A1 : Option Addr) (n1 c1 : Nat) (B1 : Option Addr) (m1 d1 : Nat) (l : List UInt8) (w : World) (hl : Env w) (hv1 : RdT w T1 (.agg #[.int .i64 k1, .int .i64 f1, .int .i64 a1, .string s1, .slice A1 n1 c1, .slice B1 m1 d1])) (hm1 : smallT T1 300 = true) (h1 : l.length ≤ 100) (h0 : l ≠ []) (hn : nameB l = true) (hs : (showT T1).length ≤ 100000000) : Calls Tryz.prog 3 #[.agg #[.int .i64 k1, .int .i64 f1, .int .i64 a1, .string s1, .slice A1 n1 c1, .slice B1 m1 d1], .string (txt.strOf l)] w (Holds w) := by
  have HR := Lib.hid (small_R hv1 hm1)
  have HS := Lib.hid hs
  have HN := Lib.hid h1
  have AW := Lib.hid (fun W h => awake_true SO W h)
  have HL := Lib.hid hl; clear hl
  have AF := Lib.hid (Aft.refl w)
  obtain ⟨V1, hV1⟩ : ∃ V, V = w.alloc (.cells #[.int .i64 k1, .int .i64 f1, .int .i64 a1, .string s1, .slice A1 n1 c1, .slice B1 m1 d1] 25) := ⟨_, rfl⟩
  obtain ⟨sx, b2, hsz1⟩ := six_new hV1
  have hv1 := hv1.below b2
  have TR1 : Hid (RdT V1 T1 (.agg #[.int .i64 k1, .int .i64 f1, .int .i64 a1, .string s1, .slice A1 n1 c1, .slice B1 m1 d1])) := Lib.hid hv1
  have SX1 := Lib.hid sx
  have HL := Lib.hid (SO.below HL.out b2)
  have AF := Lib.hid (AF.out.call b2)
  have HV := Lib.hid (show V1 = _ from hV1)
  clear sx b2 hV1 hv1 hsz1
  have hz := txt.strOf_size l
  have PM1 := Lib.hid (fun v W (h : RdT W T1 v) => (show Calls Tryz.prog 8 #[v, .int .i64 300] W (Say W true) by have := refSmall_any T1 v W 300 h (by omega) (by omega); rwa [hm1] at this))
  have PN := Lib.hid (fun W => (show Calls Tryz.prog 9 #[.string (txt.strOf l)] W (fun e w' => e = .returned (.bool true) ∧ W = w') by have := refName_any (txt.strOf l) W (by rw [txt.strOf_size]; omega); rwa [bl_str, hn] at this))
  have st : ((txt.strOf l).toList == []) = false := by rw [toList_str]; simpa using h0
  have st2 := full_list h0
  have g1 : ¬ (100 : Int) < l.length := by omega
  clear hm1 h1 h0 hs hn
  go_enter Tryz.func3, Tryz.ntmps3
  go_upto_region 1 with fail
  rw [← HV.out]
  clear HV
  go_wp2_with fail
  refine (AW.out _ HL.out).mono ?_
  rintro e w0 ⟨rfl, hb⟩
  have TR1 := Lib.hid (TR1.out.below hb)
  have SX1 := Lib.hid (SX1.out.below hb)
  have HL := Lib.hid (SO.below HL.out hb)
  have AF := Lib.hid (AF.out.call hb)
  clear hb
  have x1_0 := SX1.out.c0
  have x1_1 := SX1.out.c1
  have x1_2 := SX1.out.c2
  have x1_3 := SX1.out.c3
  have x1_4 := SX1.out.c4
  have x1_5 := SX1.out.c5
  go_wp2_with fail
  refine (PM1.out _ _ TR1.out).mono ?_
  rintro e w1 ⟨rfl, hb⟩
  clear x1_0 x1_1 x1_2 x1_3 x1_4 x1_5
  have TR1 := Lib.hid (TR1.out.below hb)
  have SX1 := Lib.hid (SX1.out.below hb)
  have HL := Lib.hid (SO.below HL.out hb)
  have AF := Lib.hid (AF.out.call hb)
  clear hb
  go_wp2_with fail
  refine (PN.out _).mono ?_
  rintro e w2 ⟨rfl, hw⟩
  obtain rfl := hw.symm
  clear hw
  go_wp2_with fail
  have CE : ∀ V, Hid (Below w2.heap.size w2 V) → Hid (Calls Tryz.prog 10 #[.agg #[.int .i64 k1, .int .i64 f1, .int .i64 a1, .string s1, .slice A1 n1 c1, .slice B1 m1 d1]] V fun e V' => e = .returned (.string (txt.strOf (showT T1))) ∧ Hid (Below w2.heap.size w2 V')) := fun V h =>
    Lib.hid ((SO.expr HR.out _ V (SO.below HL.out h.out) (TR1.out.below h.out) HS.out).mono fun e V' ⟨he, hb⟩ => ⟨he, Lib.hid (h.out.trans (hb.mono h.out.size))⟩)
  have CR : ∀ V, Hid (Below w2.heap.size w2 V) → Hid (Calls Tryz.prog 11 #[.agg #[.int .i64 k1, .int .i64 f1, .int .i64 a1, .string s1, .slice A1 n1 c1, .slice B1 m1 d1]] V fun e V' => e = .returned (.string (txt.strOf (showT T1))) ∧ Hid (Below w2.heap.size w2 V')) := fun V h =>
    Lib.hid ((refExpr_any HR.out.1 _ V (TR1.out.below h.out) (by have := HS.out; omega)).mono fun e V' ⟨he, hb⟩ => ⟨he, Lib.hid (h.out.trans (hb.mono h.out.size))⟩)
  have CL : ∀ V, Hid (Below w2.heap.size w2 V) → Hid (Calls Tryz.prog 12 #[.agg #[.string (txt.strOf l), .int .i64 k1, .int .i64 f1, .int .i64 a1, .string s1, .slice A1 n1 c1, .slice B1 m1 d1]] V fun e V' => e = .returned (.string (txt.strOf (lnS l T1))) ∧ Hid (Below w2.heap.size w2 V')) := fun V h =>
    Lib.hid ((SO.line HR.out l _ _ _ _ _ _ _ _ _ _ V (SO.below HL.out h.out) (TR1.out.below h.out) (by have := HN.out; omega) HS.out).mono fun e V' ⟨he, hb⟩ => ⟨he, Lib.hid (h.out.trans (hb.mono h.out.size))⟩)
  have CM : ∀ V, Hid (Below w2.heap.size w2 V) → Hid (Calls Tryz.prog 13 #[.agg #[.string (txt.strOf l), .int .i64 k1, .int .i64 f1, .int .i64 a1, .string s1, .slice A1 n1 c1, .slice B1 m1 d1]] V fun e V' => e = .returned (.string (txt.strOf (lnS l T1))) ∧ Hid (Below w2.heap.size w2 V')) := fun V h =>
    Lib.hid ((refLine_any HR.out.1 l _ _ _ _ _ _ _ _ _ _ V (TR1.out.below h.out) (by have := HN.out; have := HS.out; omega)).mono fun e V' ⟨he, hb⟩ => ⟨he, Lib.hid (h.out.trans (hb.mono h.out.size))⟩)
  have HKC := Lib.hid (show ∀ V, Below w2.heap.size w2 V → V.cell? ⟨w.heap.size, 0, none⟩ = some (.int .i64 k1) ∧ V.cell? ⟨w.heap.size, 1, none⟩ = some (.int .i64 f1) ∧ V.cell? ⟨w.heap.size, 2, none⟩ = some (.int .i64 a1) ∧ V.cell? ⟨w.heap.size, 3, none⟩ = some (.string s1) ∧ V.cell? ⟨w.heap.size, 4, none⟩ = some (.slice A1 n1 c1) ∧ V.cell? ⟨w.heap.size, 5, none⟩ = some (.slice B1 m1 d1) from fun V h => by
    obtain ⟨x0, x1, x2, x3, x4, x5, -⟩ := SX1.out.below h
    exact ⟨x0, x1, x2, x3, x4, x5⟩)
  have HB0 := Lib.hid (Below.refl w2.heap.size w2)
  obtain ⟨z0, z1, z2, z3, z4, z5⟩ := HKC.out w2 HB0.out
  obtain ⟨Z, hZ⟩ : ∃ Z, Z = showT T1 := ⟨_, rfl⟩
  obtain ⟨Y, hY⟩ : ∃ Y, Y = lnS l T1 := ⟨_, rfl⟩
  rw [← hZ] at CE CR
  rw [← hY] at CL CM
  have tz : ((txt.strOf Z).toList == (txt.strOf Z).toList) = true := by simp
  have ty : ((txt.strOf Y).toList == (txt.strOf Y).toList) = true := by simp
  clear hZ hY
  go_region_held3 (fun w' => w'.cell? ⟨w.heap.size, 0, none⟩ = some (.int .i64 k1) ∧ w'.cell? ⟨w.heap.size, 1, none⟩ = some (.int .i64 f1) ∧ w'.cell? ⟨w.heap.size, 2, none⟩ = some (.int .i64 a1) ∧ w'.cell? ⟨w.heap.size, 3, none⟩ = some (.string s1) ∧ w'.cell? ⟨w.heap.size, 4, none⟩ = some (.slice A1 n1 c1) ∧ w'.cell? ⟨w.heap.size, 5, none⟩ = some (.slice B1 m1 d1)) (go_keep)
    (first
    | (go_at_call 10; with_reducible refine (CE _ (by first | assumption | exact Lib.hid (Below.drew HB0.out) | exact Lib.hid (Below.drew HBB.out) | exact Lib.hid (Below.drew HBC.out) | exact Lib.hid (Below.drew HBD.out))).out.mono ?_
       rintro e vA ⟨rfl, HBA⟩
       obtain ⟨qA0, qA1, qA2, qA3, qA4, qA5⟩ := HKC.out _ HBA.out)
    | (go_at_call 11; with_reducible refine (CR _ (by first | assumption | exact Lib.hid (Below.drew HB0.out) | exact Lib.hid (Below.drew HBA.out) | exact Lib.hid (Below.drew HBC.out) | exact Lib.hid (Below.drew HBD.out))).out.mono ?_
       rintro e vB ⟨rfl, HBB⟩
       obtain ⟨qB0, qB1, qB2, qB3, qB4, qB5⟩ := HKC.out _ HBB.out)
    | (go_at_call 12; with_reducible refine (CL _ (by first | assumption | exact Lib.hid (Below.drew HB0.out) | exact Lib.hid (Below.drew HBA.out) | exact Lib.hid (Below.drew HBB.out) | exact Lib.hid (Below.drew HBD.out))).out.mono ?_
       rintro e vC ⟨rfl, HBC⟩
       obtain ⟨qC0, qC1, qC2, qC3, qC4, qC5⟩ := HKC.out _ HBC.out)
    | (go_at_call 13; with_reducible refine (CM _ (by first | assumption | exact Lib.hid (Below.drew HB0.out) | exact Lib.hid (Below.drew HBA.out) | exact Lib.hid (Below.drew HBB.out) | exact Lib.hid (Below.drew HBC.out))).out.mono ?_
       rintro e vD ⟨rfl, HBD⟩
       obtain ⟨qD0, qD1, qD2, qD3, qD4, qD5⟩ := HKC.out _ HBD.out))
  all_goals
    go_wp2_with fail
    go_ret
    exact ⟨by simp, by first | exact AF.out.call HBA.out | exact AF.out.call HBB.out | exact AF.out.call HBC.out | exact AF.out.call HBD.out⟩
set_option maxHeartbeats 4000000 in
set_option maxRecDepth 100000 in
theorem matches_bare (T1 : Tr) (k1 f1 a1 : Int) (s1 : ByteArray) (A1 : Option Addr) (n1 c1 : Nat) (B1 : Option Addr) (m1 d1 : Nat) (l : List UInt8) (w : World) (hl : Env w) (hv1 : RdT w T1 (.agg #[.int .i64 k1, .int .i64 f1, .int .i64 a1, .string s1, .slice A1 n1 c1, .slice B1 m1 d1])) (hm1 : smallT T1 300 = true) (h1 : l.length ≤ 100) (h0 : l = []) (hs : (showT T1).length ≤ 100000000) : Calls Tryz.prog 3 #[.agg #[.int .i64 k1, .int .i64 f1, .int .i64 a1, .string s1, .slice A1 n1 c1, .slice B1 m1 d1], .string (txt.strOf l)] w (Holds w) := by
  have HR := Lib.hid (small_R hv1 hm1)
  have HS := Lib.hid hs
  have HN := Lib.hid h1
  have AW := Lib.hid (fun W h => awake_true SO W h)
  have HL := Lib.hid hl; clear hl
  have AF := Lib.hid (Aft.refl w)
  obtain ⟨V1, hV1⟩ : ∃ V, V = w.alloc (.cells #[.int .i64 k1, .int .i64 f1, .int .i64 a1, .string s1, .slice A1 n1 c1, .slice B1 m1 d1] 25) := ⟨_, rfl⟩
  obtain ⟨sx, b2, hsz1⟩ := six_new hV1
  have hv1 := hv1.below b2
  have TR1 : Hid (RdT V1 T1 (.agg #[.int .i64 k1, .int .i64 f1, .int .i64 a1, .string s1, .slice A1 n1 c1, .slice B1 m1 d1])) := Lib.hid hv1
  have SX1 := Lib.hid sx
  have HL := Lib.hid (SO.below HL.out b2)
  have AF := Lib.hid (AF.out.call b2)
  have HV := Lib.hid (show V1 = _ from hV1)
  clear sx b2 hV1 hv1 hsz1
  have hz := txt.strOf_size l
  have PM1 := Lib.hid (fun v W (h : RdT W T1 v) => (show Calls Tryz.prog 8 #[v, .int .i64 300] W (Say W true) by have := refSmall_any T1 v W 300 h (by omega) (by omega); rwa [hm1] at this))
  have st : ((txt.strOf l).toList == []) = true := by rw [toList_str, h0]; rfl
  have st2 := empty_list h0
  have g1 : ¬ (100 : Int) < l.length := by omega
  clear hm1 h1 h0 hs
  go_enter Tryz.func3, Tryz.ntmps3
  go_upto_region 1 with fail
  rw [← HV.out]
  clear HV
  go_wp2_with fail
  refine (AW.out _ HL.out).mono ?_
  rintro e w0 ⟨rfl, hb⟩
  have TR1 := Lib.hid (TR1.out.below hb)
  have SX1 := Lib.hid (SX1.out.below hb)
  have HL := Lib.hid (SO.below HL.out hb)
  have AF := Lib.hid (AF.out.call hb)
  clear hb
  have x1_0 := SX1.out.c0
  have x1_1 := SX1.out.c1
  have x1_2 := SX1.out.c2
  have x1_3 := SX1.out.c3
  have x1_4 := SX1.out.c4
  have x1_5 := SX1.out.c5
  go_wp2_with fail
  refine (PM1.out _ _ TR1.out).mono ?_
  rintro e w1 ⟨rfl, hb⟩
  clear x1_0 x1_1 x1_2 x1_3 x1_4 x1_5
  have TR1 := Lib.hid (TR1.out.below hb)
  have SX1 := Lib.hid (SX1.out.below hb)
  have HL := Lib.hid (SO.below HL.out hb)
  have AF := Lib.hid (AF.out.call hb)
  clear hb
  go_wp2_with fail
  have CE : ∀ V, Hid (Below w1.heap.size w1 V) → Hid (Calls Tryz.prog 10 #[.agg #[.int .i64 k1, .int .i64 f1, .int .i64 a1, .string s1, .slice A1 n1 c1, .slice B1 m1 d1]] V fun e V' => e = .returned (.string (txt.strOf (showT T1))) ∧ Hid (Below w1.heap.size w1 V')) := fun V h =>
    Lib.hid ((SO.expr HR.out _ V (SO.below HL.out h.out) (TR1.out.below h.out) HS.out).mono fun e V' ⟨he, hb⟩ => ⟨he, Lib.hid (h.out.trans (hb.mono h.out.size))⟩)
  have CR : ∀ V, Hid (Below w1.heap.size w1 V) → Hid (Calls Tryz.prog 11 #[.agg #[.int .i64 k1, .int .i64 f1, .int .i64 a1, .string s1, .slice A1 n1 c1, .slice B1 m1 d1]] V fun e V' => e = .returned (.string (txt.strOf (showT T1))) ∧ Hid (Below w1.heap.size w1 V')) := fun V h =>
    Lib.hid ((refExpr_any HR.out.1 _ V (TR1.out.below h.out) (by have := HS.out; omega)).mono fun e V' ⟨he, hb⟩ => ⟨he, Lib.hid (h.out.trans (hb.mono h.out.size))⟩)
  have CL : ∀ V, Hid (Below w1.heap.size w1 V) → Hid (Calls Tryz.prog 12 #[.agg #[.string (txt.strOf l), .int .i64 k1, .int .i64 f1, .int .i64 a1, .string s1, .slice A1 n1 c1, .slice B1 m1 d1]] V fun e V' => e = .returned (.string (txt.strOf (lnS l T1))) ∧ Hid (Below w1.heap.size w1 V')) := fun V h =>
    Lib.hid ((SO.line HR.out l _ _ _ _ _ _ _ _ _ _ V (SO.below HL.out h.out) (TR1.out.below h.out) (by have := HN.out; omega) HS.out).mono fun e V' ⟨he, hb⟩ => ⟨he, Lib.hid (h.out.trans (hb.mono h.out.size))⟩)
  have CM : ∀ V, Hid (Below w1.heap.size w1 V) → Hid (Calls Tryz.prog 13 #[.agg #[.string (txt.strOf l), .int .i64 k1, .int .i64 f1, .int .i64 a1, .string s1, .slice A1 n1 c1, .slice B1 m1 d1]] V fun e V' => e = .returned (.string (txt.strOf (lnS l T1))) ∧ Hid (Below w1.heap.size w1 V')) := fun V h =>
    Lib.hid ((refLine_any HR.out.1 l _ _ _ _ _ _ _ _ _ _ V (TR1.out.below h.out) (by have := HN.out; have := HS.out; omega)).mono fun e V' ⟨he, hb⟩ => ⟨he, Lib.hid (h.out.trans (hb.mono h.out.size))⟩)
  have HKC := Lib.hid (show ∀ V, Below w1.heap.size w1 V → V.cell? ⟨w.heap.size, 0, none⟩ = some (.int .i64 k1) ∧ V.cell? ⟨w.heap.size, 1, none⟩ = some (.int .i64 f1) ∧ V.cell? ⟨w.heap.size, 2, none⟩ = some (.int .i64 a1) ∧ V.cell? ⟨w.heap.size, 3, none⟩ = some (.string s1) ∧ V.cell? ⟨w.heap.size, 4, none⟩ = some (.slice A1 n1 c1) ∧ V.cell? ⟨w.heap.size, 5, none⟩ = some (.slice B1 m1 d1) from fun V h => by
    obtain ⟨x0, x1, x2, x3, x4, x5, -⟩ := SX1.out.below h
    exact ⟨x0, x1, x2, x3, x4, x5⟩)
  have HB0 := Lib.hid (Below.refl w1.heap.size w1)
  obtain ⟨z0, z1, z2, z3, z4, z5⟩ := HKC.out w1 HB0.out
  obtain ⟨Z, hZ⟩ : ∃ Z, Z = showT T1 := ⟨_, rfl⟩
  obtain ⟨Y, hY⟩ : ∃ Y, Y = lnS l T1 := ⟨_, rfl⟩
  rw [← hZ] at CE CR
  rw [← hY] at CL CM
  have tz : ((txt.strOf Z).toList == (txt.strOf Z).toList) = true := by simp
  have ty : ((txt.strOf Y).toList == (txt.strOf Y).toList) = true := by simp
  clear hZ hY
  go_region_held3 (fun w' => w'.cell? ⟨w.heap.size, 0, none⟩ = some (.int .i64 k1) ∧ w'.cell? ⟨w.heap.size, 1, none⟩ = some (.int .i64 f1) ∧ w'.cell? ⟨w.heap.size, 2, none⟩ = some (.int .i64 a1) ∧ w'.cell? ⟨w.heap.size, 3, none⟩ = some (.string s1) ∧ w'.cell? ⟨w.heap.size, 4, none⟩ = some (.slice A1 n1 c1) ∧ w'.cell? ⟨w.heap.size, 5, none⟩ = some (.slice B1 m1 d1)) (go_keep)
    (first
    | (go_at_call 10; with_reducible refine (CE _ (by first | assumption | exact Lib.hid (Below.drew HB0.out) | exact Lib.hid (Below.drew HBB.out) | exact Lib.hid (Below.drew HBC.out) | exact Lib.hid (Below.drew HBD.out))).out.mono ?_
       rintro e vA ⟨rfl, HBA⟩
       obtain ⟨qA0, qA1, qA2, qA3, qA4, qA5⟩ := HKC.out _ HBA.out)
    | (go_at_call 11; with_reducible refine (CR _ (by first | assumption | exact Lib.hid (Below.drew HB0.out) | exact Lib.hid (Below.drew HBA.out) | exact Lib.hid (Below.drew HBC.out) | exact Lib.hid (Below.drew HBD.out))).out.mono ?_
       rintro e vB ⟨rfl, HBB⟩
       obtain ⟨qB0, qB1, qB2, qB3, qB4, qB5⟩ := HKC.out _ HBB.out)
    | (go_at_call 12; with_reducible refine (CL _ (by first | assumption | exact Lib.hid (Below.drew HB0.out) | exact Lib.hid (Below.drew HBA.out) | exact Lib.hid (Below.drew HBB.out) | exact Lib.hid (Below.drew HBD.out))).out.mono ?_
       rintro e vC ⟨rfl, HBC⟩
       obtain ⟨qC0, qC1, qC2, qC3, qC4, qC5⟩ := HKC.out _ HBC.out)
    | (go_at_call 13; with_reducible refine (CM _ (by first | assumption | exact Lib.hid (Below.drew HB0.out) | exact Lib.hid (Below.drew HBA.out) | exact Lib.hid (Below.drew HBB.out) | exact Lib.hid (Below.drew HBC.out))).out.mono ?_
       rintro e vD ⟨rfl, HBD⟩
       obtain ⟨qD0, qD1, qD2, qD3, qD4, qD5⟩ := HKC.out _ HBD.out))
  all_goals
    go_wp2_with fail
    go_ret
    exact ⟨by simp, by first | exact AF.out.call HBA.out | exact AF.out.call HBB.out | exact AF.out.call HBC.out | exact AF.out.call HBD.out⟩
theorem walk_ShowMatchesReference (T : Tr) (v : Value) (s : ByteArray) (w : World) (hl : Env w) (hv : RdT w T v) (hw : wtT T ≤ 1048576) : Calls Tryz.prog 3 #[v, .string s] w (Holds w) := by
  rw [← str_bl s]
  obtain ⟨k, f, a, t, A, n, c, B, m, d, e⟩ : ∃ k f a t A n c B m d, v = .agg #[.int .i64 k, .int .i64 f, .int .i64 a, .string t, .slice A n c, .slice B m d] := by
    obtain ⟨_, _, _, t, _, _⟩ := T
    obtain ⟨A, n, c, B, m, d, e, _⟩ := rdT_node.1 hv
    exact ⟨_, _, _, t, A, n, c, B, m, d, e⟩
  subst e
  cases hm : smallT T 300 with
  | false => exact matches_big SO T _ _ _ _ _ _ _ _ _ _ _ w hl hv hm
  | true =>
    have hs := show_short (small_R hv hm).1 hw
    by_cases h1 : (bl s).length ≤ 100
    · by_cases h0 : bl s = []
      · exact matches_bare SO T _ _ _ _ _ _ _ _ _ _ _ w hl hv hm h1 h0 hs
      · cases hn : nameB (bl s) with
        | false => exact matches_noname SO T _ _ _ _ _ _ _ _ _ _ _ w hl hv hm h1 h0 hn
        | true => exact matches_named SO T _ _ _ _ _ _ _ _ _ _ _ w hl hv hm h1 h0 hn hs
    · exact matches_long SO T _ _ _ _ _ _ _ _ _ _ _ w hl hv hm (by omega)
end
end Go.Proofs.YthgojbaindejjaaGreatDoor.sh
