/- The walk of ParseGroups. -/
import Derived.Test.YtihkflpbccebmaaDoorPsLaw
import Derived.Test.YtihkflpbccebmaaDoorLawAssigns9
import Derived.Test.YtihkflpbccebmaaDoorPsRLine
import Derived.Test.YtihkflpbccebmaaDoorPsRExpr
import Derived.Test.YtihkflpbccebmaaDoorPsDyad
import Derived.Test.YtihkflpbccebmaaDoorTreeRef
namespace Go.Proofs.YtihkflpbccebmaaDoor.ps
open Go.ChangeShapes Go.WideShapes Go.ChangeAt Go.RowKit Go.Proofs.YtihkflpbccebmaaDoor.mem Go.Proofs.YtihkflpbccebmaaDoor.lx Go.Proofs.YtihkflpbccebmaaDoor.tr
set_option linter.unusedVariables false
set_option linter.unusedSimpArgs false

theorem rd_pair9 {w : World} {g : Nat} {t : TypeId} {F a : Int} {T U : Tr} {a0 a1 a2 a3 a4 a5 b0 b1 b2 b3 b4 b5 : Value} (h : w.heap[g]? = some (.cells #[a0, a1, a2, a3, a4, a5, b0, b1, b2, b3, b4, b5] t (0, 0)))
    (hf : 0 ≤ F ∧ F ≤ 6) (ha : -1 ≤ a ∧ a ≤ 15) (hT : RdT w T (.agg #[a0, a1, a2, a3, a4, a5])) (hU : RdT w U (.agg #[b0, b1, b2, b3, b4, b5])) :
    RdT w (dy F a T U) (.agg #[.int .i64 4, .int .i64 F, .int .i64 a, .string ⟨#[]⟩, .slice none 0 0, .slice (some ⟨g, 0, none⟩) 2 2]) := by
  have hl := (Array.getElem?_eq_some_iff.1 h).1
  have hc : ∀ j v, (#[a0, a1, a2, a3, a4, a5, b0, b1, b2, b3, b4, b5] : Array Value)[j]? = some v → w.cell? ((⟨g, 0, none⟩ : Addr).add j) = some v := fun j v e => by
    rw [add_at, cell_of_row _ _ _ _ t (0, 0) h]; simpa using e
  exact rd_dy hf ha (Nat.le_refl _) (fun h => by cases h)
    (rdL_cons.2 ⟨⟨_, a0, a1, a2, a3, a4, a5, rfl, hl, hc _ _ rfl, hc _ _ rfl, hc _ _ rfl, hc _ _ rfl, hc _ _ rfl, hc _ _ rfl, hT⟩, rdL_cons.2 ⟨⟨_, b0, b1, b2, b3, b4, b5, rfl, hl, hc _ _ rfl, hc _ _ rfl, hc _ _ rfl, hc _ _ rfl, hc _ _ rfl, hc _ _ rfl, hU⟩, rdL_nil⟩⟩)
theorem lay_pair {V V' : World} {t : TypeId} {a0 a1 a2 a3 a4 a5 b0 b1 b2 b3 b4 b5 : Value} {T U : Tr}
    (h : V' = (V.alloc (.cells #[a0, a1, a2, a3, a4, a5, b0, b1, b2, b3, b4, b5] t)).alloc (.cells #[.int .i64 4, .int .i64 6, .int .i64 1, .string ⟨#[]⟩, .slice none 0 0, .slice (some ⟨V.heap.size, 0, none⟩) 2 2] 26))
    (hT : RdT V T (.agg #[a0, a1, a2, a3, a4, a5])) (hU : RdT V U (.agg #[b0, b1, b2, b3, b4, b5])) :
    Below V.heap.size V V' ∧ Six0 (V.heap.size + 1) V' (.int .i64 4) (.int .i64 6) (.int .i64 1) (.string ⟨#[]⟩) (.slice none 0 0) (.slice (some ⟨V.heap.size, 0, none⟩) 2 2) ∧
      RdT V' (dy 6 1 T U) (.agg #[.int .i64 4, .int .i64 6, .int .i64 1, .string ⟨#[]⟩, .slice none 0 0, .slice (some ⟨V.heap.size, 0, none⟩) 2 2]) := by
  obtain ⟨wa, ha⟩ : ∃ wa, wa = V.alloc (.cells #[a0, a1, a2, a3, a4, a5, b0, b1, b2, b3, b4, b5] t) := ⟨_, rfl⟩
  have sa : wa.heap.size = V.heap.size + 1 := by rw [ha]; simp
  have ba : Below V.heap.size V wa := by rw [ha]; exact (Below.refl _ _).alloc (Nat.le_refl _) _
  have hx : wa.heap[V.heap.size]? = some (.cells #[a0, a1, a2, a3, a4, a5, b0, b1, b2, b3, b4, b5] t (0, 0)) := by rw [ha]; exact World.alloc_heap_new _ _
  rw [← ha] at h
  obtain ⟨h6, bb, -⟩ := six_new h
  rw [sa] at h6
  have hB := ba.trans (bb.mono ba.size)
  exact ⟨hB, h6, rd_pair9 ((bb.block _ (by omega)).trans hx) (by decide) (by decide) (hT.below hB) (hU.below hB)⟩
set_option maxHeartbeats 4000000 in
set_option maxRecDepth 100000 in
theorem groups_long (l a : List UInt8) (w : World) (hl : Lays w) (hm : l.length ≤ 9223372036854775807) (hm2 : a.length ≤ 9223372036854775807) (n1 : List UInt8) (T : Tr) (E : Int) (hr : lineOf unN l = (n1, T, E)) (n2 : List UInt8) (U : Tr) (D : Int) (hr2 : lineOf unN a = (n2, U, D)) (h1 : 1000 < l.length) : Calls Tryd.prog 7 #[.string (txt.strOf l), .string (txt.strOf a)] w (Holds w) := by
  have AW := Lib.hid (fun W h => awake_true W h)
  have hz := txt.strOf_size l
  have hz2 := txt.strOf_size a
  have HL := Lib.hid hl; clear hl
  have AF := Lib.hid (Aft.refl w)
  have P1 := Lib.hid (fun W => rtext_any (fun n => rex_any n) l hm W)
  rw [hr] at P1
  have P2 := Lib.hid (fun W => rtext_any (fun n => rex_any n) a hm2 W)
  rw [hr2] at P2
  have sz1 := line_size un_len l
  rw [hr] at sz1
  have sz2 := line_size un_len a
  rw [hr2] at sz2
  have PD := Lib.hid (fun (T : Tr) (h0 : sizeT T ≤ 65536) v W (h : RdT W T v) => refDepth_any T v W h (by omega))
  have S1 := Lib.hid (show sizeT T ≤ 65536 from sz1)
  have S2 := Lib.hid (show sizeT U ≤ 65536 from sz2)
  clear sz1 sz2
  have g1 : (1000 : Int) < l.length := by omega
  clear h1 hm hm2 hr hr2
  go_enter Tryd.func7, Tryd.ntmps7
  go_wp2_with fail
  refine (P1.out _).mono ?_
  rintro e w0 ⟨u, rfl, hu, hb⟩
  obtain ⟨k1, f1, a1, s1, A1, n1, c1, B1, m1, d1, rfl, -⟩ := RdQ_six hu
  obtain ⟨V0, hV⟩ : ∃ V, V = w0.alloc (.cells #[.int .i64 k1, .int .i64 f1, .int .i64 a1, .string s1, .slice A1 n1 c1, .slice B1 m1 d1] 26) := ⟨_, rfl⟩
  obtain ⟨sx, b2, -⟩ := six_new hV
  have HL := Lib.hid ((HL.out.below hb).below b2)
  have AF := Lib.hid ((AF.out.call hb).call b2)
  have TR1 : Hid (RdT V0 _ (.agg #[.int .i64 k1, .int .i64 f1, .int .i64 a1, .string s1, .slice A1 n1 c1, .slice B1 m1 d1])) := Lib.hid (hu.rd.below b2)
  have SX1 := Lib.hid sx
  have HV := Lib.hid hV
  clear hV sx b2 hb hu
  go_upto_region 2 with fail
  rw [← HV.out]
  clear HV
  go_wp2_with fail
  refine (P2.out _).mono ?_
  rintro e w1 ⟨u, rfl, hu, hb⟩
  obtain ⟨k2, f2, a2, s2, A2, n2, c2, B2, m2, d2, rfl, -⟩ := RdQ_six hu
  obtain ⟨V1, hV⟩ : ∃ V, V = w1.alloc (.cells #[.int .i64 k2, .int .i64 f2, .int .i64 a2, .string s2, .slice A2 n2 c2, .slice B2 m2 d2] 26) := ⟨_, rfl⟩
  obtain ⟨sx, b2, -⟩ := six_new hV
  have TR1 := Lib.hid ((TR1.out.below hb).below b2)
  have SX1 := Lib.hid ((SX1.out.below hb).below b2)
  have HL := Lib.hid ((HL.out.below hb).below b2)
  have AF := Lib.hid ((AF.out.call hb).call b2)
  have TR2 : Hid (RdT V1 _ (.agg #[.int .i64 k2, .int .i64 f2, .int .i64 a2, .string s2, .slice A2 n2 c2, .slice B2 m2 d2])) := Lib.hid (hu.rd.below b2)
  have SX2 := Lib.hid sx
  have HV := Lib.hid hV
  clear hV sx b2 hb hu
  go_upto_region 3 with fail
  rw [← HV.out]
  clear HV
  go_wp2_with fail
  refine (AW.out _ HL.out).mono ?_
  rintro e w2 ⟨rfl, hb⟩
  have TR1 := Lib.hid (TR1.out.below hb)
  have SX1 := Lib.hid (SX1.out.below hb)
  have TR2 := Lib.hid (TR2.out.below hb)
  have SX2 := Lib.hid (SX2.out.below hb)
  have HL := Lib.hid (HL.out.below hb)
  have AF := Lib.hid (AF.out.call hb)
  clear hb
  go_wp2_with fail
  refine (AW.out _ HL.out).mono ?_
  rintro e w3 ⟨rfl, hb⟩
  have TR1 := Lib.hid (TR1.out.below hb)
  have SX1 := Lib.hid (SX1.out.below hb)
  have TR2 := Lib.hid (TR2.out.below hb)
  have SX2 := Lib.hid (SX2.out.below hb)
  have HL := Lib.hid (HL.out.below hb)
  have AF := Lib.hid (AF.out.call hb)
  clear hb
  go_wp2_with fail
  go_ret
  exact ⟨rfl, AF.out⟩
set_option maxHeartbeats 4000000 in
set_option maxRecDepth 100000 in
theorem groups_wide (l a : List UInt8) (w : World) (hl : Lays w) (hm : l.length ≤ 9223372036854775807) (hm2 : a.length ≤ 9223372036854775807) (n1 : List UInt8) (T : Tr) (E : Int) (hr : lineOf unN l = (n1, T, E)) (n2 : List UInt8) (U : Tr) (D : Int) (hr2 : lineOf unN a = (n2, U, D)) (h1 : l.length ≤ 1000) (h2 : 1000 < a.length) : Calls Tryd.prog 7 #[.string (txt.strOf l), .string (txt.strOf a)] w (Holds w) := by
  have AW := Lib.hid (fun W h => awake_true W h)
  have hz := txt.strOf_size l
  have hz2 := txt.strOf_size a
  have HL := Lib.hid hl; clear hl
  have AF := Lib.hid (Aft.refl w)
  have P1 := Lib.hid (fun W => rtext_any (fun n => rex_any n) l hm W)
  rw [hr] at P1
  have P2 := Lib.hid (fun W => rtext_any (fun n => rex_any n) a hm2 W)
  rw [hr2] at P2
  have sz1 := line_size un_len l
  rw [hr] at sz1
  have sz2 := line_size un_len a
  rw [hr2] at sz2
  have PD := Lib.hid (fun (T : Tr) (h0 : sizeT T ≤ 65536) v W (h : RdT W T v) => refDepth_any T v W h (by omega))
  have S1 := Lib.hid (show sizeT T ≤ 65536 from sz1)
  have S2 := Lib.hid (show sizeT U ≤ 65536 from sz2)
  clear sz1 sz2
  have g1 : ¬ (1000 : Int) < l.length := by omega
  have g2 : (1000 : Int) < a.length := by omega
  clear h1 h2 hm hm2 hr hr2
  go_enter Tryd.func7, Tryd.ntmps7
  go_wp2_with fail
  refine (P1.out _).mono ?_
  rintro e w0 ⟨u, rfl, hu, hb⟩
  obtain ⟨k1, f1, a1, s1, A1, n1, c1, B1, m1, d1, rfl, -⟩ := RdQ_six hu
  obtain ⟨V0, hV⟩ : ∃ V, V = w0.alloc (.cells #[.int .i64 k1, .int .i64 f1, .int .i64 a1, .string s1, .slice A1 n1 c1, .slice B1 m1 d1] 26) := ⟨_, rfl⟩
  obtain ⟨sx, b2, -⟩ := six_new hV
  have HL := Lib.hid ((HL.out.below hb).below b2)
  have AF := Lib.hid ((AF.out.call hb).call b2)
  have TR1 : Hid (RdT V0 _ (.agg #[.int .i64 k1, .int .i64 f1, .int .i64 a1, .string s1, .slice A1 n1 c1, .slice B1 m1 d1])) := Lib.hid (hu.rd.below b2)
  have SX1 := Lib.hid sx
  have HV := Lib.hid hV
  clear hV sx b2 hb hu
  go_upto_region 2 with fail
  rw [← HV.out]
  clear HV
  go_wp2_with fail
  refine (P2.out _).mono ?_
  rintro e w1 ⟨u, rfl, hu, hb⟩
  obtain ⟨k2, f2, a2, s2, A2, n2, c2, B2, m2, d2, rfl, -⟩ := RdQ_six hu
  obtain ⟨V1, hV⟩ : ∃ V, V = w1.alloc (.cells #[.int .i64 k2, .int .i64 f2, .int .i64 a2, .string s2, .slice A2 n2 c2, .slice B2 m2 d2] 26) := ⟨_, rfl⟩
  obtain ⟨sx, b2, -⟩ := six_new hV
  have TR1 := Lib.hid ((TR1.out.below hb).below b2)
  have SX1 := Lib.hid ((SX1.out.below hb).below b2)
  have HL := Lib.hid ((HL.out.below hb).below b2)
  have AF := Lib.hid ((AF.out.call hb).call b2)
  have TR2 : Hid (RdT V1 _ (.agg #[.int .i64 k2, .int .i64 f2, .int .i64 a2, .string s2, .slice A2 n2 c2, .slice B2 m2 d2])) := Lib.hid (hu.rd.below b2)
  have SX2 := Lib.hid sx
  have HV := Lib.hid hV
  clear hV sx b2 hb hu
  go_upto_region 3 with fail
  rw [← HV.out]
  clear HV
  go_wp2_with fail
  refine (AW.out _ HL.out).mono ?_
  rintro e w2 ⟨rfl, hb⟩
  have TR1 := Lib.hid (TR1.out.below hb)
  have SX1 := Lib.hid (SX1.out.below hb)
  have TR2 := Lib.hid (TR2.out.below hb)
  have SX2 := Lib.hid (SX2.out.below hb)
  have HL := Lib.hid (HL.out.below hb)
  have AF := Lib.hid (AF.out.call hb)
  clear hb
  go_wp2_with fail
  refine (AW.out _ HL.out).mono ?_
  rintro e w3 ⟨rfl, hb⟩
  have TR1 := Lib.hid (TR1.out.below hb)
  have SX1 := Lib.hid (SX1.out.below hb)
  have TR2 := Lib.hid (TR2.out.below hb)
  have SX2 := Lib.hid (SX2.out.below hb)
  have HL := Lib.hid (HL.out.below hb)
  have AF := Lib.hid (AF.out.call hb)
  clear hb
  go_wp2_with fail
  go_ret
  exact ⟨rfl, AF.out⟩
set_option maxHeartbeats 4000000 in
set_option maxRecDepth 100000 in
theorem groups_bad (l a : List UInt8) (w : World) (hl : Lays w) (hm : l.length ≤ 9223372036854775807) (hm2 : a.length ≤ 9223372036854775807) (n1 : List UInt8) (T : Tr) (E : Int) (hr : lineOf unN l = (n1, T, E)) (n2 : List UInt8) (U : Tr) (D : Int) (hr2 : lineOf unN a = (n2, U, D)) (h1 : l.length ≤ 1000) (h2 : a.length ≤ 1000) (h3 : E ≠ 0) : Calls Tryd.prog 7 #[.string (txt.strOf l), .string (txt.strOf a)] w (Holds w) := by
  have AW := Lib.hid (fun W h => awake_true W h)
  have hz := txt.strOf_size l
  have hz2 := txt.strOf_size a
  have HL := Lib.hid hl; clear hl
  have AF := Lib.hid (Aft.refl w)
  have P1 := Lib.hid (fun W => rtext_any (fun n => rex_any n) l hm W)
  rw [hr] at P1
  have P2 := Lib.hid (fun W => rtext_any (fun n => rex_any n) a hm2 W)
  rw [hr2] at P2
  have sz1 := line_size un_len l
  rw [hr] at sz1
  have sz2 := line_size un_len a
  rw [hr2] at sz2
  have PD := Lib.hid (fun (T : Tr) (h0 : sizeT T ≤ 65536) v W (h : RdT W T v) => refDepth_any T v W h (by omega))
  have S1 := Lib.hid (show sizeT T ≤ 65536 from sz1)
  have S2 := Lib.hid (show sizeT U ≤ 65536 from sz2)
  clear sz1 sz2
  have g1 : ¬ (1000 : Int) < l.length := by omega
  have g2 : ¬ (1000 : Int) < a.length := by omega
  have g3 : (E != 0) = true := by simpa using h3
  clear h1 h2 h3 hm hm2 hr hr2
  go_enter Tryd.func7, Tryd.ntmps7
  go_wp2_with fail
  refine (P1.out _).mono ?_
  rintro e w0 ⟨u, rfl, hu, hb⟩
  obtain ⟨k1, f1, a1, s1, A1, n1, c1, B1, m1, d1, rfl, -⟩ := RdQ_six hu
  obtain ⟨V0, hV⟩ : ∃ V, V = w0.alloc (.cells #[.int .i64 k1, .int .i64 f1, .int .i64 a1, .string s1, .slice A1 n1 c1, .slice B1 m1 d1] 26) := ⟨_, rfl⟩
  obtain ⟨sx, b2, -⟩ := six_new hV
  have HL := Lib.hid ((HL.out.below hb).below b2)
  have AF := Lib.hid ((AF.out.call hb).call b2)
  have TR1 : Hid (RdT V0 _ (.agg #[.int .i64 k1, .int .i64 f1, .int .i64 a1, .string s1, .slice A1 n1 c1, .slice B1 m1 d1])) := Lib.hid (hu.rd.below b2)
  have SX1 := Lib.hid sx
  have HV := Lib.hid hV
  clear hV sx b2 hb hu
  go_upto_region 2 with fail
  rw [← HV.out]
  clear HV
  go_wp2_with fail
  refine (P2.out _).mono ?_
  rintro e w1 ⟨u, rfl, hu, hb⟩
  obtain ⟨k2, f2, a2, s2, A2, n2, c2, B2, m2, d2, rfl, -⟩ := RdQ_six hu
  obtain ⟨V1, hV⟩ : ∃ V, V = w1.alloc (.cells #[.int .i64 k2, .int .i64 f2, .int .i64 a2, .string s2, .slice A2 n2 c2, .slice B2 m2 d2] 26) := ⟨_, rfl⟩
  obtain ⟨sx, b2, -⟩ := six_new hV
  have TR1 := Lib.hid ((TR1.out.below hb).below b2)
  have SX1 := Lib.hid ((SX1.out.below hb).below b2)
  have HL := Lib.hid ((HL.out.below hb).below b2)
  have AF := Lib.hid ((AF.out.call hb).call b2)
  have TR2 : Hid (RdT V1 _ (.agg #[.int .i64 k2, .int .i64 f2, .int .i64 a2, .string s2, .slice A2 n2 c2, .slice B2 m2 d2])) := Lib.hid (hu.rd.below b2)
  have SX2 := Lib.hid sx
  have HV := Lib.hid hV
  clear hV sx b2 hb hu
  go_upto_region 3 with fail
  rw [← HV.out]
  clear HV
  go_wp2_with fail
  refine (AW.out _ HL.out).mono ?_
  rintro e w2 ⟨rfl, hb⟩
  have TR1 := Lib.hid (TR1.out.below hb)
  have SX1 := Lib.hid (SX1.out.below hb)
  have TR2 := Lib.hid (TR2.out.below hb)
  have SX2 := Lib.hid (SX2.out.below hb)
  have HL := Lib.hid (HL.out.below hb)
  have AF := Lib.hid (AF.out.call hb)
  clear hb
  go_wp2_with fail
  refine (AW.out _ HL.out).mono ?_
  rintro e w3 ⟨rfl, hb⟩
  have TR1 := Lib.hid (TR1.out.below hb)
  have SX1 := Lib.hid (SX1.out.below hb)
  have TR2 := Lib.hid (TR2.out.below hb)
  have SX2 := Lib.hid (SX2.out.below hb)
  have HL := Lib.hid (HL.out.below hb)
  have AF := Lib.hid (AF.out.call hb)
  clear hb
  go_wp2_with fail
  go_ret
  exact ⟨rfl, AF.out⟩
set_option maxHeartbeats 4000000 in
set_option maxRecDepth 100000 in
theorem groups_badl (l a : List UInt8) (w : World) (hl : Lays w) (hm : l.length ≤ 9223372036854775807) (hm2 : a.length ≤ 9223372036854775807) (n1 : List UInt8) (T : Tr) (E : Int) (hr : lineOf unN l = (n1, T, E)) (n2 : List UInt8) (U : Tr) (D : Int) (hr2 : lineOf unN a = (n2, U, D)) (h1 : l.length ≤ 1000) (h2 : a.length ≤ 1000) (h3 : E = 0) (h4 : D ≠ 0) : Calls Tryd.prog 7 #[.string (txt.strOf l), .string (txt.strOf a)] w (Holds w) := by
  have AW := Lib.hid (fun W h => awake_true W h)
  have hz := txt.strOf_size l
  have hz2 := txt.strOf_size a
  have HL := Lib.hid hl; clear hl
  have AF := Lib.hid (Aft.refl w)
  have P1 := Lib.hid (fun W => rtext_any (fun n => rex_any n) l hm W)
  rw [hr] at P1
  have P2 := Lib.hid (fun W => rtext_any (fun n => rex_any n) a hm2 W)
  rw [hr2] at P2
  have sz1 := line_size un_len l
  rw [hr] at sz1
  have sz2 := line_size un_len a
  rw [hr2] at sz2
  have PD := Lib.hid (fun (T : Tr) (h0 : sizeT T ≤ 65536) v W (h : RdT W T v) => refDepth_any T v W h (by omega))
  have S1 := Lib.hid (show sizeT T ≤ 65536 from sz1)
  have S2 := Lib.hid (show sizeT U ≤ 65536 from sz2)
  clear sz1 sz2
  subst h3
  have g1 : ¬ (1000 : Int) < l.length := by omega
  have g2 : ¬ (1000 : Int) < a.length := by omega
  have g4 : (D != 0) = true := by simpa using h4
  clear h1 h2 h4 hm hm2 hr hr2
  go_enter Tryd.func7, Tryd.ntmps7
  go_wp2_with fail
  refine (P1.out _).mono ?_
  rintro e w0 ⟨u, rfl, hu, hb⟩
  obtain ⟨k1, f1, a1, s1, A1, n1, c1, B1, m1, d1, rfl, -⟩ := RdQ_six hu
  obtain ⟨V0, hV⟩ : ∃ V, V = w0.alloc (.cells #[.int .i64 k1, .int .i64 f1, .int .i64 a1, .string s1, .slice A1 n1 c1, .slice B1 m1 d1] 26) := ⟨_, rfl⟩
  obtain ⟨sx, b2, -⟩ := six_new hV
  have HL := Lib.hid ((HL.out.below hb).below b2)
  have AF := Lib.hid ((AF.out.call hb).call b2)
  have TR1 : Hid (RdT V0 _ (.agg #[.int .i64 k1, .int .i64 f1, .int .i64 a1, .string s1, .slice A1 n1 c1, .slice B1 m1 d1])) := Lib.hid (hu.rd.below b2)
  have SX1 := Lib.hid sx
  have HV := Lib.hid hV
  clear hV sx b2 hb hu
  go_upto_region 2 with fail
  rw [← HV.out]
  clear HV
  go_wp2_with fail
  refine (P2.out _).mono ?_
  rintro e w1 ⟨u, rfl, hu, hb⟩
  obtain ⟨k2, f2, a2, s2, A2, n2, c2, B2, m2, d2, rfl, -⟩ := RdQ_six hu
  obtain ⟨V1, hV⟩ : ∃ V, V = w1.alloc (.cells #[.int .i64 k2, .int .i64 f2, .int .i64 a2, .string s2, .slice A2 n2 c2, .slice B2 m2 d2] 26) := ⟨_, rfl⟩
  obtain ⟨sx, b2, -⟩ := six_new hV
  have TR1 := Lib.hid ((TR1.out.below hb).below b2)
  have SX1 := Lib.hid ((SX1.out.below hb).below b2)
  have HL := Lib.hid ((HL.out.below hb).below b2)
  have AF := Lib.hid ((AF.out.call hb).call b2)
  have TR2 : Hid (RdT V1 _ (.agg #[.int .i64 k2, .int .i64 f2, .int .i64 a2, .string s2, .slice A2 n2 c2, .slice B2 m2 d2])) := Lib.hid (hu.rd.below b2)
  have SX2 := Lib.hid sx
  have HV := Lib.hid hV
  clear hV sx b2 hb hu
  go_upto_region 3 with fail
  rw [← HV.out]
  clear HV
  go_wp2_with fail
  refine (AW.out _ HL.out).mono ?_
  rintro e w2 ⟨rfl, hb⟩
  have TR1 := Lib.hid (TR1.out.below hb)
  have SX1 := Lib.hid (SX1.out.below hb)
  have TR2 := Lib.hid (TR2.out.below hb)
  have SX2 := Lib.hid (SX2.out.below hb)
  have HL := Lib.hid (HL.out.below hb)
  have AF := Lib.hid (AF.out.call hb)
  clear hb
  go_wp2_with fail
  refine (AW.out _ HL.out).mono ?_
  rintro e w3 ⟨rfl, hb⟩
  have TR1 := Lib.hid (TR1.out.below hb)
  have SX1 := Lib.hid (SX1.out.below hb)
  have TR2 := Lib.hid (TR2.out.below hb)
  have SX2 := Lib.hid (SX2.out.below hb)
  have HL := Lib.hid (HL.out.below hb)
  have AF := Lib.hid (AF.out.call hb)
  clear hb
  go_wp2_with fail
  go_ret
  exact ⟨rfl, AF.out⟩
set_option maxHeartbeats 4000000 in
set_option maxRecDepth 100000 in
theorem groups_deep (l a : List UInt8) (w : World) (hl : Lays w) (hm : l.length ≤ 9223372036854775807) (hm2 : a.length ≤ 9223372036854775807) (n1 : List UInt8) (T : Tr) (E : Int) (hr : lineOf unN l = (n1, T, E)) (n2 : List UInt8) (U : Tr) (D : Int) (hr2 : lineOf unN a = (n2, U, D)) (h1 : l.length ≤ 1000) (h2 : a.length ≤ 1000) (h3 : E = 0) (h4 : D = 0) (h5 : 98 < deepT T) : Calls Tryd.prog 7 #[.string (txt.strOf l), .string (txt.strOf a)] w (Holds w) := by
  have AW := Lib.hid (fun W h => awake_true W h)
  have hz := txt.strOf_size l
  have hz2 := txt.strOf_size a
  have HL := Lib.hid hl; clear hl
  have AF := Lib.hid (Aft.refl w)
  have P1 := Lib.hid (fun W => rtext_any (fun n => rex_any n) l hm W)
  rw [hr] at P1
  have P2 := Lib.hid (fun W => rtext_any (fun n => rex_any n) a hm2 W)
  rw [hr2] at P2
  have sz1 := line_size un_len l
  rw [hr] at sz1
  have sz2 := line_size un_len a
  rw [hr2] at sz2
  have PD := Lib.hid (fun (T : Tr) (h0 : sizeT T ≤ 65536) v W (h : RdT W T v) => refDepth_any T v W h (by omega))
  have S1 := Lib.hid (show sizeT T ≤ 65536 from sz1)
  have S2 := Lib.hid (show sizeT U ≤ 65536 from sz2)
  clear sz1 sz2
  subst h3 h4
  have g1 : ¬ (1000 : Int) < l.length := by omega
  have g2 : ¬ (1000 : Int) < a.length := by omega
  have g5 : (98 : Int) < deepT T := by omega
  clear h1 h2 h5 hm hm2 hr hr2
  go_enter Tryd.func7, Tryd.ntmps7
  go_wp2_with fail
  refine (P1.out _).mono ?_
  rintro e w0 ⟨u, rfl, hu, hb⟩
  obtain ⟨k1, f1, a1, s1, A1, n1, c1, B1, m1, d1, rfl, -⟩ := RdQ_six hu
  obtain ⟨V0, hV⟩ : ∃ V, V = w0.alloc (.cells #[.int .i64 k1, .int .i64 f1, .int .i64 a1, .string s1, .slice A1 n1 c1, .slice B1 m1 d1] 26) := ⟨_, rfl⟩
  obtain ⟨sx, b2, -⟩ := six_new hV
  have HL := Lib.hid ((HL.out.below hb).below b2)
  have AF := Lib.hid ((AF.out.call hb).call b2)
  have TR1 : Hid (RdT V0 _ (.agg #[.int .i64 k1, .int .i64 f1, .int .i64 a1, .string s1, .slice A1 n1 c1, .slice B1 m1 d1])) := Lib.hid (hu.rd.below b2)
  have SX1 := Lib.hid sx
  have HV := Lib.hid hV
  clear hV sx b2 hb hu
  go_upto_region 2 with fail
  rw [← HV.out]
  clear HV
  go_wp2_with fail
  refine (P2.out _).mono ?_
  rintro e w1 ⟨u, rfl, hu, hb⟩
  obtain ⟨k2, f2, a2, s2, A2, n2, c2, B2, m2, d2, rfl, -⟩ := RdQ_six hu
  obtain ⟨V1, hV⟩ : ∃ V, V = w1.alloc (.cells #[.int .i64 k2, .int .i64 f2, .int .i64 a2, .string s2, .slice A2 n2 c2, .slice B2 m2 d2] 26) := ⟨_, rfl⟩
  obtain ⟨sx, b2, -⟩ := six_new hV
  have TR1 := Lib.hid ((TR1.out.below hb).below b2)
  have SX1 := Lib.hid ((SX1.out.below hb).below b2)
  have HL := Lib.hid ((HL.out.below hb).below b2)
  have AF := Lib.hid ((AF.out.call hb).call b2)
  have TR2 : Hid (RdT V1 _ (.agg #[.int .i64 k2, .int .i64 f2, .int .i64 a2, .string s2, .slice A2 n2 c2, .slice B2 m2 d2])) := Lib.hid (hu.rd.below b2)
  have SX2 := Lib.hid sx
  have HV := Lib.hid hV
  clear hV sx b2 hb hu
  go_upto_region 3 with fail
  rw [← HV.out]
  clear HV
  go_wp2_with fail
  refine (AW.out _ HL.out).mono ?_
  rintro e w2 ⟨rfl, hb⟩
  have TR1 := Lib.hid (TR1.out.below hb)
  have SX1 := Lib.hid (SX1.out.below hb)
  have TR2 := Lib.hid (TR2.out.below hb)
  have SX2 := Lib.hid (SX2.out.below hb)
  have HL := Lib.hid (HL.out.below hb)
  have AF := Lib.hid (AF.out.call hb)
  clear hb
  have x1_0 := SX1.out.c0
  have x1_1 := SX1.out.c1
  have x1_2 := SX1.out.c2
  have x1_3 := SX1.out.c3
  have x1_4 := SX1.out.c4
  have x1_5 := SX1.out.c5
  go_wp2_with fail
  refine (PD.out T S1.out _ _ TR1.out).mono ?_
  rintro e w3 ⟨rfl, hb⟩
  clear x1_0 x1_1 x1_2 x1_3 x1_4 x1_5
  have TR1 := Lib.hid (TR1.out.below hb)
  have SX1 := Lib.hid (SX1.out.below hb)
  have TR2 := Lib.hid (TR2.out.below hb)
  have SX2 := Lib.hid (SX2.out.below hb)
  have HL := Lib.hid (HL.out.below hb)
  have AF := Lib.hid (AF.out.call hb)
  clear hb
  go_wp2_with fail
  refine (AW.out _ HL.out).mono ?_
  rintro e w4 ⟨rfl, hb⟩
  have TR1 := Lib.hid (TR1.out.below hb)
  have SX1 := Lib.hid (SX1.out.below hb)
  have TR2 := Lib.hid (TR2.out.below hb)
  have SX2 := Lib.hid (SX2.out.below hb)
  have HL := Lib.hid (HL.out.below hb)
  have AF := Lib.hid (AF.out.call hb)
  clear hb
  go_wp2_with fail
  go_ret
  exact ⟨rfl, AF.out⟩
set_option maxHeartbeats 4000000 in
set_option maxRecDepth 100000 in
theorem groups_deepl (l a : List UInt8) (w : World) (hl : Lays w) (hm : l.length ≤ 9223372036854775807) (hm2 : a.length ≤ 9223372036854775807) (n1 : List UInt8) (T : Tr) (E : Int) (hr : lineOf unN l = (n1, T, E)) (n2 : List UInt8) (U : Tr) (D : Int) (hr2 : lineOf unN a = (n2, U, D)) (h1 : l.length ≤ 1000) (h2 : a.length ≤ 1000) (h3 : E = 0) (h4 : D = 0) (h5 : deepT T ≤ 98) (h6 : 98 < deepT U) : Calls Tryd.prog 7 #[.string (txt.strOf l), .string (txt.strOf a)] w (Holds w) := by
  have AW := Lib.hid (fun W h => awake_true W h)
  have hz := txt.strOf_size l
  have hz2 := txt.strOf_size a
  have HL := Lib.hid hl; clear hl
  have AF := Lib.hid (Aft.refl w)
  have P1 := Lib.hid (fun W => rtext_any (fun n => rex_any n) l hm W)
  rw [hr] at P1
  have P2 := Lib.hid (fun W => rtext_any (fun n => rex_any n) a hm2 W)
  rw [hr2] at P2
  have sz1 := line_size un_len l
  rw [hr] at sz1
  have sz2 := line_size un_len a
  rw [hr2] at sz2
  have PD := Lib.hid (fun (T : Tr) (h0 : sizeT T ≤ 65536) v W (h : RdT W T v) => refDepth_any T v W h (by omega))
  have S1 := Lib.hid (show sizeT T ≤ 65536 from sz1)
  have S2 := Lib.hid (show sizeT U ≤ 65536 from sz2)
  clear sz1 sz2
  subst h3 h4
  have g1 : ¬ (1000 : Int) < l.length := by omega
  have g2 : ¬ (1000 : Int) < a.length := by omega
  have g5 : ¬ (98 : Int) < deepT T := by omega
  have g6 : (98 : Int) < deepT U := by omega
  clear h1 h2 h5 h6 hm hm2 hr hr2
  go_enter Tryd.func7, Tryd.ntmps7
  go_wp2_with fail
  refine (P1.out _).mono ?_
  rintro e w0 ⟨u, rfl, hu, hb⟩
  obtain ⟨k1, f1, a1, s1, A1, n1, c1, B1, m1, d1, rfl, -⟩ := RdQ_six hu
  obtain ⟨V0, hV⟩ : ∃ V, V = w0.alloc (.cells #[.int .i64 k1, .int .i64 f1, .int .i64 a1, .string s1, .slice A1 n1 c1, .slice B1 m1 d1] 26) := ⟨_, rfl⟩
  obtain ⟨sx, b2, -⟩ := six_new hV
  have HL := Lib.hid ((HL.out.below hb).below b2)
  have AF := Lib.hid ((AF.out.call hb).call b2)
  have TR1 : Hid (RdT V0 _ (.agg #[.int .i64 k1, .int .i64 f1, .int .i64 a1, .string s1, .slice A1 n1 c1, .slice B1 m1 d1])) := Lib.hid (hu.rd.below b2)
  have SX1 := Lib.hid sx
  have HV := Lib.hid hV
  clear hV sx b2 hb hu
  go_upto_region 2 with fail
  rw [← HV.out]
  clear HV
  go_wp2_with fail
  refine (P2.out _).mono ?_
  rintro e w1 ⟨u, rfl, hu, hb⟩
  obtain ⟨k2, f2, a2, s2, A2, n2, c2, B2, m2, d2, rfl, -⟩ := RdQ_six hu
  obtain ⟨V1, hV⟩ : ∃ V, V = w1.alloc (.cells #[.int .i64 k2, .int .i64 f2, .int .i64 a2, .string s2, .slice A2 n2 c2, .slice B2 m2 d2] 26) := ⟨_, rfl⟩
  obtain ⟨sx, b2, -⟩ := six_new hV
  have TR1 := Lib.hid ((TR1.out.below hb).below b2)
  have SX1 := Lib.hid ((SX1.out.below hb).below b2)
  have HL := Lib.hid ((HL.out.below hb).below b2)
  have AF := Lib.hid ((AF.out.call hb).call b2)
  have TR2 : Hid (RdT V1 _ (.agg #[.int .i64 k2, .int .i64 f2, .int .i64 a2, .string s2, .slice A2 n2 c2, .slice B2 m2 d2])) := Lib.hid (hu.rd.below b2)
  have SX2 := Lib.hid sx
  have HV := Lib.hid hV
  clear hV sx b2 hb hu
  go_upto_region 3 with fail
  rw [← HV.out]
  clear HV
  go_wp2_with fail
  refine (AW.out _ HL.out).mono ?_
  rintro e w2 ⟨rfl, hb⟩
  have TR1 := Lib.hid (TR1.out.below hb)
  have SX1 := Lib.hid (SX1.out.below hb)
  have TR2 := Lib.hid (TR2.out.below hb)
  have SX2 := Lib.hid (SX2.out.below hb)
  have HL := Lib.hid (HL.out.below hb)
  have AF := Lib.hid (AF.out.call hb)
  clear hb
  have x1_0 := SX1.out.c0
  have x1_1 := SX1.out.c1
  have x1_2 := SX1.out.c2
  have x1_3 := SX1.out.c3
  have x1_4 := SX1.out.c4
  have x1_5 := SX1.out.c5
  go_wp2_with fail
  refine (PD.out T S1.out _ _ TR1.out).mono ?_
  rintro e w3 ⟨rfl, hb⟩
  clear x1_0 x1_1 x1_2 x1_3 x1_4 x1_5
  have TR1 := Lib.hid (TR1.out.below hb)
  have SX1 := Lib.hid (SX1.out.below hb)
  have TR2 := Lib.hid (TR2.out.below hb)
  have SX2 := Lib.hid (SX2.out.below hb)
  have HL := Lib.hid (HL.out.below hb)
  have AF := Lib.hid (AF.out.call hb)
  clear hb
  have x2_0 := SX2.out.c0
  have x2_1 := SX2.out.c1
  have x2_2 := SX2.out.c2
  have x2_3 := SX2.out.c3
  have x2_4 := SX2.out.c4
  have x2_5 := SX2.out.c5
  go_wp2_with fail
  refine (PD.out U S2.out _ _ TR2.out).mono ?_
  rintro e w4 ⟨rfl, hb⟩
  clear x2_0 x2_1 x2_2 x2_3 x2_4 x2_5
  have TR1 := Lib.hid (TR1.out.below hb)
  have SX1 := Lib.hid (SX1.out.below hb)
  have TR2 := Lib.hid (TR2.out.below hb)
  have SX2 := Lib.hid (SX2.out.below hb)
  have HL := Lib.hid (HL.out.below hb)
  have AF := Lib.hid (AF.out.call hb)
  clear hb
  go_wp2_with fail
  refine (AW.out _ HL.out).mono ?_
  rintro e w5 ⟨rfl, hb⟩
  have TR1 := Lib.hid (TR1.out.below hb)
  have SX1 := Lib.hid (SX1.out.below hb)
  have TR2 := Lib.hid (TR2.out.below hb)
  have SX2 := Lib.hid (SX2.out.below hb)
  have HL := Lib.hid (HL.out.below hb)
  have AF := Lib.hid (AF.out.call hb)
  clear hb
  go_wp2_with fail
  go_ret
  exact ⟨rfl, AF.out⟩
set_option maxHeartbeats 4000000 in
set_option maxRecDepth 100000 in
theorem groups_good (l a : List UInt8) (w : World) (hl : Lays w) (hm : l.length ≤ 9223372036854775807) (hm2 : a.length ≤ 9223372036854775807) (n1 : List UInt8) (T : Tr) (E : Int) (hr : lineOf unN l = (n1, T, E)) (n2 : List UInt8) (U : Tr) (D : Int) (hr2 : lineOf unN a = (n2, U, D)) (h1 : l.length ≤ 1000) (h2 : a.length ≤ 1000) (h3 : E = 0) (h4 : D = 0) (h5 : deepT T ≤ 98) (h6 : deepT U ≤ 98) (e1 : n1 = []) (e2 : n2 = []) : Calls Tryd.prog 7 #[.string (txt.strOf l), .string (txt.strOf a)] w (Holds w) := by
  subst h3 h4 e1 e2
  have AW := Lib.hid (fun W h => awake_true W h)
  have hz := txt.strOf_size l
  have hz2 := txt.strOf_size a
  have HL := Lib.hid hl; clear hl
  have AF := Lib.hid (Aft.refl w)
  have P1 := Lib.hid (fun W => rtext_any (fun n => rex_any n) l hm W)
  rw [hr] at P1
  have P2 := Lib.hid (fun W => rtext_any (fun n => rex_any n) a hm2 W)
  rw [hr2] at P2
  have sz1 := line_size un_len l
  rw [hr] at sz1
  have sz2 := line_size un_len a
  rw [hr2] at sz2
  have PD := Lib.hid (fun (T : Tr) (h0 : sizeT T ≤ 65536) v W (h : RdT W T v) => refDepth_any T v W h (by omega))
  have S1 := Lib.hid (show sizeT T ≤ 65536 from sz1)
  have S2 := Lib.hid (show sizeT U ≤ 65536 from sz2)
  clear sz1 sz2
  obtain ⟨ch, rl, hcl, hc91⟩ := head_not h1 hr
  have QA := Lib.hid (fun W h => expr_text ((([40] ++ a) ++ [41, 44, 91, 49, 93]) ++ l) (by simp; omega) W h)
  rw [group_dy hr hr2 h1 h2 h5 h6] at QA
  have QB := Lib.hid (fun W h => expr_text (((([40] ++ a) ++ [41, 44, 91, 49, 93, 40]) ++ l) ++ [41]) (by simp; omega) W h)
  rw [group_dy2 hr hr2 h1 h2 h5 h6] at QB
  have QC := Lib.hid (fun W h => expr_text ([226, 140, 189] ++ l) (by simp; omega) W h)
  rw [group_mon hr h1 h5] at QC
  have QD := Lib.hid (fun W h => expr_text (([226, 140, 189, 40] ++ l) ++ [41]) (by simp; omega) W h)
  rw [group_mon2 hr h1 h5] at QD
  have PS := Lib.hid (fun (T : Tr) u v W (h : RdT W T u) (h' : RdT W T v) => same_self_any T u v W h h')
  obtain ⟨Xa, hXa⟩ : ∃ Y, Y = ([40] : List UInt8) ++ a := ⟨_, rfl⟩
  have cXa : ∀ W, (Op.stringOp .add ⟨#[40]⟩ (txt.strOf a)).run Tryd.prog W = .ok (.string (txt.strOf Xa)) W := by rw [hXa]; exact txt.cat_run ([40] : List UInt8) a (by (try simp only [List.length_append, List.length_cons, List.length_nil]); omega)
  have zXa : Xa.length ≤ 100000 := by rw [hXa]; (try simp only [List.length_append, List.length_cons, List.length_nil]); omega
  rw [← hXa] at QA QB
  obtain ⟨Xb, hXb⟩ : ∃ Y, Y = Xa ++ ([41, 44, 91, 49, 93] : List UInt8) := ⟨_, rfl⟩
  have cXb : ∀ W, (Op.stringOp .add (txt.strOf Xa) ⟨#[41, 44, 91, 49, 93]⟩).run Tryd.prog W = .ok (.string (txt.strOf Xb)) W := by rw [hXb]; exact txt.cat_run Xa ([41, 44, 91, 49, 93] : List UInt8) (by (try simp only [List.length_append, List.length_cons, List.length_nil]); omega)
  have zXb : Xb.length ≤ 200000 := by rw [hXb]; (try simp only [List.length_append, List.length_cons, List.length_nil]); omega
  rw [← hXb] at QA
  obtain ⟨Xc, hXc⟩ : ∃ Y, Y = Xb ++ l := ⟨_, rfl⟩
  have cXc : ∀ W, (Op.stringOp .add (txt.strOf Xb) (txt.strOf l)).run Tryd.prog W = .ok (.string (txt.strOf Xc)) W := by rw [hXc]; exact txt.cat_run Xb l (by (try simp only [List.length_append, List.length_cons, List.length_nil]); omega)
  have zXc : Xc.length ≤ 300000 := by rw [hXc]; (try simp only [List.length_append, List.length_cons, List.length_nil]); omega
  rw [← hXc] at QA
  obtain ⟨Xd, hXd⟩ : ∃ Y, Y = Xa ++ ([41, 44, 91, 49, 93, 40] : List UInt8) := ⟨_, rfl⟩
  have cXd : ∀ W, (Op.stringOp .add (txt.strOf Xa) ⟨#[41, 44, 91, 49, 93, 40]⟩).run Tryd.prog W = .ok (.string (txt.strOf Xd)) W := by rw [hXd]; exact txt.cat_run Xa ([41, 44, 91, 49, 93, 40] : List UInt8) (by (try simp only [List.length_append, List.length_cons, List.length_nil]); omega)
  have zXd : Xd.length ≤ 400000 := by rw [hXd]; (try simp only [List.length_append, List.length_cons, List.length_nil]); omega
  rw [← hXd] at QB
  obtain ⟨Xe, hXe⟩ : ∃ Y, Y = Xd ++ l := ⟨_, rfl⟩
  have cXe : ∀ W, (Op.stringOp .add (txt.strOf Xd) (txt.strOf l)).run Tryd.prog W = .ok (.string (txt.strOf Xe)) W := by rw [hXe]; exact txt.cat_run Xd l (by (try simp only [List.length_append, List.length_cons, List.length_nil]); omega)
  have zXe : Xe.length ≤ 500000 := by rw [hXe]; (try simp only [List.length_append, List.length_cons, List.length_nil]); omega
  rw [← hXe] at QB
  obtain ⟨Xf, hXf⟩ : ∃ Y, Y = Xe ++ ([41] : List UInt8) := ⟨_, rfl⟩
  have cXf : ∀ W, (Op.stringOp .add (txt.strOf Xe) ⟨#[41]⟩).run Tryd.prog W = .ok (.string (txt.strOf Xf)) W := by rw [hXf]; exact txt.cat_run Xe ([41] : List UInt8) (by (try simp only [List.length_append, List.length_cons, List.length_nil]); omega)
  have zXf : Xf.length ≤ 600000 := by rw [hXf]; (try simp only [List.length_append, List.length_cons, List.length_nil]); omega
  rw [← hXf] at QB
  obtain ⟨Xg, hXg⟩ : ∃ Y, Y = ([226, 140, 189] : List UInt8) ++ l := ⟨_, rfl⟩
  have cXg : ∀ W, (Op.stringOp .add ⟨#[226, 140, 189]⟩ (txt.strOf l)).run Tryd.prog W = .ok (.string (txt.strOf Xg)) W := by rw [hXg]; exact txt.cat_run ([226, 140, 189] : List UInt8) l (by (try simp only [List.length_append, List.length_cons, List.length_nil]); omega)
  have zXg : Xg.length ≤ 700000 := by rw [hXg]; (try simp only [List.length_append, List.length_cons, List.length_nil]); omega
  rw [← hXg] at QC
  obtain ⟨Xh, hXh⟩ : ∃ Y, Y = ([226, 140, 189, 40] : List UInt8) ++ l := ⟨_, rfl⟩
  have cXh : ∀ W, (Op.stringOp .add ⟨#[226, 140, 189, 40]⟩ (txt.strOf l)).run Tryd.prog W = .ok (.string (txt.strOf Xh)) W := by rw [hXh]; exact txt.cat_run ([226, 140, 189, 40] : List UInt8) l (by (try simp only [List.length_append, List.length_cons, List.length_nil]); omega)
  have zXh : Xh.length ≤ 800000 := by rw [hXh]; (try simp only [List.length_append, List.length_cons, List.length_nil]); omega
  rw [← hXh] at QD
  obtain ⟨Xi, hXi⟩ : ∃ Y, Y = Xh ++ ([41] : List UInt8) := ⟨_, rfl⟩
  have cXi : ∀ W, (Op.stringOp .add (txt.strOf Xh) ⟨#[41]⟩).run Tryd.prog W = .ok (.string (txt.strOf Xi)) W := by rw [hXi]; exact txt.cat_run Xh ([41] : List UInt8) (by (try simp only [List.length_append, List.length_cons, List.length_nil]); omega)
  have zXi : Xi.length ≤ 900000 := by rw [hXi]; (try simp only [List.length_append, List.length_cons, List.length_nil]); omega
  rw [← hXi] at QD
  clear hXi zXi hXh zXh hXg zXg hXf zXf hXe zXe hXd zXd hXc zXc hXb zXb hXa zXa
  have g1 : ¬ (1000 : Int) < l.length := by omega
  have g2 : ¬ (1000 : Int) < a.length := by omega
  have g5 : ¬ (98 : Int) < deepT T := by omega
  have g6 : ¬ (98 : Int) < deepT U := by omega
  have hl0 : (0 : Int) < (txt.strOf l).size := by rw [hz, hcl]; simp only [List.length_cons]; omega
  have hl1 : 0 < (txt.strOf l).size := by omega
  have hget : (txt.strOf l)[0]'hl1 = ch := by
    have e1 := bl_at (txt.strOf l) 0 hl1
    have e2 : (bl (txt.strOf l))[0]? = some ch := by rw [bl_str, hcl]; rfl
    exact Option.some.inj (e1.symm.trans e2)
  have hch : ((ch.toNat : Int) == 91) = false := by
    have : ch.toNat ≠ 91 := fun e => hc91 (UInt8.toNat_inj.1 (by simpa using e))
    simp; omega
  clear h1 h2 h5 h6 hm hm2 hr hr2 hc91 hcl
  go_enter Tryd.func7, Tryd.ntmps7
  go_wp2_with fail
  refine (P1.out _).mono ?_
  rintro e w0 ⟨u, rfl, hu, hb⟩
  obtain ⟨k1, f1, a1, s1, A1, n1, c1, B1, m1, d1, rfl, -⟩ := RdQ_six hu
  obtain ⟨V0, hV⟩ : ∃ V, V = w0.alloc (.cells #[.int .i64 k1, .int .i64 f1, .int .i64 a1, .string s1, .slice A1 n1 c1, .slice B1 m1 d1] 26) := ⟨_, rfl⟩
  obtain ⟨sx, b2, -⟩ := six_new hV
  have HL := Lib.hid ((HL.out.below hb).below b2)
  have AF := Lib.hid ((AF.out.call hb).call b2)
  have TR1 : Hid (RdT V0 _ (.agg #[.int .i64 k1, .int .i64 f1, .int .i64 a1, .string s1, .slice A1 n1 c1, .slice B1 m1 d1])) := Lib.hid (hu.rd.below b2)
  have SX1 := Lib.hid sx
  have HV := Lib.hid hV
  clear hV sx b2 hb hu
  go_upto_region 2 with fail
  rw [← HV.out]
  clear HV
  go_wp2_with fail
  refine (P2.out _).mono ?_
  rintro e w1 ⟨u, rfl, hu, hb⟩
  obtain ⟨k2, f2, a2, s2, A2, n2, c2, B2, m2, d2, rfl, -⟩ := RdQ_six hu
  obtain ⟨V1, hV⟩ : ∃ V, V = w1.alloc (.cells #[.int .i64 k2, .int .i64 f2, .int .i64 a2, .string s2, .slice A2 n2 c2, .slice B2 m2 d2] 26) := ⟨_, rfl⟩
  obtain ⟨sx, b2, -⟩ := six_new hV
  have TR1 := Lib.hid ((TR1.out.below hb).below b2)
  have SX1 := Lib.hid ((SX1.out.below hb).below b2)
  have HL := Lib.hid ((HL.out.below hb).below b2)
  have AF := Lib.hid ((AF.out.call hb).call b2)
  have TR2 : Hid (RdT V1 _ (.agg #[.int .i64 k2, .int .i64 f2, .int .i64 a2, .string s2, .slice A2 n2 c2, .slice B2 m2 d2])) := Lib.hid (hu.rd.below b2)
  have SX2 := Lib.hid sx
  have HV := Lib.hid hV
  clear hV sx b2 hb hu
  go_upto_region 3 with fail
  rw [← HV.out]
  clear HV
  go_wp2_with fail
  refine (AW.out _ HL.out).mono ?_
  rintro e w2 ⟨rfl, hb⟩
  have TR1 := Lib.hid (TR1.out.below hb)
  have SX1 := Lib.hid (SX1.out.below hb)
  have TR2 := Lib.hid (TR2.out.below hb)
  have SX2 := Lib.hid (SX2.out.below hb)
  have HL := Lib.hid (HL.out.below hb)
  have AF := Lib.hid (AF.out.call hb)
  clear hb
  have x1_0 := SX1.out.c0
  have x1_1 := SX1.out.c1
  have x1_2 := SX1.out.c2
  have x1_3 := SX1.out.c3
  have x1_4 := SX1.out.c4
  have x1_5 := SX1.out.c5
  go_wp2_with fail
  refine (PD.out T S1.out _ _ TR1.out).mono ?_
  rintro e w3 ⟨rfl, hb⟩
  clear x1_0 x1_1 x1_2 x1_3 x1_4 x1_5
  have TR1 := Lib.hid (TR1.out.below hb)
  have SX1 := Lib.hid (SX1.out.below hb)
  have TR2 := Lib.hid (TR2.out.below hb)
  have SX2 := Lib.hid (SX2.out.below hb)
  have HL := Lib.hid (HL.out.below hb)
  have AF := Lib.hid (AF.out.call hb)
  clear hb
  have x2_0 := SX2.out.c0
  have x2_1 := SX2.out.c1
  have x2_2 := SX2.out.c2
  have x2_3 := SX2.out.c3
  have x2_4 := SX2.out.c4
  have x2_5 := SX2.out.c5
  go_wp2_with fail
  refine (PD.out U S2.out _ _ TR2.out).mono ?_
  rintro e w4 ⟨rfl, hb⟩
  clear x2_0 x2_1 x2_2 x2_3 x2_4 x2_5
  have TR1 := Lib.hid (TR1.out.below hb)
  have SX1 := Lib.hid (SX1.out.below hb)
  have TR2 := Lib.hid (TR2.out.below hb)
  have SX2 := Lib.hid (SX2.out.below hb)
  have HL := Lib.hid (HL.out.below hb)
  have AF := Lib.hid (AF.out.call hb)
  clear hb
  go_wp2_with fail
  refine (QA.out _ HL.out).mono ?_
  rintro e w5 ⟨u, rfl, hu, hb⟩
  obtain ⟨k3, f3, a3, s3, A3, n3, c3, B3, m3, d3, rfl, -⟩ := RdQ_six hu
  obtain ⟨V5, hV⟩ : ∃ V, V = w5.alloc (.cells #[.int .i64 k3, .int .i64 f3, .int .i64 a3, .string s3, .slice A3 n3 c3, .slice B3 m3 d3] 26) := ⟨_, rfl⟩
  obtain ⟨sx, b2, -⟩ := six_new hV
  have TR1 := Lib.hid ((TR1.out.below hb).below b2)
  have SX1 := Lib.hid ((SX1.out.below hb).below b2)
  have TR2 := Lib.hid ((TR2.out.below hb).below b2)
  have SX2 := Lib.hid ((SX2.out.below hb).below b2)
  have HL := Lib.hid ((HL.out.below hb).below b2)
  have AF := Lib.hid ((AF.out.call hb).call b2)
  have TR3 : Hid (RdT V5 _ (.agg #[.int .i64 k3, .int .i64 f3, .int .i64 a3, .string s3, .slice A3 n3 c3, .slice B3 m3 d3])) := Lib.hid (hu.rd.below b2)
  have SX3 := Lib.hid sx
  have HV := Lib.hid hV
  clear hV sx b2 hb hu
  go_upto_region 6 with fail
  rw [← HV.out]
  clear HV
  go_wp2_with fail
  refine (QB.out _ HL.out).mono ?_
  rintro e w6 ⟨u, rfl, hu, hb⟩
  obtain ⟨k4, f4, a4, s4, A4, n4, c4, B4, m4, d4, rfl, -⟩ := RdQ_six hu
  obtain ⟨V6, hV⟩ : ∃ V, V = w6.alloc (.cells #[.int .i64 k4, .int .i64 f4, .int .i64 a4, .string s4, .slice A4 n4 c4, .slice B4 m4 d4] 26) := ⟨_, rfl⟩
  obtain ⟨sx, b2, -⟩ := six_new hV
  have TR1 := Lib.hid ((TR1.out.below hb).below b2)
  have SX1 := Lib.hid ((SX1.out.below hb).below b2)
  have TR2 := Lib.hid ((TR2.out.below hb).below b2)
  have SX2 := Lib.hid ((SX2.out.below hb).below b2)
  have TR3 := Lib.hid ((TR3.out.below hb).below b2)
  have SX3 := Lib.hid ((SX3.out.below hb).below b2)
  have HL := Lib.hid ((HL.out.below hb).below b2)
  have AF := Lib.hid ((AF.out.call hb).call b2)
  have TR4 : Hid (RdT V6 _ (.agg #[.int .i64 k4, .int .i64 f4, .int .i64 a4, .string s4, .slice A4 n4 c4, .slice B4 m4 d4])) := Lib.hid (hu.rd.below b2)
  have SX4 := Lib.hid sx
  have HV := Lib.hid hV
  clear hV sx b2 hb hu
  go_upto_region 7 with fail
  rw [← HV.out]
  clear HV
  go_wp2_with fail
  refine (QC.out _ HL.out).mono ?_
  rintro e w7 ⟨u, rfl, hu, hb⟩
  obtain ⟨k5, f5, a5, s5, A5, n5, c5, B5, m5, d5, rfl, hk5⟩ := RdQ_six hu
  obtain rfl : k5 = 3 := hk5
  obtain ⟨V7, hV⟩ : ∃ V, V = w7.alloc (.cells #[.int .i64 3, .int .i64 f5, .int .i64 a5, .string s5, .slice A5 n5 c5, .slice B5 m5 d5] 26) := ⟨_, rfl⟩
  obtain ⟨sx, b2, -⟩ := six_new hV
  have TR1 := Lib.hid ((TR1.out.below hb).below b2)
  have SX1 := Lib.hid ((SX1.out.below hb).below b2)
  have TR2 := Lib.hid ((TR2.out.below hb).below b2)
  have SX2 := Lib.hid ((SX2.out.below hb).below b2)
  have TR3 := Lib.hid ((TR3.out.below hb).below b2)
  have SX3 := Lib.hid ((SX3.out.below hb).below b2)
  have TR4 := Lib.hid ((TR4.out.below hb).below b2)
  have SX4 := Lib.hid ((SX4.out.below hb).below b2)
  have HL := Lib.hid ((HL.out.below hb).below b2)
  have AF := Lib.hid ((AF.out.call hb).call b2)
  have TR5 : Hid (RdT V7 _ (.agg #[.int .i64 3, .int .i64 f5, .int .i64 a5, .string s5, .slice A5 n5 c5, .slice B5 m5 d5])) := Lib.hid (hu.rd.below b2)
  have SX5 := Lib.hid sx
  have HV := Lib.hid hV
  clear hV sx b2 hb hu
  go_upto_region 8 with fail
  rw [← HV.out]
  clear HV
  go_wp2_with fail
  refine (QD.out _ HL.out).mono ?_
  rintro e w8 ⟨u, rfl, hu, hb⟩
  obtain ⟨k6, f6, a6, s6, A6, n6, c6, B6, m6, d6, rfl, -⟩ := RdQ_six hu
  obtain ⟨V8, hV⟩ : ∃ V, V = w8.alloc (.cells #[.int .i64 k6, .int .i64 f6, .int .i64 a6, .string s6, .slice A6 n6 c6, .slice B6 m6 d6] 26) := ⟨_, rfl⟩
  obtain ⟨sx, b2, -⟩ := six_new hV
  have TR1 := Lib.hid ((TR1.out.below hb).below b2)
  have SX1 := Lib.hid ((SX1.out.below hb).below b2)
  have TR2 := Lib.hid ((TR2.out.below hb).below b2)
  have SX2 := Lib.hid ((SX2.out.below hb).below b2)
  have TR3 := Lib.hid ((TR3.out.below hb).below b2)
  have SX3 := Lib.hid ((SX3.out.below hb).below b2)
  have TR4 := Lib.hid ((TR4.out.below hb).below b2)
  have SX4 := Lib.hid ((SX4.out.below hb).below b2)
  have TR5 := Lib.hid ((TR5.out.below hb).below b2)
  have SX5 := Lib.hid ((SX5.out.below hb).below b2)
  have HL := Lib.hid ((HL.out.below hb).below b2)
  have AF := Lib.hid ((AF.out.call hb).call b2)
  have TR6 : Hid (RdT V8 _ (.agg #[.int .i64 k6, .int .i64 f6, .int .i64 a6, .string s6, .slice A6 n6 c6, .slice B6 m6 d6])) := Lib.hid (hu.rd.below b2)
  have SX6 := Lib.hid sx
  have HV := Lib.hid hV
  clear hV sx b2 hb hu
  go_upto_region 9 with fail
  rw [← HV.out]
  clear HV
  obtain ⟨V9, hV⟩ : ∃ V, V = (V8.alloc (.cells #[.int .i64 k2, .int .i64 f2, .int .i64 a2, .string s2, .slice A2 n2 c2, .slice B2 m2 d2, .int .i64 k1, .int .i64 f1, .int .i64 a1, .string s1, .slice A1 n1 c1, .slice B1 m1 d1] 26)).alloc (.cells #[.int .i64 4, .int .i64 6, .int .i64 1, .string ⟨#[]⟩, .slice none 0 0, .slice (some ⟨V8.heap.size, 0, none⟩) 2 2] 26) := ⟨_, rfl⟩
  obtain ⟨b2, sx, tr⟩ := lay_pair hV TR2.out TR1.out
  have x1_0 := SX1.out.c0
  have x1_1 := SX1.out.c1
  have x1_2 := SX1.out.c2
  have x1_3 := SX1.out.c3
  have x1_4 := SX1.out.c4
  have x1_5 := SX1.out.c5
  have x2_0 := SX2.out.c0
  have x2_1 := SX2.out.c1
  have x2_2 := SX2.out.c2
  have x2_3 := SX2.out.c3
  have x2_4 := SX2.out.c4
  have x2_5 := SX2.out.c5
  have TR1 := Lib.hid (TR1.out.below b2)
  have SX1 := Lib.hid (SX1.out.below b2)
  have TR2 := Lib.hid (TR2.out.below b2)
  have SX2 := Lib.hid (SX2.out.below b2)
  have TR3 := Lib.hid (TR3.out.below b2)
  have SX3 := Lib.hid (SX3.out.below b2)
  have TR4 := Lib.hid (TR4.out.below b2)
  have SX4 := Lib.hid (SX4.out.below b2)
  have TR5 := Lib.hid (TR5.out.below b2)
  have SX5 := Lib.hid (SX5.out.below b2)
  have TR6 := Lib.hid (TR6.out.below b2)
  have SX6 := Lib.hid (SX6.out.below b2)
  have HL := Lib.hid (HL.out.below b2)
  have AF := Lib.hid (AF.out.call b2)
  have TR7 := Lib.hid tr
  have SX7 := Lib.hid sx
  have HV := Lib.hid hV
  clear hV b2 sx tr
  go_upto_region 10 with fail
  rw [← HV.out]
  clear HV
  clear x1_0 x1_1 x1_2 x1_3 x1_4 x1_5 x2_0 x2_1 x2_2 x2_3 x2_4 x2_5
  have x3_0 := SX3.out.c0
  have x3_1 := SX3.out.c1
  have x3_2 := SX3.out.c2
  have x3_3 := SX3.out.c3
  have x3_4 := SX3.out.c4
  have x3_5 := SX3.out.c5
  have x7_0 := SX7.out.c0
  have x7_1 := SX7.out.c1
  have x7_2 := SX7.out.c2
  have x7_3 := SX7.out.c3
  have x7_4 := SX7.out.c4
  have x7_5 := SX7.out.c5
  go_wp2_with fail
  refine (PS.out _ _ _ _ TR3.out TR7.out).mono ?_
  rintro e w9 ⟨rfl, hb⟩
  clear x3_0 x3_1 x3_2 x3_3 x3_4 x3_5 x7_0 x7_1 x7_2 x7_3 x7_4 x7_5
  have TR1 := Lib.hid (TR1.out.below hb)
  have SX1 := Lib.hid (SX1.out.below hb)
  have TR2 := Lib.hid (TR2.out.below hb)
  have SX2 := Lib.hid (SX2.out.below hb)
  have TR3 := Lib.hid (TR3.out.below hb)
  have SX3 := Lib.hid (SX3.out.below hb)
  have TR4 := Lib.hid (TR4.out.below hb)
  have SX4 := Lib.hid (SX4.out.below hb)
  have TR5 := Lib.hid (TR5.out.below hb)
  have SX5 := Lib.hid (SX5.out.below hb)
  have TR6 := Lib.hid (TR6.out.below hb)
  have SX6 := Lib.hid (SX6.out.below hb)
  have TR7 := Lib.hid (TR7.out.below hb)
  have SX7 := Lib.hid (SX7.out.below hb)
  have HL := Lib.hid (HL.out.below hb)
  have AF := Lib.hid (AF.out.call hb)
  clear hb
  have x4_0 := SX4.out.c0
  have x4_1 := SX4.out.c1
  have x4_2 := SX4.out.c2
  have x4_3 := SX4.out.c3
  have x4_4 := SX4.out.c4
  have x4_5 := SX4.out.c5
  have x7_0 := SX7.out.c0
  have x7_1 := SX7.out.c1
  have x7_2 := SX7.out.c2
  have x7_3 := SX7.out.c3
  have x7_4 := SX7.out.c4
  have x7_5 := SX7.out.c5
  go_wp2_with fail
  refine (PS.out _ _ _ _ TR4.out TR7.out).mono ?_
  rintro e w10 ⟨rfl, hb⟩
  clear x4_0 x4_1 x4_2 x4_3 x4_4 x4_5 x7_0 x7_1 x7_2 x7_3 x7_4 x7_5
  have TR1 := Lib.hid (TR1.out.below hb)
  have SX1 := Lib.hid (SX1.out.below hb)
  have TR2 := Lib.hid (TR2.out.below hb)
  have SX2 := Lib.hid (SX2.out.below hb)
  have TR3 := Lib.hid (TR3.out.below hb)
  have SX3 := Lib.hid (SX3.out.below hb)
  have TR4 := Lib.hid (TR4.out.below hb)
  have SX4 := Lib.hid (SX4.out.below hb)
  have TR5 := Lib.hid (TR5.out.below hb)
  have SX5 := Lib.hid (SX5.out.below hb)
  have TR6 := Lib.hid (TR6.out.below hb)
  have SX6 := Lib.hid (SX6.out.below hb)
  have TR7 := Lib.hid (TR7.out.below hb)
  have SX7 := Lib.hid (SX7.out.below hb)
  have HL := Lib.hid (HL.out.below hb)
  have AF := Lib.hid (AF.out.call hb)
  clear hb
  have x5_0 := SX5.out.c0
  have x5_1 := SX5.out.c1
  have x5_2 := SX5.out.c2
  have x5_3 := SX5.out.c3
  have x5_4 := SX5.out.c4
  have x5_5 := SX5.out.c5
  have x6_0 := SX6.out.c0
  have x6_1 := SX6.out.c1
  have x6_2 := SX6.out.c2
  have x6_3 := SX6.out.c3
  have x6_4 := SX6.out.c4
  have x6_5 := SX6.out.c5
  go_wp2_with fail
  refine (PS.out _ _ _ _ TR5.out TR6.out).mono ?_
  rintro e w11 ⟨rfl, hb⟩
  clear x5_0 x5_1 x5_2 x5_3 x5_4 x5_5 x6_0 x6_1 x6_2 x6_3 x6_4 x6_5
  have TR1 := Lib.hid (TR1.out.below hb)
  have SX1 := Lib.hid (SX1.out.below hb)
  have TR2 := Lib.hid (TR2.out.below hb)
  have SX2 := Lib.hid (SX2.out.below hb)
  have TR3 := Lib.hid (TR3.out.below hb)
  have SX3 := Lib.hid (SX3.out.below hb)
  have TR4 := Lib.hid (TR4.out.below hb)
  have SX4 := Lib.hid (SX4.out.below hb)
  have TR5 := Lib.hid (TR5.out.below hb)
  have SX5 := Lib.hid (SX5.out.below hb)
  have TR6 := Lib.hid (TR6.out.below hb)
  have SX6 := Lib.hid (SX6.out.below hb)
  have TR7 := Lib.hid (TR7.out.below hb)
  have SX7 := Lib.hid (SX7.out.below hb)
  have HL := Lib.hid (HL.out.below hb)
  have AF := Lib.hid (AF.out.call hb)
  clear hb
  have x5_0 := SX5.out.c0
  have x5_1 := SX5.out.c1
  have x5_2 := SX5.out.c2
  have x5_3 := SX5.out.c3
  have x5_4 := SX5.out.c4
  have x5_5 := SX5.out.c5
  go_wp2_with fail
  go_ret
  exact ⟨rfl, AF.out⟩
theorem walk_ParseGroups (s t : ByteArray) (hs : s.size ≤ maxLen) (ht : t.size ≤ maxLen) (w : World) (hl : Lays w) : Calls Tryd.prog 7 #[.string s, .string t] w (Holds w) := by
  unfold maxLen at hs ht
  have hz := bl_size s
  have hz2 := bl_size t
  rw [← str_bl s, ← str_bl t]
  have hm : (bl s).length ≤ 9223372036854775807 := by omega
  have hm2 : (bl t).length ≤ 9223372036854775807 := by omega
  generalize bl s = l at hm
  generalize bl t = a at hm2
  obtain ⟨r, hr⟩ : ∃ r, lineOf unN l = r := ⟨_, rfl⟩
  obtain ⟨n1, T, E⟩ := r
  obtain ⟨r2, hr2⟩ : ∃ r, lineOf unN a = r := ⟨_, rfl⟩
  obtain ⟨n2, U, D⟩ := r2
  by_cases h1 : l.length ≤ 1000
  · by_cases h2 : a.length ≤ 1000
    · by_cases h3 : E = 0
      · by_cases h4 : D = 0
        · by_cases h5 : deepT T ≤ 98
          · by_cases h6 : deepT U ≤ 98
            · subst h3 h4
              exact groups_good _ _ w hl hm hm2 _ _ _ hr _ _ _ hr2 h1 h2 rfl rfl h5 h6 (un_name hr) (un_name hr2)
            · exact groups_deepl _ _ w hl hm hm2 _ _ _ hr _ _ _ hr2 h1 h2 h3 h4 h5 (by omega)
          · exact groups_deep _ _ w hl hm hm2 _ _ _ hr _ _ _ hr2 h1 h2 h3 h4 (by omega)
        · exact groups_badl _ _ w hl hm hm2 _ _ _ hr _ _ _ hr2 h1 h2 h3 h4
      · exact groups_bad _ _ w hl hm hm2 _ _ _ hr _ _ _ hr2 h1 h2 h3
    · exact groups_wide _ _ w hl hm hm2 _ _ _ hr _ _ _ hr2 h1 (by omega)
  · exact groups_long _ _ w hl hm hm2 _ _ _ hr _ _ _ hr2 (by omega)
end Go.Proofs.YtihkflpbccebmaaDoor.ps
