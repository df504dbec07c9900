/- The walk of ShapeEdits. -/
import Derived.Test.YtbjfflflegbfaaaDoorLawStrides
namespace Go.Proofs.YtbjfflflegbfaaaDoor.laws
open Go.ChangeShapes Go.WideShapes Go.ChangeAt Go.RowKit Go.Proofs.YtbjfflflegbfaaaDoor.mem Go.Proofs.YtbjfflflegbfaaaDoor.shp Go.Proofs.YtbjfflflegbfaaaDoor.eql Go.Proofs.YtbjfflflegbfaaaDoor.edit Go.Proofs.YtbjfflflegbfaaaDoor.redit Go.Proofs.YtbjfflflegbfaaaDoor.strd Go.Proofs.YtbjfflflegbfaaaDoor.txt
set_option linter.unusedVariables false

set_option maxRecDepth 100000 in
theorem edits_great (A : Option Addr) (n c : Nat) (xs : List Int) (a x : Int) (w : World) (h : In w A n c xs) (hn : 300 < n) :
    Calls Tryd.prog 4 #[.slice A n c, .int .i64 a, .int .i64 x] w (Holds w) := by
  clear h
  go_enter Tryd.func4, Tryd.ntmps4
  go_wp2_with fail
  refine (awake_true _).mono ?_
  rintro e w1 ⟨rfl, hb⟩
  have T1 := Lib.hid ((Aft.refl w).call hb)
  clear hb
  go_wp2_with fail
  refine (awake_true _).mono ?_
  rintro e w2 ⟨rfl, hb⟩
  have T2 := Lib.hid (T1.out.call hb)
  clear hb
  go_wp2_with fail
  go_ret
  exact ⟨rfl, T2.out⟩

theorem own_lit0 (W : World) (B : Nat) (hB : B ≤ W.heap.size) : Own (W.alloc (.cells #[] 3)) B (.slice (some ⟨W.heap.size, 0, none⟩) 0 0) [] :=
  World.ownsRow_lit W #[] 0 hB (by unfold maxLen; omega) rfl
theorem Own.fix {w : World} {B : Nat} {v : Value} {xs : List Int} {n : Nat} (h : Own w B v xs) (hl : xs.length = n) : ∃ A c, v = .slice A n c ∧ n ≤ c ∧ c ≤ maxLen ∧ (A = none → c = 0) ∧ Rd w A n xs := by
  obtain ⟨A, c, rfl, h1, h2, h3⟩ := h.form
  have hr := h.rd
  rw [hl] at h1 hr ⊢
  exact ⟨A, c, rfl, h1, h2, h3, hr⟩

set_option maxRecDepth 100000 in
set_option maxHeartbeats 2000000 in
theorem edits_none (A : Option Addr) (n c : Nat) (xs : List Int) (a x : Int) (w : World) (h : In w A n c xs) (hn : n ≤ 300) (ha : a < 0 ∨ (n : Int) < a) :
    Calls Tryd.prog 4 #[.slice A n c, .int .i64 a, .int .i64 x] w (Holds w) := by
  have HN := Lib.hid h.len
  have N1 := fun A' c' W => Lib.hid (replace_none A' n c' a x W HN.out (by omega))
  have N2 := fun A' c' W => Lib.hid (insert_none A' n c' a x W HN.out (by omega))
  have N3 := fun A' c' W => Lib.hid (remove_none A' n c' a W HN.out (by omega))
  have HX := Lib.hid h.rd
  have H0 := Lib.hid h.none_; clear h
  have hn40 : ([] : List Int).length + n ≤ 1099511627776 := by simp; omega
  have HN40 := Lib.hid hn40; clear hn40
  have ha' : a < 0 ∨ (0 ≤ a ∧ (n : Int) < a) := by omega
  clear ha
  rcases ha' with ha | ⟨ha0, ha⟩
  all_goals
    go_enter Tryd.func4, Tryd.ntmps4
    go_wp2_with fail
    refine (awake_true _).mono ?_
    rintro e w1 ⟨rfl, hb⟩
    have HX1 := Lib.hid (HX.out.below hb)
    have T1 := Lib.hid ((Aft.refl w).call hb)
    clear hb
    have HX1a := Lib.hid (HX1.out.below ((Below.refl _ _).alloc (Nat.le_refl _) (.cells #[] 3)))
    have O1 := Lib.hid (own_lit0 w1 w1.heap.size (Nat.le_refl _))
    go_wp2_with (at_builtin; refine wpList_append rfl (.tmp 23) (.tmp 24) rfl w1.heap.size _ [] rfl O1.out _ _ _ _ rfl HX1a.out H0.out HN40.out (by simp) ?_; intro v2 w2 ho hg _; have hb := Own.below_grown ((Below.refl _ _).alloc (Nat.le_refl _) (.cells #[] 3)) O1.out hg (by simp); obtain ⟨A2, c2, rfl, _, _, _, hr2⟩ := Own.fix ho (n := n) (by rw [List.nil_append]; exact HX.out.1); have R2 := Lib.hid hr2; have HX2 := Lib.hid (HX1.out.below hb); have T2 := Lib.hid (T1.out.call hb); clear ho hg hb hr2)
    refine (N1 _ _ _).out.mono ?_
    rintro e w3 ⟨rfl, hb⟩
    have R3 := Lib.hid (R2.out.below hb)
    have HX3 := Lib.hid (HX2.out.below hb)
    have T3 := Lib.hid (T2.out.call hb)
    clear hb
    go_wp2_with fail
    refine (N2 _ _ _).out.mono ?_
    rintro e w4 ⟨rfl, hb⟩
    have R4 := Lib.hid (R3.out.below hb)
    have HX4 := Lib.hid (HX3.out.below hb)
    have T4 := Lib.hid (T3.out.call hb)
    clear hb
    go_wp2_with fail
    refine (N3 _ _ _).out.mono ?_
    rintro e w5 ⟨rfl, hb⟩
    have R5 := Lib.hid (R4.out.below hb)
    have HX5 := Lib.hid (HX4.out.below hb)
    have T5 := Lib.hid (T4.out.call hb)
    clear hb
    go_wp2_with fail
    refine (refEqual_at true (eq_of rfl) HN.out HN.out R5.out HX5.out).mono ?_
    rintro e w6 ⟨rfl, hb⟩
    have T6 := Lib.hid (T5.out.call hb)
    clear hb
    go_wp2_with fail
    go_ret
    exact ⟨rfl, T6.out⟩

set_option maxRecDepth 100000 in
set_option maxHeartbeats 2000000 in
theorem edits_last (A : Option Addr) (n c : Nat) (xs : List Int) (x : Int) (w : World) (h : In w A n c xs) (hn : n ≤ 300) :
    Calls Tryd.prog 4 #[.slice A n c, .int .i64 n, .int .i64 x] w (Holds w) := by
  have HN := Lib.hid h.len
  obtain ⟨ys, hys⟩ : ∃ ys, ys = xs.take n ++ [x] ++ xs.drop n := ⟨_, rfl⟩
  have hyl : ys.length = n + 1 := by rw [hys]; simp [h.rd.1]
  have N1 := fun A' c' W => Lib.hid (replace_none A' n c' n x W HN.out (by omega))
  have I := fun A' c' W h1 h2 h3 hr => insert_some A' n c' xs n x W h1 h2 h3 (by omega) hr (Nat.le_refl _)
  have N3 := fun A' c' W => Lib.hid (remove_none A' n c' n W HN.out (by omega))
  have RI := fun W hr => refInsert_any A n c xs n x W (by omega) hr (Nat.le_refl _)
  rw [← hys] at I RI
  have I := Lib.hid I; have RI := Lib.hid RI
  rename_i q1 q2; clear q1 q2 hys
  have HYL := Lib.hid hyl; clear hyl
  have HY1 : Hid (n + 1 ≤ maxLen) := Lib.hid (by unfold maxLen; omega)
  have HX := Lib.hid h.rd
  have H0 := Lib.hid h.none_; clear h
  have hn40 : ([] : List Int).length + n ≤ 1099511627776 := by simp; omega
  have HN40 := Lib.hid hn40; clear hn40
  go_enter Tryd.func4, Tryd.ntmps4
  go_wp2_with fail
  refine (awake_true _).mono ?_
  rintro e w1 ⟨rfl, hb⟩
  have HX1 := Lib.hid (HX.out.below hb)
  have T1 := Lib.hid ((Aft.refl w).call hb)
  clear hb
  have HX1a := Lib.hid (HX1.out.below ((Below.refl _ _).alloc (Nat.le_refl _) (.cells #[] 3)))
  have O1 := Lib.hid (own_lit0 w1 w1.heap.size (Nat.le_refl _))
  go_wp2_with (at_builtin; refine wpList_append rfl (.tmp 23) (.tmp 24) rfl w1.heap.size _ [] rfl O1.out _ _ _ _ rfl HX1a.out H0.out HN40.out (by simp) ?_; intro v2 w2 ho hg _; have hb := Own.below_grown ((Below.refl _ _).alloc (Nat.le_refl _) (.cells #[] 3)) O1.out hg (by simp); obtain ⟨A2, c2, rfl, hle, hmx, hnn, hr2⟩ := Own.fix ho (n := n) (by rw [List.nil_append]; exact HX.out.1); have R2 := Lib.hid hr2; have LE := Lib.hid hle; have MX := Lib.hid hmx; have NN := Lib.hid hnn; have HX2 := Lib.hid (HX1.out.below hb); have T2 := Lib.hid (T1.out.call hb); clear ho hg hb hr2 hle hmx hnn)
  refine (N1 _ _ _).out.mono ?_
  rintro e w3 ⟨rfl, hb⟩
  have R3 := Lib.hid (R2.out.below hb)
  have HX3 := Lib.hid (HX2.out.below hb)
  have T3 := Lib.hid (T2.out.call hb)
  clear hb
  go_wp2_with fail
  refine (I.out _ _ _ LE.out MX.out NN.out R3.out).mono ?_
  intro e w4 hm
  obtain ⟨v4, rfl, ho, hb⟩ := hm
  obtain ⟨A4, c4, rfl, _, _, _, hr4⟩ := Own.fix ho HYL.out
  have B4 := Lib.hid hr4
  have R4 := Lib.hid (R3.out.below hb)
  have HX4 := Lib.hid (HX3.out.below hb)
  have T4 := Lib.hid (T3.out.call hb)
  clear hb ho hr4
  go_wp2_with fail
  refine (N3 _ _ _).out.mono ?_
  rintro e w5 ⟨rfl, hb⟩
  have R5 := Lib.hid (R4.out.below hb)
  have B5 := Lib.hid (B4.out.below hb)
  have HX5 := Lib.hid (HX4.out.below hb)
  have T5 := Lib.hid (T4.out.call hb)
  clear hb
  go_wp2_with fail
  refine (refEqual_at true (eq_of rfl) HN.out HN.out R5.out HX5.out).mono ?_
  rintro e w6 ⟨rfl, hb⟩
  have B6 := Lib.hid (B5.out.below hb)
  have HX6 := Lib.hid (HX5.out.below hb)
  have T6 := Lib.hid (T5.out.call hb)
  clear hb
  go_wp2_with fail
  refine (RI.out _ HX6.out).mono ?_
  intro e w7 hm
  obtain ⟨v7, rfl, ho, hb⟩ := hm
  obtain ⟨A7, c7, rfl, _, _, _, hr7⟩ := Own.fix ho HYL.out
  have B7 := Lib.hid (B6.out.below hb)
  have C7 := Lib.hid hr7
  have T7 := Lib.hid (T6.out.call hb)
  clear hb ho hr7
  go_wp2_with fail
  refine (refEqual_at true (eq_of rfl) HY1.out HY1.out B7.out C7.out).mono ?_
  rintro e w8 ⟨rfl, hb⟩
  have T8 := Lib.hid (T7.out.call hb)
  clear hb
  go_wp2_with fail
  go_ret
  exact ⟨rfl, T8.out⟩

theorem erase_is (xs : List Int) (k : Nat) : xs.take k ++ [] ++ xs.drop (k + 1) = xs.eraseIdx k := by rw [List.append_nil, List.eraseIdx_eq_take_drop_succ]
theorem set_is {xs : List Int} {k : Nat} (x : Int) (h : k < xs.length) : xs.take k ++ [x] ++ xs.drop (k + 1) = xs.set k x := by rw [List.set_eq_take_append_cons_drop, if_pos h]; simp
theorem Own.fixg {w : World} {B : Nat} {v : Value} {xs : List Int} {n : Nat} (h : Own w B v xs) (hl : xs.length = n) (hn : 0 < n) : ∃ g c, v = .slice (some ⟨g, 0, none⟩) n c ∧ B ≤ g := by
  obtain ⟨g, c, e, h1, _⟩ := World.ownsRow.form h (by omega)
  exact ⟨g, c, by rw [e, hl], h1⟩

set_option maxRecDepth 100000 in
set_option maxHeartbeats 2000000 in
theorem edits_some (A : Option Addr) (n c : Nat) (xs : List Int) (k : Nat) (x : Int) (w : World) (h : In w A n c xs) (hn : n ≤ 300) (hk : k < n) :
    Calls Tryd.prog 4 #[.slice A n c, .int .i64 k, .int .i64 x] w (Holds w) := by
  have HN := Lib.hid h.len
  obtain ⟨ys, hys⟩ : ∃ ys, ys = xs.take k ++ [x] ++ xs.drop k := ⟨_, rfl⟩
  obtain ⟨zs, hzs⟩ : ∃ zs, zs = xs.set k x := ⟨_, rfl⟩
  obtain ⟨rs, hrs⟩ : ∃ rs, rs = xs.eraseIdx k := ⟨_, rfl⟩
  obtain ⟨m, hm⟩ : ∃ m, n = m + 1 := ⟨n - 1, by omega⟩
  have hyl : ys.length = n + 1 := by rw [hys]; simp [h.rd.1]; omega
  have hzl : zs.length = n := by rw [hzs]; simp [h.rd.1]
  have hrl : rs.length = m := by rw [hrs, List.length_eraseIdx, h.rd.1, if_pos hk]; omega
  have I := fun A' c' W h1 h2 h3 hr => insert_some A' n c' xs k x W h1 h2 h3 (by omega) hr (by omega)
  have Re := fun A' c' W h1 h2 h3 hr => replace_some A' n c' xs k x W h1 h2 h3 (by omega) hr (by omega)
  have Rm := fun A' c' W h1 h2 h3 hr => remove_some A' n c' xs k W h1 h2 h3 (by omega) hr (by omega)
  have RI := fun W hr => refInsert_any A n c xs k x W (by omega) hr (by omega)
  have RR := fun W hr => refRemove_any A n c xs k W (by omega) hr
  rw [← hys] at I RI
  rw [set_is x (by rw [h.rd.1]; exact hk), ← hzs] at Re
  rw [erase_is, ← hrs] at Rm
  rw [← hrs] at RR
  have I := Lib.hid I; have Re := Lib.hid Re; have Rm := Lib.hid Rm; have RI := Lib.hid RI; have RR := Lib.hid RR
  have HZS := Lib.hid hzs
  rename_i q1 q2 q3 q4 q5; clear q1 q2 q3 q4 q5 hys hzs hrs
  have HYL := Lib.hid hyl; have HZL := Lib.hid hzl; have HRL := Lib.hid hrl; clear hyl hzl hrl
  have HY1 : Hid (n + 1 ≤ maxLen) := Lib.hid (by unfold maxLen; omega)
  have HM1 : Hid (m ≤ maxLen) := Lib.hid (by unfold maxLen; omega)
  clear hm
  have HX := Lib.hid h.rd
  have H0 := Lib.hid h.none_; clear h
  have hn40 : ([] : List Int).length + n ≤ 1099511627776 := by simp; omega
  have HN40 := Lib.hid hn40; clear hn40
  have hkn : (k : Int) < (n : Int) := by omega
  have hk0 : (0 : Int) ≤ (k : Int) := by omega
  have hkne : ((k : Int) == (n : Int)) = false := beq_eq_false_iff_ne.2 (by omega)
  go_enter Tryd.func4, Tryd.ntmps4
  go_wp2_with fail
  refine (awake_true _).mono ?_
  rintro e w1 ⟨rfl, hb⟩
  have HX1 := Lib.hid (HX.out.below hb)
  have T1 := Lib.hid ((Aft.refl w).call hb)
  clear hb
  have HX1a := Lib.hid (HX1.out.below ((Below.refl _ _).alloc (Nat.le_refl _) (.cells #[] 3)))
  have O1 := Lib.hid (own_lit0 w1 w1.heap.size (Nat.le_refl _))
  go_wp2_with (at_builtin; refine wpList_append rfl (.tmp 23) (.tmp 24) rfl w1.heap.size _ [] rfl O1.out _ _ _ _ rfl HX1a.out H0.out HN40.out (by simp) ?_; intro v2 w2 ho hg _; have hb := Own.below_grown ((Below.refl _ _).alloc (Nat.le_refl _) (.cells #[] 3)) O1.out hg (by simp); obtain ⟨A2, c2, rfl, hle, hmx, hnn, hr2⟩ := Own.fix ho (n := n) (by rw [List.nil_append]; exact HX.out.1); have R2 := Lib.hid hr2; have LE := Lib.hid hle; have MX := Lib.hid hmx; have NN := Lib.hid hnn; have HX2 := Lib.hid (HX1.out.below hb); have T2 := Lib.hid (T1.out.call hb); clear ho hg hb hr2 hle hmx hnn)
  refine (Re.out _ _ _ LE.out MX.out NN.out R2.out).mono ?_
  intro e w3 hm
  obtain ⟨v3, rfl, ho, hb⟩ := hm
  obtain ⟨A3, c3, rfl, _, _, _, hr3⟩ := Own.fix ho HZL.out
  have Z3 := Lib.hid hr3
  have R3 := Lib.hid (R2.out.below hb)
  have HX3 := Lib.hid (HX2.out.below hb)
  have T3 := Lib.hid (T2.out.call hb)
  clear hb ho hr3
  go_wp2_with fail
  refine (I.out _ _ _ LE.out MX.out NN.out R3.out).mono ?_
  intro e w4 hm
  obtain ⟨v4, rfl, ho, hb⟩ := hm
  obtain ⟨A4, c4, rfl, _, _, _, hr4⟩ := Own.fix ho HYL.out
  have Y4 := Lib.hid hr4
  have Z4 := Lib.hid (Z3.out.below hb)
  have R4 := Lib.hid (R3.out.below hb)
  have HX4 := Lib.hid (HX3.out.below hb)
  have T4 := Lib.hid (T3.out.call hb)
  clear hb ho hr4
  go_wp2_with fail
  refine (Rm.out _ _ _ LE.out MX.out NN.out R4.out).mono ?_
  intro e w5 hm
  obtain ⟨v5, rfl, ho, hb⟩ := hm
  obtain ⟨A5, c5, rfl, _, _, _, hr5⟩ := Own.fix ho HRL.out
  have D5 := Lib.hid hr5
  have Y5 := Lib.hid (Y4.out.below hb)
  have Z5 := Lib.hid (Z4.out.below hb)
  have R5 := Lib.hid (R4.out.below hb)
  have HX5 := Lib.hid (HX4.out.below hb)
  have T5 := Lib.hid (T4.out.call hb)
  have U5 := Lib.hid (Aft.refl w5)
  clear hb ho hr5 Z3 Z4 Y4 R2 R3 R4 T1 T2 T3 T4 HX1 HX1a HX2 HX3 HX4
  go_wp2_with fail
  refine (refEqual_at true (eq_of rfl) HN.out HN.out R5.out HX5.out).mono ?_
  rintro e w6 ⟨rfl, hb⟩
  have U6 := Lib.hid (U5.out.call hb)
  clear hb
  go_wp2_with fail
  refine (RI.out _ (U6.out.rd HX5.out)).mono ?_
  intro e w7 hm
  obtain ⟨v7, rfl, ho, hb⟩ := hm
  obtain ⟨A7, c7, rfl, _, _, _, hr7⟩ := Own.fix ho HYL.out
  have C7 := Lib.hid hr7
  have U7 := Lib.hid (U6.out.call hb)
  clear hb ho hr7
  go_wp2_with fail
  refine (refEqual_at true (eq_of rfl) HY1.out HY1.out (U7.out.rd Y5.out) C7.out).mono ?_
  rintro e w8 ⟨rfl, hb⟩
  have U8 := Lib.hid (U7.out.call hb)
  clear hb
  have HX8a := Lib.hid ((U8.out.alloc (.cells #[] 3)).rd HX5.out)
  have O8 := Lib.hid (own_lit0 w8 w8.heap.size (Nat.le_refl _))
  go_wp2_with (at_builtin; refine wpList_append rfl (.tmp 114) (.tmp 115) rfl w8.heap.size _ [] rfl O8.out _ _ _ _ rfl HX8a.out H0.out HN40.out (by simp) ?_; intro v9 w9 ho hg _; have hb := Own.below_grown ((Below.refl _ _).alloc (Nat.le_refl _) (.cells #[] 3)) O8.out hg (by simp); rw [List.nil_append] at ho; obtain ⟨g, c9, rfl, hBg⟩ := Own.fixg ho HX.out.1 (by omega); have hset := ho.set_ k x; rw [← HZS.out] at hset; have hcell := ho.cellAt (j := k) (y := xs.getD k 0) (by rw [List.getD, List.getElem?_eq_getElem (by rw [HX.out.1]; exact hk)]; rfl); have hfz := ho.frozenAt k; have hb2 : Below w8.heap.size w8 (w9.setCell ⟨g, k, none⟩ (.int .i64 x)) := hb.setCell hBg _; have S9 := Lib.hid hset.rd; have U9 := Lib.hid (U8.out.call hb2); clear ho hg hb hset hb2)
  generalize hW : w9.setCell ⟨g, k, none⟩ (.int .i64 x) = w10 at *
  clear hW
  refine (refEqual_at true (eq_of rfl) HN.out HN.out (U9.out.rd Z5.out) S9.out).mono ?_
  rintro e w11 ⟨rfl, hb⟩
  have U11 := Lib.hid (U9.out.call hb)
  clear hb
  go_wp2_with fail
  refine (RR.out _ (U11.out.rd HX5.out)).mono ?_
  intro e w12 hm
  obtain ⟨v12, rfl, ho, hb⟩ := hm
  obtain ⟨A12, c12, rfl, _, _, _, hr12⟩ := Own.fix ho HRL.out
  have C12 := Lib.hid hr12
  have U12 := Lib.hid (U11.out.call hb)
  clear hb ho hr12
  go_wp2_with fail
  refine (refEqual_at true (eq_of rfl) HM1.out HM1.out (U12.out.rd D5.out) C12.out).mono ?_
  rintro e w13 ⟨rfl, hb⟩
  have U13 := Lib.hid (U12.out.call hb)
  clear hb
  go_wp2_with fail
  go_ret
  exact ⟨rfl, T5.out.call U13.out⟩

theorem walk_ShapeEdits (A : Option Addr) (n c : Nat) (xs : List Int) (a x : Int) (w : World) (h : In w A n c xs) :
    Calls Tryd.prog 4 #[.slice A n c, .int .i64 a, .int .i64 x] w (Holds w) := by
  by_cases hn : 300 < n
  · exact edits_great A n c xs a x w h hn
  · by_cases ha : a < 0 ∨ (n : Int) < a
    · exact edits_none A n c xs a x w h (by omega) ha
    · obtain ⟨k, rfl⟩ : ∃ k : Nat, a = k := ⟨a.toNat, by omega⟩
      by_cases hk : k < n
      · exact edits_some A n c xs k x w h (by omega) hk
      · obtain rfl : k = n := by omega
        exact edits_last A k c xs x w h (by omega)
end Go.Proofs.YtbjfflflegbfaaaDoor.laws
