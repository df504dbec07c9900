/- The walk of ShapeInverts. -/
import Derived.Test.YtbjfflflegbfaaaDoorLawStrides
namespace Go.Proofs.YtbjfflflegbfaaaDoor.laws
open Go.ChangeShapes Go.WideShapes Go.ChangeAt Go.RowKit Go.Proofs.YtbjfflflegbfaaaDoor.mem Go.Proofs.YtbjfflflegbfaaaDoor.mul Go.Proofs.YtbjfflflegbfaaaDoor.prod Go.Proofs.YtbjfflflegbfaaaDoor.shp Go.Proofs.YtbjfflflegbfaaaDoor.eql Go.Proofs.YtbjfflflegbfaaaDoor.edit Go.Proofs.YtbjfflflegbfaaaDoor.redit Go.Proofs.YtbjfflflegbfaaaDoor.strd Go.Proofs.YtbjfflflegbfaaaDoor.txt
set_option linter.unusedVariables false

theorem step_one {s : Int} (h1 : 0 ≤ s) (h2 : s ≤ 65537) : prodStep s 1 = s := by
  unfold prodStep mulB mulN
  rw [if_neg (by omega)]
  by_cases h : s ≤ 65536
  · rw [if_pos (decide_eq_true (by omega)), if_neg (by omega)]; omega
  · rw [if_neg (by simp; omega)]; omega
theorem tot_one (xs ys : List Int) : totN prodStep 1 (xs ++ [1] ++ ys) = totN prodStep 1 (xs ++ ys) ∧ totE prodStep 1 (xs ++ [1] ++ ys) = totE prodStep 1 (xs ++ ys) := by
  have hneg : (xs ++ [1] ++ ys).foldl anyNeg false = (xs ++ ys).foldl anyNeg false := by rw [neg_any, neg_any]; simp
  have hbig : (xs ++ [1] ++ ys).foldl anyBig false = (xs ++ ys).foldl anyBig false := by rw [big_any, big_any]; simp
  unfold totN totE
  rw [hneg, hbig]
  cases h1 : (xs ++ ys).foldl anyNeg false
  · cases h2 : (xs ++ ys).foldl anyBig false
    · have hr := in_range h1 h2
      have hs := step_range prodStep prod_range xs 1 (by omega) (by omega) fun x hx => hr x (by simp [hx])
      have e : (xs ++ [1] ++ ys).foldl prodStep 1 = (xs ++ ys).foldl prodStep 1 := by
        rw [List.foldl_append, List.foldl_append, List.foldl_append, List.foldl_cons, List.foldl_nil, step_one hs.1 hs.2]
      rw [e]
      simp
    · simp
  · simp
theorem cel_one {xs : List Int} {k : Nat} (h : xs.length < 16) : celN (xs.take k ++ [1] ++ xs.drop k) = celN xs := by
  have ht := tot_one (xs.take k) (xs.drop k)
  rw [List.take_append_drop] at ht
  have hl : (xs.take k ++ [1] ++ xs.drop k).length ≤ 16 := by simp; omega
  have hc : chkE (xs.take k ++ [1] ++ xs.drop k) = chkE xs := by
    have e1 : ¬ 16 < (xs.take k ++ [1] ++ xs.drop k).length := by omega
    have e2 : ¬ 16 < xs.length := by omega
    unfold chkE
    rw [ht.2]
    simp only [e1, e2, if_false]
  unfold celN
  rw [hc, ht.1]
theorem ins_rem (xs : List Int) (k : Nat) (x : Int) (hk : k ≤ xs.length) : (xs.take k ++ [x] ++ xs.drop k).take k ++ [] ++ (xs.take k ++ [x] ++ xs.drop k).drop (k + 1) = xs := by
  have h1 : (xs.take k).length = k := by simp [hk]
  rw [List.append_nil, List.append_assoc, List.take_append_of_le_length (by omega), List.take_of_length_le (by omega : (xs.take k).length ≤ k)]
  rw [← List.append_assoc, List.drop_append_of_le_length (by simp; omega), List.drop_of_length_le (by simp; omega)]
  simp

theorem inverts_great (A : Option Addr) (n c : Nat) (xs : List Int) (a : Int) (w : World) (h : In w A n c xs) (hn : 300 < n) :
    Calls Tryd.prog 5 #[.slice A n c, .int .u8 a] w (Holds w) := by
  clear h
  go_enter Tryd.func5, Tryd.ntmps5
  go_wp2_with fail
  refine (awake_true _).mono ?_
  rintro e w1 ⟨rfl, hb⟩
  have T1 := Lib.hid ((Aft.refl w).call hb)
  clear hb
  go_wp2_with fail
  refine (awake_true _).mono ?_
  rintro e w2 ⟨rfl, hb⟩
  have T2 := Lib.hid (T1.out.call hb)
  clear hb
  go_wp2_with fail
  go_ret
  exact ⟨rfl, T2.out⟩

set_option maxHeartbeats 1000000 in
theorem inverts_small (A : Option Addr) (n c : Nat) (xs : List Int) (a : Nat) (w : World) (h : In w A n c xs) (hn : n ≤ 300) (ha : a ≤ 255) :
    Calls Tryd.prog 5 #[.slice A n c, .int .u8 a] w (Holds w) := by
  obtain ⟨k, hk⟩ : ∃ k, k = a % (n + 1) := ⟨_, rfl⟩
  have hkn : k ≤ n := by have := Nat.mod_lt a (by omega : 0 < n + 1); omega
  have hmod : (a : Int) % ((n : Int) + 1) = (k : Int) := by rw [hk]; rfl
  clear hk
  obtain ⟨ys, hys⟩ : ∃ ys, ys = xs.take k ++ [1] ++ xs.drop k := ⟨_, rfl⟩
  have hyl : ys.length = n + 1 := by rw [hys]; simp [h.rd.1]; omega
  have I := fun W hr => insert_some A n c xs k 1 W h.le h.max h.none_ (by omega) hr hkn
  have R := fun A' c' W h1 h2 h3 hr => remove_some A' (n + 1) c' ys k W h1 h2 h3 (by omega) hr (by omega)
  have Cy := fun A' c' W hr => cells_any A' (n + 1) c' ys W (by unfold maxLen; omega) hr
  have Cx := fun W hr => cells_any A n c xs W h.len hr
  have hzs : ys.take k ++ [] ++ ys.drop (k + 1) = xs := by rw [hys]; exact ins_rem xs k 1 (by rw [h.rd.1]; exact hkn)
  rw [hzs] at R
  rw [← hys] at I
  have hcel : n < 16 → celN ys = celN xs := fun h16 => by rw [hys]; exact cel_one (by rw [h.rd.1]; exact h16)
  have HC := Lib.hid hcel
  have HX := Lib.hid h.rd
  have I := Lib.hid I; have R := Lib.hid R; have Cy := Lib.hid Cy; have Cx := Lib.hid Cx
  have HL := Lib.hid hyl
  have HN := Lib.hid h.len
  rename_i q1 q2 q3 q4; clear q1 q2 q3 q4 hcel hys hzs hyl h
  have ha0 : (0 : Int) ≤ (a : Int) := by omega
  have hn1 : (0 : Int) < (n : Int) + 1 := by omega
  go_enter Tryd.func5, Tryd.ntmps5
  go_wp2_with fail
  refine (awake_true _).mono ?_
  rintro e w1 ⟨rfl, hb⟩
  have HX1 := Lib.hid (HX.out.below hb)
  have T1 := Lib.hid ((Aft.refl w).call hb)
  clear hb
  go_wp2_with fail
  refine (I.out _ HX1.out).mono ?_
  intro e w2 hm
  obtain ⟨A2, k2, rfl, ho, hb, hle, hmx, hnn⟩ := hm.out
  have HX2 := Lib.hid (HX1.out.below hb)
  have T2 := Lib.hid (T1.out.call hb)
  have hrd := ho.rd
  rw [HL.out] at hrd hle
  simp only [HL.out]
  have R2 := Lib.hid hrd; have LE := Lib.hid hle; have MX := Lib.hid hmx; have NN := Lib.hid hnn
  clear hm ho hb hrd hle hmx hnn
  go_wp2_with fail
  refine (R.out _ _ _ LE.out MX.out NN.out R2.out).mono ?_
  intro e w3 hm
  obtain ⟨A3, k3, rfl, ho, hb, hle, hmx, hnn⟩ := hm.out
  have HX3 := Lib.hid (HX2.out.below hb)
  have R23 := Lib.hid (R2.out.below hb)
  have T3 := Lib.hid (T2.out.call hb)
  have R3 := Lib.hid ho.rd
  have hxl := HX3.out.1
  rw [hxl] at R3
  simp only [hxl]
  clear hm ho hb hle hmx hnn hxl
  go_wp2_with fail
  refine (refEqual_at true (eq_of rfl) HN.out HN.out R3.out HX3.out).mono ?_
  rintro e w4 ⟨rfl, hb⟩
  have HX4 := Lib.hid (HX3.out.below hb)
  have R24 := Lib.hid (R23.out.below hb)
  have T4 := Lib.hid (T3.out.call hb)
  clear hb
  by_cases h16 : 16 ≤ n
  · go_wp2_with fail
    go_ret
    exact ⟨rfl, T4.out⟩
  · have hc := HC.out (by omega)
    have CY := Lib.hid (Cy.out _ k2 _ R24.out)
    have CX := Lib.hid (Cx.out _ HX4.out)
    rw [hc] at CY
    clear hc
    generalize celN xs = N at *
    go_wp2_with fail
    refine CY.out.mono ?_
    rintro e w' ⟨rfl, rfl⟩
    go_wp2_with fail
    refine CX.out.mono ?_
    rintro e w' ⟨rfl, rfl⟩
    go_wp2_with fail
    go_ret
    exact ⟨rfl, T4.out⟩

theorem walk_ShapeInverts (A : Option Addr) (n c : Nat) (xs : List Int) (a : Int) (w : World) (h : In w A n c xs) (wf : (Lit.int .u8 a).wf = true) :
    Calls Tryd.prog 5 #[.slice A n c, .int .u8 a] w (Holds w) := by
  have hb : 0 ≤ a ∧ a ≤ 255 := by
    simp [Lit.wf, IntKind.min, IntKind.max, IntKind.signed, IntKind.bits] at wf
    omega
  by_cases hn : 300 < n
  · exact inverts_great A n c xs a w h hn
  · obtain ⟨u, rfl⟩ : ∃ u : Nat, a = u := ⟨a.toNat, by omega⟩
    exact inverts_small A n c xs u w h (by omega) (by omega)
end Go.Proofs.YtbjfflflegbfaaaDoor.laws
