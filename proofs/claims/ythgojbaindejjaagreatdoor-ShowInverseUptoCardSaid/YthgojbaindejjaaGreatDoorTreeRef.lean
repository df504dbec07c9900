/- The reference of package tree, what only reads: Size, Depth, left, numbers, Few. The reference of package tree: left, Few. -/
import Derived.Test.YthgojbaindejjaaGreatDoorTree
import Derived.Tactics2
/- The reference of package tree, what only reads: Size, Depth, left, numbers, Few. -/
namespace Go.Proofs.YthgojbaindejjaaGreatDoor.tr
open Go.ChangeShapes Go.WideShapes Go.ChangeAt Go.RowKit Go.Proofs.YthgojbaindejjaaGreatDoor.mem
set_option linter.unusedVariables false

/-- The answer is the number, the bool; what lay below still lies. -/
def Num (w : World) (n : Int) (e : Ending) (w' : World) : Prop := e = .returned (.int .i64 n) ∧ Below w.heap.size w w'
def Say (w : World) (b : Bool) (e : Ending) (w' : World) : Prop := e = .returned (.bool b) ∧ Below w.heap.size w w'
theorem later {w W V : World} (h : Below w.heap.size w W) (h' : Below W.heap.size W V) : Below w.heap.size w V := h.trans (h'.mono h.size)


set_option maxHeartbeats 1000000 in
theorem refDepth_any (T : Tr) : ∀ (v : Value) (w : World), RdT w T v → sizeT T < 1099511627776 → Calls Tryz.prog 31 #[v] w (Num w (deepT T)) := by
  induction T using Tr.ind with
  | h k f a s ns ks ih =>
    intro v w hr hsz
    obtain ⟨A, n, c, B, m, d, rfl, _, _, _, _, _, _, _, _, _, hm, hmd, hd, _, hL⟩ := rdT_node.1 hr
    obtain ⟨W, hW⟩ : ∃ W, W = w.alloc (.cells #[.int .i64 k, .int .i64 f, .int .i64 a, .string s, .slice A n c, .slice B m d] 25) := ⟨_, rfl⟩
    obtain ⟨hb, _, KC⟩ := one_box6 hW
    have HL := Lib.hid (hL.below hb)
    have HW := Lib.hid hW
    have HB := Lib.hid hb
    have HKC := Lib.hid KC
    have IH := Lib.hid ih
    have hdz := deep_size (.node k f a s ns ks)
    rw [size_node] at hsz hdz; rw [deep_node] at hdz ⊢
    have HDZ := Lib.hid hdz; clear hdz
    have HM := Lib.hid hm
    clear hr hL hW hb KC ih hm
    go_enter Tryz.func31, Tryz.ntmps31
    go_wp2_with fail
    rw [← HW.out]
    go_loopw [3, 4] (fun x i wr => ∃ j q : Nat, j ≤ m ∧ x = .int .i64 q ∧ i = .int .i64 j ∧ Hid (max q (deepL (ks.drop j)) = deepL ks) ∧ Hid (Below W.heap.size W wr)) (fun x i _ => m - (intOf i).toNat)
    case atStart => exact ⟨0, 0, Nat.zero_le _, rfl, rfl, Lib.hid (by simp), Lib.hid (Below.refl _ _)⟩
    case round =>
      obtain ⟨wo, rfl⟩ : ∃ wo : World, wo = wr := ⟨_, rfl⟩
      obtain ⟨j, q, hj, rfl, rfl, HQ, HV⟩ := hrel
      obtain ⟨_, _, _, _, _, k5⟩ := HKC.out wo HV.out
      have hq : q ≤ 1099511627776 := by have := HQ.out; have := HDZ.out; omega
      by_cases hlt : j < m
      · obtain ⟨T, hT⟩ : ∃ T, ks[j]? = some T := ⟨_, List.getElem?_eq_getElem (by rw [HM.out]; exact hlt)⟩
        have HT := Lib.hid hT
        obtain ⟨ad, c0, c1, c2, c3, c4, c5, rfl, _, q0, q1, q2, q3, q4, q5, hR⟩ := (HL.out.below HV.out).kid hT
        have HR := Lib.hid hR
        clear hT hR
        go_wp2_with fail
        have hs := deepL_step HT.out
        have hz : sizeT T < 1099511627776 := by have := kid_size HT.out; omega
        refine (IH.out T (List.mem_of_getElem? HT.out) _ _ HR.out hz).mono ?_
        rintro e w1 ⟨rfl, hb1⟩
        have HV1 := Lib.hid (later HV.out hb1)
        have hq2 : deepT T ≤ 1099511627776 := by have := deep_size T; omega
        clear hb1
        have HS := Lib.hid hs; clear hs
        go_wp2_with fail
        go_roundw
        case rel => exact ⟨j + 1, max q (deepT T), by omega, by go_num, by go_num, Lib.hid (by have := HQ.out; have := HS.out; omega), HV1⟩
        case measure => simp [intOf]; omega
      · go_wp2_with fail
        go_ret
        exact ⟨by have h1 := HQ.out; rw [deepL_end (by rw [HM.out]; omega)] at h1; rw [← h1]; simp, later HB.out HV.out⟩

set_option maxHeartbeats 1000000 in
theorem refNumbers_any (T : Tr) : ∀ (v : Value) (w : World), RdT w T v → numsT T < 4611686018427387904 → Calls Tryz.prog 32 #[v] w (Num w (numsT T)) := by
  induction T using Tr.ind with
  | h k f a s ns ks ih =>
    intro v w hr hsz
    obtain ⟨A, n, c, B, m, d, rfl, _, _, _, _, hns, hnc, hcm, _, _, hm, hmd, hd, _, hL⟩ := rdT_node.1 hr
    obtain ⟨W, hW⟩ : ∃ W, W = w.alloc (.cells #[.int .i64 k, .int .i64 f, .int .i64 a, .string s, .slice A n c, .slice B m d] 25) := ⟨_, rfl⟩
    obtain ⟨hb, _, KC⟩ := one_box6 hW
    have HL := Lib.hid (hL.below hb)
    have HW := Lib.hid hW
    have HB := Lib.hid hb
    have HKC := Lib.hid KC
    have IH := Lib.hid ih
    rw [nums_node] at hsz ⊢
    have HM := Lib.hid hm
    have HN := Lib.hid hns.1; clear hns
    clear hr hL hW hb KC ih hm
    go_enter Tryz.func32, Tryz.ntmps32
    go_wp2_with fail
    rw [← HW.out]
    go_loopw [3, 4] (fun x i wr => ∃ j q : Nat, j ≤ m ∧ x = .int .i64 q ∧ i = .int .i64 j ∧ Hid (q + numsL (ks.drop j) = ns.length + numsL ks) ∧ Hid (Below W.heap.size W wr)) (fun x i _ => m - (intOf i).toNat)
    case atStart => exact ⟨0, n, Nat.zero_le _, rfl, rfl, Lib.hid (by rw [HN.out]; simp), Lib.hid (Below.refl _ _)⟩
    case round =>
      obtain ⟨wo, rfl⟩ : ∃ wo : World, wo = wr := ⟨_, rfl⟩
      obtain ⟨j, q, hj, rfl, rfl, HQ, HV⟩ := hrel
      obtain ⟨_, _, _, _, _, k5⟩ := HKC.out wo HV.out
      have hq : q ≤ 4611686018427387904 := by have := HQ.out; omega
      by_cases hlt : j < m
      · obtain ⟨T, hT⟩ : ∃ T, ks[j]? = some T := ⟨_, List.getElem?_eq_getElem (by rw [HM.out]; exact hlt)⟩
        have HT := Lib.hid hT
        obtain ⟨ad, c0, c1, c2, c3, c4, c5, rfl, _, q0, q1, q2, q3, q4, q5, hR⟩ := (HL.out.below HV.out).kid hT
        have HR := Lib.hid hR
        clear hT hR
        go_wp2_with fail
        have HS := Lib.hid (numsL_step HT.out)
        have hz : numsT T < 4611686018427387904 := by have := HQ.out; have := HS.out; omega
        refine (IH.out T (List.mem_of_getElem? HT.out) _ _ HR.out hz).mono ?_
        rintro e w1 ⟨rfl, hb1⟩
        have HV1 := Lib.hid (later HV.out hb1)
        have hq2 : q + numsT T ≤ 4611686018427387904 := by have := HQ.out; have := HS.out; omega
        clear hb1
        go_wp2_with fail
        go_roundw
        case rel => exact ⟨j + 1, q + numsT T, by omega, by go_num, by go_num, Lib.hid (by have := HQ.out; have := HS.out; omega), HV1⟩
        case measure => simp [intOf]; omega
      · go_wp2_with fail
        go_ret
        exact ⟨by have h1 := HQ.out; rw [numsL_end (by rw [HM.out]; omega)] at h1; rw [← h1]; rfl, later HB.out HV.out⟩
end Go.Proofs.YthgojbaindejjaaGreatDoor.tr

/- The reference of package tree: left, Few. -/
namespace Go.Proofs.YthgojbaindejjaaGreatDoor.tr
open Go.ChangeShapes Go.WideShapes Go.ChangeAt Go.RowKit Go.Proofs.YthgojbaindejjaaGreatDoor.mem
set_option linter.unusedVariables false

theorem leftL_step {l : List Tr} {k : Nat} {T : Tr} (h : l[k]? = some T) {q : Int} (hq : 0 ≤ q) : leftL (l.drop k) q = leftL (l.drop (k + 1)) (leftT T q) := by
  have := sizeL_step h
  unfold leftL leftT
  split <;> split <;> split <;> omega
theorem leftL_neg {l : List Tr} : leftL l (-1) = -1 := by unfold leftL; rw [if_neg (by omega)]
theorem leftL_end {l : List Tr} {k : Nat} (h : l.length ≤ k) {q : Int} (hq : -1 ≤ q) : leftL (l.drop k) q = q := by
  unfold leftL; rw [sizeL_end h]; split <;> omega
theorem left_node (k f a s ns ks) {m : Int} (hm : 0 ≤ m) : leftT (.node k f a s ns ks) m = leftL ks (m - 1) := by
  unfold leftT leftL; rw [size_node]; split <;> split <;> omega
theorem left_low {T : Tr} {q : Int} (hq : 0 ≤ q) : -1 ≤ leftT T q ∧ leftT T q ≤ q := by unfold leftT; split <;> omega

set_option maxHeartbeats 1000000 in
theorem refLeft_any (T : Tr) : ∀ (v : Value) (w : World) (most : Int), RdT w T v → 0 ≤ most → most < 1099511627776 → Calls Tryz.prog 30 #[v, .int .i64 most] w (Num w (leftT T most)) := by
  induction T using Tr.ind with
  | h k f a s ns ks ih =>
    intro v w most hr h0 h40
    obtain ⟨A, n, c, B, m, d, rfl, _, _, _, _, _, _, _, _, _, hm, hmd, hd, _, hL⟩ := rdT_node.1 hr
    obtain ⟨W, hW⟩ : ∃ W, W = w.alloc (.cells #[.int .i64 k, .int .i64 f, .int .i64 a, .string s, .slice A n c, .slice B m d] 25) := ⟨_, rfl⟩
    obtain ⟨hb, _, KC⟩ := one_box6 hW
    have HL := Lib.hid (hL.below hb)
    have HW := Lib.hid hW
    have HB := Lib.hid hb
    have HKC := Lib.hid KC
    have IH := Lib.hid ih
    rw [left_node k f a s ns ks h0]
    have HM := Lib.hid hm
    clear hr hL hW hb KC ih hm
    go_enter Tryz.func30, Tryz.ntmps30
    go_wp2_with fail
    rw [← HW.out]
    go_loopw [1, 5] (fun x i wr => ∃ (j : Nat) (q : Int), j ≤ m ∧ -1 ≤ q ∧ q ≤ most ∧ x = .int .i64 q ∧ i = .int .i64 j ∧ Hid (leftL (ks.drop j) q = leftL ks (most - 1)) ∧ Hid (Below W.heap.size W wr)) (fun x i _ => m - (intOf i).toNat)
    case atStart => exact ⟨0, most - 1, Nat.zero_le _, by omega, by omega, by go_num, rfl, Lib.hid (by simp), Lib.hid (Below.refl _ _)⟩
    case round =>
      obtain ⟨wo, rfl⟩ : ∃ wo : World, wo = wr := ⟨_, rfl⟩
      obtain ⟨j, q, hj, hq0, hq1, rfl, rfl, HQ, HV⟩ := hrel
      obtain ⟨_, _, _, _, _, k5⟩ := HKC.out wo HV.out
      by_cases hlt : j < m
      · by_cases hneg : q = -1
        · subst hneg
          go_wp2_with fail
          go_ret
          exact ⟨by have h1 := HQ.out; rw [leftL_neg] at h1; rw [← h1]; rfl, later HB.out HV.out⟩
        · have hq : 0 ≤ q := by omega
          clear hneg
          obtain ⟨T, hT⟩ : ∃ T, ks[j]? = some T := ⟨_, List.getElem?_eq_getElem (by rw [HM.out]; exact hlt)⟩
          have HT := Lib.hid hT
          obtain ⟨ad, c0, c1, c2, c3, c4, c5, rfl, _, q0, q1, q2, q3, q4, q5, hR⟩ := (HL.out.below HV.out).kid hT
          have HR := Lib.hid hR
          clear hT hR
          go_wp2_with fail
          refine (IH.out T (List.mem_of_getElem? HT.out) _ _ q HR.out hq (by omega)).mono ?_
          rintro e w1 ⟨rfl, hb1⟩
          have HV1 := Lib.hid (later HV.out hb1)
          obtain ⟨l1, l2⟩ := left_low (T := T) hq
          have HS := Lib.hid (leftL_step HT.out hq)
          clear hb1
          go_wp2_with fail
          go_roundw
          case rel => exact ⟨j + 1, leftT T q, by omega, l1, by omega, by go_num, by go_num, Lib.hid (by rw [← HS.out]; exact HQ.out), HV1⟩
          case measure => simp [intOf]; omega
      · go_wp2_with fail
        go_ret
        exact ⟨by have h1 := HQ.out; rw [leftL_end (by rw [HM.out]; omega) hq0] at h1; rw [← h1]; rfl, later HB.out HV.out⟩

theorem nums_most {w : World} : ∀ {T : Tr} {v : Value}, RdT w T v → numsT T ≤ sizeT T * 17592186044416 := by
  intro T
  induction T using Tr.ind with
  | h k f a s ns ks ih =>
    intro v h
    obtain ⟨A, n, c, B, m, d, h0, h1, h2, h3, h4, h5, h6, h7, h8, h9, h10, h11, h12, h13, h14⟩ := rdT_node.1 h
    have hn : ns.length ≤ 17592186044416 := by rw [h5.1]; omega
    have hk : numsL ks ≤ sizeL ks * 17592186044416 := by
      clear h0 h1 h2 h3 h4 h5 h6 h7 h8 h9 h10 h11 h12 h13 hn h
      generalize 0 = i at h14
      induction ks generalizing i with
      | nil => simp only [numsL]; omega
      | cons T r ihr =>
        obtain ⟨⟨ad, c0, c1, c2, c3, c4, c5, e, hl, q0, q1, q2, q3, q4, q5, hT⟩, hr⟩ := rdL_cons.1 h14
        rw [numsL_cons, sizeL_cons, Nat.add_mul]
        have a1 := ih T (by simp) hT
        have a2 := ihr (fun U hU => ih U (by simp [hU])) _ hr
        omega
    rw [nums_node, size_node, Nat.add_mul]
    omega

/-- Few nodes and numbers, and not deep. -/
def fewT (T : Tr) (most : Int) : Bool := decide (sizeT T ≤ most.toNat) && (decide (deepT T ≤ 150) && decide (numsT T ≤ 10 * most.toNat))
theorem few_in {T : Tr} {most : Int} (h : fewT T most = true) : sizeT T ≤ most.toNat ∧ deepT T ≤ 150 ∧ numsT T ≤ 10 * most.toNat := by
  unfold fewT at h; simpa using h

set_option maxHeartbeats 1000000 in
theorem refFew_any (T : Tr) (v : Value) (w : World) (most : Int) (hr : RdT w T v) (h0 : 0 ≤ most) (h40 : most ≤ 100000) : Calls Tryz.prog 19 #[v, .int .i64 most] w (Say w (fewT T most)) := by
  obtain ⟨k, f, a, s, ns, ks⟩ := T
  obtain ⟨A, n, c, B, m, d, rfl, _⟩ := rdT_node.1 hr
  have HX : ∀ q, Hid (Tr.node k f a s ns ks = q) → Hid (RdT w q (.agg #[.int .i64 k, .int .i64 f, .int .i64 a, .string s, .slice A n c, .slice B m d])) := fun q h => Lib.hid (h.out ▸ hr)
  obtain ⟨T, HE⟩ : ∃ T, Hid (Tr.node k f a s ns ks = T) := ⟨_, Lib.hid rfl⟩
  have HR := HX T HE
  rw [HE.out]
  obtain ⟨W, hW⟩ : ∃ W, W = w.alloc (.cells #[.int .i64 k, .int .i64 f, .int .i64 a, .string s, .slice A n c, .slice B m d] 25) := ⟨_, rfl⟩
  obtain ⟨hb, _, KC⟩ := one_box6 hW
  have HW := Lib.hid hW
  have HB := Lib.hid hb
  have HKC := Lib.hid KC
  clear hr hW hb KC HX
  have h1 := nums_most HR.out
  obtain ⟨q, hq⟩ : ∃ q, q = leftT T most := ⟨_, rfl⟩
  obtain ⟨dp, hdp⟩ : ∃ dp, dp = deepT T := ⟨_, rfl⟩
  obtain ⟨nm, hnm⟩ : ∃ nm, nm = numsT T := ⟨_, rfl⟩
  obtain ⟨k0, k1, k2, k3, k4, k5⟩ := HKC.out W (Below.refl _ _)
  have HN := Lib.hid h1; clear h1
  have HQ := Lib.hid hq; have HD := Lib.hid hdp; have HNM := Lib.hid hnm
  clear hq hdp hnm
  have HA : Hid (q < 0 ∨ (q ≥ 0 ∧ sizeT T ≤ most.toNat)) := Lib.hid (by rw [HQ.out]; unfold leftT; split <;> omega)
  go_enter Tryz.func19, Tryz.ntmps19
  go_wp2_with fail
  rw [← HW.out]
  go_wp2_with fail
  refine (refLeft_any T _ _ most (HR.out.below HB.out) h0 (by omega)).mono ?_
  rintro e w1 ⟨rfl, hb1⟩
  rw [← HQ.out]
  have HV1 := Lib.hid hb1
  clear hb1 k0 k1 k2 k3 k4 k5
  obtain ⟨k0, k1, k2, k3, k4, k5⟩ := HKC.out w1 HV1.out
  rcases HA.out with hneg | ⟨hpos, hsz⟩
  · have HF : Hid (fewT T most = false) := Lib.hid (by
      have := HQ.out
      unfold fewT; unfold leftT at this
      rw [decide_eq_false (by intro h; rw [if_pos (by omega)] at this; omega)]; rfl)
    go_wp2_with fail
    go_ret
    exact ⟨ret_bool HF.out.symm, later HB.out HV1.out⟩
  · have HSZ := Lib.hid hsz
    have hd : dp < 1099511627776 := by have := deep_size T; rw [HD.out]; omega
    have hn : nm < 4611686018427387904 := by
      have h2 := HN.out
      rw [← HNM.out] at h2
      refine Nat.lt_of_le_of_lt (Nat.le_trans h2 (Nat.mul_le_mul_right _ (show sizeT T ≤ 100000 by omega))) ?_
      decide
    have HV1' := HR.out.below (later HB.out HV1.out)
    go_wp2_with fail
    refine (refDepth_any T _ _ HV1' (by omega)).mono ?_
    rintro e w2 ⟨rfl, hb2⟩
    rw [← HD.out]
    have HV2 := Lib.hid (later HV1.out hb2)
    clear hb2 HV1' k0 k1 k2 k3 k4 k5
    obtain ⟨k0, k1, k2, k3, k4, k5⟩ := HKC.out w2 HV2.out
    by_cases h150 : dp ≤ 150
    · have HV2' := HR.out.below (later HB.out HV2.out)
      have hn2 := hn
      rw [HNM.out] at hn2
      have hi150 : (dp : Int) ≤ 150 := by omega
      go_wp2_with fail
      refine (refNumbers_any T _ _ HV2' hn2).mono ?_
      rintro e w3 ⟨rfl, hb3⟩
      rw [← HNM.out]
      have HV3 := Lib.hid (later HV2.out hb3)
      clear hb3 HV2' k0 k1 k2 k3 k4 k5 hn2
      go_wp2_with fail
      go_ret
      exact ⟨ret_bool (by unfold fewT; rw [← HD.out, ← HNM.out, decide_eq_true HSZ.out, decide_eq_true h150]; simp only [Bool.true_and]; exact decide_eq_decide.2 (by omega)), later HB.out HV3.out⟩
    · have hi150 : ¬ (dp : Int) ≤ 150 := by omega
      go_wp2_with fail
      go_ret
      exact ⟨ret_bool (by unfold fewT; rw [← HD.out, decide_eq_false h150]; simp), later HB.out HV2.out⟩
end Go.Proofs.YthgojbaindejjaaGreatDoor.tr
