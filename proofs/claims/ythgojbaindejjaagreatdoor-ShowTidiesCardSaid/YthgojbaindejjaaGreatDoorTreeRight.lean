/- The reference of package tree: node for every tree, nodes, Right, Small. -/
import Derived.Test.YthgojbaindejjaaGreatDoorTreeNode
namespace Go.Proofs.YthgojbaindejjaaGreatDoor.tr
open Go.ChangeShapes Go.WideShapes Go.ChangeAt Go.RowKit Go.Proofs.YthgojbaindejjaaGreatDoor.mem
set_option linter.unusedVariables false

/-- The kind of the first kid; 0 without. -/
def kindL : List Tr → Int | [] => 0 | T :: _ => T.kind
def nodeB : Tr → Bool | .node k f a s ns ks => decide (nodeP k f a (s.toList == []) (lx.nameB (lx.bl s)) ns.length ks.length (kindL ks))
mutual
def nodesT : Tr → Bool | .node k f a s ns ks => nodeB (.node k f a s ns ks) && nodesL ks
def nodesL : List Tr → Bool | [] => true | T :: r => nodesT T && nodesL r
end
def rightT (T : Tr) : Bool := decide (deepT T ≤ 100) && nodesT T
theorem nodes_node (k f a s ns ks) : nodesT (.node k f a s ns ks) = (nodeB (.node k f a s ns ks) && nodesL ks) := by simp only [nodesT]
theorem nodesL_cons (T r) : nodesL (T :: r) = (nodesT T && nodesL r) := by simp only [nodesL]
theorem nodesL_step {l : List Tr} {k : Nat} {T : Tr} (h : l[k]? = some T) : nodesL (l.drop k) = (nodesT T && nodesL (l.drop (k + 1))) := by rw [cut_at h, nodesL_cons]
theorem nodesL_end {l : List Tr} {k : Nat} (h : l.length ≤ k) : nodesL (l.drop k) = true := by rw [List.drop_eq_nil_of_le h]; simp only [nodesL]

theorem refNode_any (T : Tr) (v : Value) (w : World) (hr : RdT w T v) : Calls Tryz.prog 48 #[v] w (Say w (nodeB T)) := by
  obtain ⟨k, f, a, s, ns, ks⟩ := T
  obtain ⟨A, n, c, B, m, d, rfl, _, _, _, hs, hns, hnc, hcm, _, _, hm, hmd, hd, _, hL⟩ := rdT_node.1 hr
  have hS : s.size ≤ 9223372036854775807 := by unfold reachBytes at hs; omega
  have h1 : n ≤ 17592186044416 := by omega
  have h2 : m ≤ 17592186044416 := by omega
  have hz : 0 < m → ∃ ad, B = some ad ∧ ad.block < w.heap.size ∧ w.cell? ad = some (.int .i64 (kindL ks)) := by
    intro h
    cases ks with
    | nil => simp at hm; omega
    | cons T r =>
      obtain ⟨ad, c0, c1, c2, c3, c4, c5, e, hl, q0, _, _, _, _, _, hT⟩ := hL.kid (k := 0) (T := T) rfl
      obtain ⟨k', f', a', s', ns', ks'⟩ := T
      obtain ⟨_, _, _, _, _, _, he, _⟩ := rdT_node.1 hT
      simp at he
      refine ⟨ad, e, hl, ?_⟩
      have : ad.add (0 * 6) = ad := by unfold Addr.add; simp
      rw [this] at q0
      rw [q0, he.1]; rfl
  unfold nodeB
  have hn1 := hns.1
  subst hn1 hm
  by_cases k1 : k = 1
  · subst k1; exact node_1 f a s A B _ c _ d w _ _ _ (Lib.hid rfl) (Lib.hid rfl) (Lib.hid hS) h1 h2 hz
  by_cases k2 : k = 2
  · subst k2; exact node_2 f a s A B _ c _ d w _ _ _ (Lib.hid rfl) (Lib.hid rfl) (Lib.hid hS) h1 h2 hz
  by_cases k3 : k = 3
  · subst k3; exact node_3 f a s A B _ c _ d w _ _ _ (Lib.hid rfl) (Lib.hid rfl) (Lib.hid hS) h1 h2 hz
  by_cases k4 : k = 4
  · subst k4; exact node_4 f a s A B _ c _ d w _ _ _ (Lib.hid rfl) (Lib.hid rfl) (Lib.hid hS) h1 h2 hz
  exact node_5 k f a s A B _ c _ d w _ _ _ (Lib.hid rfl) (Lib.hid rfl) (Lib.hid hS) h1 h2 hz (by simpa using k1) (by simpa using k2) (by simpa using k3) (by simpa using k4) (Lib.hid ⟨k1, k2, k3, k4⟩)

set_option maxHeartbeats 1000000 in
theorem refNodes_any (T : Tr) : ∀ (v : Value) (w : World), RdT w T v → Calls Tryz.prog 33 #[v] w (Say w (nodesT T)) := by
  induction T using Tr.ind with
  | h k f a s ns ks ih =>
    intro v w hr
    have HR := Lib.hid hr
    obtain ⟨A, n, c, B, m, d, rfl, _, _, _, _, _, _, _, _, _, hm, hmd, hd, _, hL⟩ := rdT_node.1 hr
    obtain ⟨W, hW⟩ : ∃ W, W = w.alloc (.cells #[.int .i64 k, .int .i64 f, .int .i64 a, .string s, .slice A n c, .slice B m d] 25) := ⟨_, rfl⟩
    obtain ⟨hb, _, KC⟩ := one_box6 hW
    have HL := Lib.hid (hL.below hb)
    have HW := Lib.hid hW
    have HB := Lib.hid hb
    have HKC := Lib.hid KC
    have IH := Lib.hid ih
    have HM := Lib.hid hm
    rw [nodes_node]
    obtain ⟨b, hbn⟩ : ∃ b, b = nodeB (.node k f a s ns ks) := ⟨_, rfl⟩
    rw [← hbn]
    have HN := Lib.hid hbn
    clear hr hL hW hb KC ih hm hbn
    obtain ⟨k0, k1, k2, k3, k4, k5⟩ := HKC.out W (Below.refl _ _)
    go_enter Tryz.func33, Tryz.ntmps33
    go_wp2_with fail
    rw [← HW.out]
    go_wp2_with fail
    refine (refNode_any _ _ _ (HR.out.below HB.out)).mono ?_
    rintro e w1 ⟨rfl, hb1⟩
    rw [← HN.out]
    have HV1 := Lib.hid hb1
    clear hb1
    cases b with
    | false =>
      go_wp2_with fail
      go_ret
      exact ⟨rfl, later HB.out HV1.out⟩
    | true =>
      clear k0 k1 k2 k3 k4 k5
      go_wp2_with fail
      go_loopw [3] (fun i wr => ∃ j : Nat, j ≤ m ∧ i = .int .i64 j ∧ Hid (nodesL (ks.drop j) = nodesL ks) ∧ Hid (Below W.heap.size W wr)) (fun i _ => m - (intOf i).toNat)
      case atStart => exact ⟨0, Nat.zero_le _, rfl, Lib.hid (by simp), HV1⟩
      case round =>
        obtain ⟨wo, rfl⟩ : ∃ wo : World, wo = wr := ⟨_, rfl⟩
        obtain ⟨j, hj, rfl, HQ, HV⟩ := hrel
        obtain ⟨_, _, _, _, _, k5⟩ := HKC.out wo HV.out
        by_cases hlt : j < m
        · obtain ⟨T, hT⟩ : ∃ T, ks[j]? = some T := ⟨_, List.getElem?_eq_getElem (by rw [HM.out]; exact hlt)⟩
          have HT := Lib.hid hT
          obtain ⟨ad, c0, c1, c2, c3, c4, c5, rfl, _, q0, q1, q2, q3, q4, q5, hR⟩ := (HL.out.below HV.out).kid hT
          have HR2 := Lib.hid hR
          have HS := Lib.hid (nodesL_step hT)
          clear hT hR
          go_wp2_with fail
          refine (IH.out T (List.mem_of_getElem? HT.out) _ _ HR2.out).mono ?_
          rintro e w2 ⟨rfl, hb1⟩
          have HV2 := Lib.hid (later HV.out hb1)
          clear hb1
          obtain ⟨r, hr⟩ : ∃ r, r = nodesT T := ⟨_, rfl⟩
          rw [← hr]
          have HRR := Lib.hid hr
          clear hr
          cases r with
          | false =>
            go_wp2_with fail
            go_ret
            exact ⟨ret_bool (by rw [← HQ.out, HS.out, ← HRR.out]; rfl), later HB.out HV2.out⟩
          | true =>
            go_wp2_with fail
            go_roundw
            case rel => exact ⟨j + 1, by omega, by go_num, Lib.hid (by rw [← HQ.out, HS.out, ← HRR.out]; rfl), HV2⟩
            case measure => simp [intOf]; omega
        · have HE := Lib.hid (HQ.out.symm.trans (nodesL_end (by rw [HM.out]; omega)))
          go_wp2_with fail
          go_ret
          exact ⟨ret_bool (by rw [HE.out]; rfl), later HB.out HV.out⟩

set_option maxHeartbeats 1000000 in
theorem refRight_any (T : Tr) (v : Value) (w : World) (hr : RdT w T v) (hsz : sizeT T < 1099511627776) : Calls Tryz.prog 20 #[v] w (Say w (rightT T)) := by
  obtain ⟨k, f, a, s, ns, ks⟩ := T
  obtain ⟨A, n, c, B, m, d, rfl, _⟩ := rdT_node.1 hr
  have HX : ∀ q, Hid (Tr.node k f a s ns ks = q) → Hid (RdT w q (.agg #[.int .i64 k, .int .i64 f, .int .i64 a, .string s, .slice A n c, .slice B m d])) := fun q h => Lib.hid (h.out ▸ hr)
  obtain ⟨T, HE⟩ : ∃ T, Hid (Tr.node k f a s ns ks = T) := ⟨_, Lib.hid rfl⟩
  have HR := HX T HE
  rw [HE.out] at hsz ⊢
  obtain ⟨W, hW⟩ : ∃ W, W = w.alloc (.cells #[.int .i64 k, .int .i64 f, .int .i64 a, .string s, .slice A n c, .slice B m d] 25) := ⟨_, rfl⟩
  obtain ⟨hb, _, KC⟩ := one_box6 hW
  have HW := Lib.hid hW
  have HB := Lib.hid hb
  have HKC := Lib.hid KC
  clear hr hW hb KC HX HE
  obtain ⟨dp, hdp⟩ : ∃ dp, dp = deepT T := ⟨_, rfl⟩
  obtain ⟨b, hbn⟩ : ∃ b, b = nodesT T := ⟨_, rfl⟩
  have HD := Lib.hid hdp; have HN := Lib.hid hbn
  have hd : dp < 1099511627776 := by have := deep_size T; omega
  clear hdp hbn
  obtain ⟨k0, k1, k2, k3, k4, k5⟩ := HKC.out W (Below.refl _ _)
  go_enter Tryz.func20, Tryz.ntmps20
  go_wp2_with fail
  rw [← HW.out]
  go_wp2_with fail
  refine (refDepth_any T _ _ (HR.out.below HB.out) hsz).mono ?_
  rintro e w1 ⟨rfl, hb1⟩
  rw [← HD.out]
  have HV1 := Lib.hid hb1
  clear hb1 k0 k1 k2 k3 k4 k5
  obtain ⟨k0, k1, k2, k3, k4, k5⟩ := HKC.out w1 HV1.out
  by_cases h100 : dp ≤ 100
  · have HR1 := Lib.hid (HR.out.below (later HB.out HV1.out))
    have hi : (dp : Int) ≤ 100 := by omega
    go_wp2_with fail
    refine (refNodes_any T _ _ HR1.out).mono ?_
    rintro e w2 ⟨rfl, hb2⟩
    rw [← HN.out]
    have HV2 := Lib.hid (later HV1.out hb2)
    clear hb2 k0 k1 k2 k3 k4 k5
    go_wp2_with fail
    go_ret
    exact ⟨ret_bool (by unfold rightT; rw [← HD.out, ← HN.out, decide_eq_true h100]; rfl), later HB.out HV2.out⟩
  · have hi : ¬ (dp : Int) ≤ 100 := by omega
    go_wp2_with fail
    go_ret
    exact ⟨ret_bool (by unfold rightT; rw [← HD.out, decide_eq_false h100]; rfl), later HB.out HV1.out⟩

def smallT (T : Tr) (most : Int) : Bool := fewT T most && rightT T
set_option maxHeartbeats 1000000 in
theorem refSmall_any (T : Tr) (v : Value) (w : World) (most : Int) (hr : RdT w T v) (h0 : 0 ≤ most) (h40 : most ≤ 100000) : Calls Tryz.prog 8 #[v, .int .i64 most] w (Say w (smallT T most)) := by
  obtain ⟨k, f, a, s, ns, ks⟩ := T
  obtain ⟨A, n, c, B, m, d, rfl, _⟩ := rdT_node.1 hr
  have HX : ∀ q, Hid (Tr.node k f a s ns ks = q) → Hid (RdT w q (.agg #[.int .i64 k, .int .i64 f, .int .i64 a, .string s, .slice A n c, .slice B m d])) := fun q h => Lib.hid (h.out ▸ hr)
  obtain ⟨T, HE⟩ : ∃ T, Hid (Tr.node k f a s ns ks = T) := ⟨_, Lib.hid rfl⟩
  have HR := HX T HE
  rw [HE.out]
  obtain ⟨W, hW⟩ : ∃ W, W = w.alloc (.cells #[.int .i64 k, .int .i64 f, .int .i64 a, .string s, .slice A n c, .slice B m d] 25) := ⟨_, rfl⟩
  obtain ⟨hb, _, KC⟩ := one_box6 hW
  have HW := Lib.hid hW
  have HB := Lib.hid hb
  have HKC := Lib.hid KC
  clear hr hW hb KC HX HE
  obtain ⟨b, hbn⟩ : ∃ b, b = fewT T most := ⟨_, rfl⟩
  obtain ⟨r, hrn⟩ : ∃ r, r = rightT T := ⟨_, rfl⟩
  have HF := Lib.hid hbn; have HN := Lib.hid hrn
  clear hbn hrn
  obtain ⟨k0, k1, k2, k3, k4, k5⟩ := HKC.out W (Below.refl _ _)
  go_enter Tryz.func8, Tryz.ntmps8
  go_wp2_with fail
  rw [← HW.out]
  go_wp2_with fail
  refine (refFew_any T _ _ most (HR.out.below HB.out) h0 h40).mono ?_
  rintro e w1 ⟨rfl, hb1⟩
  rw [← HF.out]
  have HV1 := Lib.hid hb1
  clear hb1 k0 k1 k2 k3 k4 k5
  obtain ⟨k0, k1, k2, k3, k4, k5⟩ := HKC.out w1 HV1.out
  cases b with
  | true =>
    have HR1 := Lib.hid (HR.out.below (later HB.out HV1.out))
    have hsz : Hid (sizeT T < 1099511627776) := Lib.hid (by have := (few_in HF.out.symm).1; omega)
    go_wp2_with fail
    refine (refRight_any T _ _ HR1.out hsz.out).mono ?_
    rintro e w2 ⟨rfl, hb2⟩
    rw [← HN.out]
    have HV2 := Lib.hid (later HV1.out hb2)
    clear hb2 k0 k1 k2 k3 k4 k5
    go_wp2_with fail
    go_ret
    exact ⟨ret_bool (by unfold smallT; rw [← HF.out, ← HN.out]; rfl), later HB.out HV2.out⟩
  | false =>
    go_wp2_with fail
    go_ret
    exact ⟨ret_bool (by unfold smallT; rw [← HF.out]; rfl), later HB.out HV1.out⟩
end Go.Proofs.YthgojbaindejjaaGreatDoor.tr
