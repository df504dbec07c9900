/- The reference of package tree, what only reads: Size, Depth, left, numbers, Few. -/
import Derived.Test.YtihkflpbccebmaaDoorTree
import Derived.Tactics2
namespace Go.Proofs.YtihkflpbccebmaaDoor.tr
open Go.ChangeShapes Go.WideShapes Go.ChangeAt Go.RowKit Go.Proofs.YtihkflpbccebmaaDoor.mem
set_option linter.unusedVariables false

/-- The answer is the number, the bool; what lay below still lies. -/
def Num (w : World) (n : Int) (e : Ending) (w' : World) : Prop := e = .returned (.int .i64 n) ∧ Below w.heap.size w w'
def Say (w : World) (b : Bool) (e : Ending) (w' : World) : Prop := e = .returned (.bool b) ∧ Below w.heap.size w w'
theorem later {w W V : World} (h : Below w.heap.size w W) (h' : Below W.heap.size W V) : Below w.heap.size w V := h.trans (h'.mono h.size)


set_option maxHeartbeats 1000000 in
theorem refDepth_any (T : Tr) : ∀ (v : Value) (w : World), RdT w T v → sizeT T < 1099511627776 → Calls Tryd.prog 17 #[v] w (Num w (deepT T)) := by
  induction T using Tr.ind with
  | h k f a s ns ks ih =>
    intro v w hr hsz
    obtain ⟨A, n, c, B, m, d, rfl, _, _, _, _, _, _, _, _, _, hm, hmd, hd, _, hL⟩ := rdT_node.1 hr
    obtain ⟨W, hW⟩ : ∃ W, W = w.alloc (.cells #[.int .i64 k, .int .i64 f, .int .i64 a, .string s, .slice A n c, .slice B m d] 26) := ⟨_, rfl⟩
    obtain ⟨hb, _, KC⟩ := one_box6 hW
    have HL := Lib.hid (hL.below hb)
    have HW := Lib.hid hW
    have HB := Lib.hid hb
    have HKC := Lib.hid KC
    have IH := Lib.hid ih
    have hdz := deep_size (.node k f a s ns ks)
    rw [size_node] at hsz hdz; rw [deep_node] at hdz ⊢
    have HDZ := Lib.hid hdz; clear hdz
    have HM := Lib.hid hm
    clear hr hL hW hb KC ih hm
    go_enter Tryd.func17, Tryd.ntmps17
    go_wp2_with fail
    rw [← HW.out]
    go_loopw [3, 4] (fun x i wr => ∃ j q : Nat, j ≤ m ∧ x = .int .i64 q ∧ i = .int .i64 j ∧ Hid (max q (deepL (ks.drop j)) = deepL ks) ∧ Hid (Below W.heap.size W wr)) (fun x i _ => m - (intOf i).toNat)
    case atStart => exact ⟨0, 0, Nat.zero_le _, rfl, rfl, Lib.hid (by simp), Lib.hid (Below.refl _ _)⟩
    case round =>
      obtain ⟨wo, rfl⟩ : ∃ wo : World, wo = wr := ⟨_, rfl⟩
      obtain ⟨j, q, hj, rfl, rfl, HQ, HV⟩ := hrel
      obtain ⟨_, _, _, _, _, k5⟩ := HKC.out wo HV.out
      have hq : q ≤ 1099511627776 := by have := HQ.out; have := HDZ.out; omega
      by_cases hlt : j < m
      · obtain ⟨T, hT⟩ : ∃ T, ks[j]? = some T := ⟨_, List.getElem?_eq_getElem (by rw [HM.out]; exact hlt)⟩
        have HT := Lib.hid hT
        obtain ⟨ad, c0, c1, c2, c3, c4, c5, rfl, _, q0, q1, q2, q3, q4, q5, hR⟩ := (HL.out.below HV.out).kid hT
        have HR := Lib.hid hR
        clear hT hR
        go_wp2_with fail
        have hs := deepL_step HT.out
        have hz : sizeT T < 1099511627776 := by have := kid_size HT.out; omega
        refine (IH.out T (List.mem_of_getElem? HT.out) _ _ HR.out hz).mono ?_
        rintro e w1 ⟨rfl, hb1⟩
        have HV1 := Lib.hid (later HV.out hb1)
        have hq2 : deepT T ≤ 1099511627776 := by have := deep_size T; omega
        clear hb1
        have HS := Lib.hid hs; clear hs
        go_wp2_with fail
        go_roundw
        case rel => exact ⟨j + 1, max q (deepT T), by omega, by go_num, by go_num, Lib.hid (by have := HQ.out; have := HS.out; omega), HV1⟩
        case measure => simp [intOf]; omega
      · go_wp2_with fail
        go_ret
        exact ⟨by have h1 := HQ.out; rw [deepL_end (by rw [HM.out]; omega)] at h1; rw [← h1]; simp, later HB.out HV.out⟩

end Go.Proofs.YtihkflpbccebmaaDoor.tr
