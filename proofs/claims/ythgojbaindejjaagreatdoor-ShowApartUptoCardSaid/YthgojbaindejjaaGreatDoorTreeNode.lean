/- The reference of package tree: node, nodes, Right, Small. Written by wip/bin/gen/gennode.py. -/
import Derived.Test.YthgojbaindejjaaGreatDoorTreeRef
import Derived.Test.YthgojbaindejjaaGreatDoorLexNam
namespace Go.Proofs.YthgojbaindejjaaGreatDoor.tr
open Go.ChangeShapes Go.WideShapes Go.ChangeAt Go.RowKit Go.Proofs.YthgojbaindejjaaGreatDoor.mem
set_option linter.unusedVariables false

/-- A node with its fields: E: no name; N: its name is one; k0: the kind of its first kid. -/
def nodeP (k f a : Int) (E N : Bool) (n m : Nat) (k0 : Int) : Prop :=
  (k = 1 ∧ f = 0 ∧ a = -1 ∧ E = true ∧ m = 0) ∨ (k = 2 ∧ f = 0 ∧ a = -1 ∧ N = true ∧ n = 0 ∧ m = 0) ∨
  (k = 3 ∧ E = true ∧ n = 0 ∧ m = 1 ∧ ((f = 3 ∧ (a = -1 ∨ (0 ≤ a ∧ a ≤ 15))) ∨ ((f = 4 ∨ f = 6) ∧ a = -1))) ∨
  (k = 4 ∧ E = true ∧ n = 0 ∧ m = 2 ∧ 1 ≤ f ∧ f ≤ 6 ∧ (a = -1 ∨ ((0 ≤ a ∧ a ≤ 15) ∧ (f = 3 ∨ f = 6))) ∧ (f = 6 ∨ k0 = 1 ∨ k0 = 2))
instance (k f a E N n m k0) : Decidable (nodeP k f a E N n m k0) := by unfold nodeP; infer_instance

theorem eq_ways (x c : Int) : x = c ∨ (((x == c) = false ∧ (x != c) = true) ∧ Hid (x ≠ c)) := by
  by_cases h : x = c
  · exact .inl h
  · exact .inr ⟨⟨by simpa using h, by simpa using h⟩, Lib.hid h⟩
theorem nat_ways0 (x : Nat) : x = 0 ∨ ((((x : Int) == 0) = false ∧ ((x : Int) != 0) = true) ∧ ¬ (x : Int) = 0 ∧ Hid (x ≠ 0)) := by
  by_cases h : x = 0
  · exact .inl h
  · exact .inr ⟨⟨by simp; omega, by simp; omega⟩, by omega, Lib.hid h⟩
theorem nat_ways1 (x : Nat) : x = 1 ∨ ((((x : Int) == 1) = false ∧ ((x : Int) != 1) = true) ∧ ¬ (x : Int) = 1 ∧ Hid (x ≠ 1)) := by
  by_cases h : x = 1
  · exact .inl h
  · exact .inr ⟨⟨by simp; omega, by simp; omega⟩, by omega, Lib.hid h⟩
theorem nat_ways2 (x : Nat) : x = 2 ∨ ((((x : Int) == 2) = false ∧ ((x : Int) != 2) = true) ∧ ¬ (x : Int) = 2 ∧ Hid (x ≠ 2)) := by
  by_cases h : x = 2
  · exact .inl h
  · exact .inr ⟨⟨by simp; omega, by simp; omega⟩, by omega, Lib.hid h⟩
theorem a_ways (a : Int) : a = -1 ∨ (((a == -1) = false ∧ (a != -1) = true) ∧ ¬ 0 ≤ a ∧ Hid (a < -1)) ∨ (((a == -1) = false ∧ (a != -1) = true) ∧ (0 ≤ a ∧ a ≤ 15) ∧ Hid (0 ≤ a ∧ a ≤ 15)) ∨ (((a == -1) = false ∧ (a != -1) = true) ∧ (0 ≤ a ∧ ¬ a ≤ 15) ∧ Hid (15 < a)) := by
  by_cases h : a = -1
  · exact .inl h
  · have hb : (a == -1) = false ∧ (a != -1) = true := ⟨by simpa using h, by simpa using h⟩
    by_cases h0 : 0 ≤ a
    · by_cases h15 : a ≤ 15
      · exact .inr (.inr (.inl ⟨hb, ⟨h0, h15⟩, Lib.hid ⟨h0, h15⟩⟩))
      · exact .inr (.inr (.inr ⟨hb, ⟨h0, h15⟩, Lib.hid (by omega)⟩))
    · exact .inr (.inl ⟨hb, h0, Lib.hid (by omega)⟩)


set_option maxHeartbeats 4000000 in
set_option maxRecDepth 100000 in
theorem node_1 (f a : Int) (s : ByteArray) (A B : Option Addr) (n c m d : Nat) (w : World) (z : Int) (E N : Bool) (HE : Hid ((s.toList == []) = E)) (HN : Hid (lx.nameB (lx.bl s) = N)) (HS : Hid (s.size ≤ 9223372036854775807)) (h1 : n ≤ 17592186044416) (h2 : m ≤ 17592186044416)
    (hz : 0 < m → ∃ ad, B = some ad ∧ ad.block < w.heap.size ∧ w.cell? ad = some (.int .i64 z)) :
    Calls Tryz.prog 48 #[.agg #[.int .i64 1, .int .i64 f, .int .i64 a, .string s, .slice A n c, .slice B m d]] w (Say w (decide (nodeP 1 f a E N n m z))) := by
  obtain ⟨W, hW⟩ : ∃ W, W = w.alloc (.cells #[.int .i64 1, .int .i64 f, .int .i64 a, .string s, .slice A n c, .slice B m d] 25) := ⟨_, rfl⟩
  obtain ⟨hb, _, KC⟩ := one_box6 hW
  have HW := Lib.hid hW
  have HB := Lib.hid hb
  have HZ : Hid (0 < m → ∃ ad, B = some ad ∧ (w.alloc (.cells #[.int .i64 1, .int .i64 f, .int .i64 a, .string s, .slice A n c, .slice B m d] 25)).cell? ad = some (.int .i64 z)) := Lib.hid fun h => by
    obtain ⟨ad, e, hl, hc⟩ := hz h
    rw [← hW]
    exact ⟨ad, e, (hb.cell hl).trans hc⟩
  obtain ⟨k0, k1, k2, k3, k4, k5⟩ := KC W (Below.refl _ _)
  have HC : Hid (True) := Lib.hid trivial
  clear hW hb KC hz
  rcases a_ways a with rfl | ⟨a1, a2, a3⟩ | ⟨a1, a2, a3⟩ | ⟨a1, a2, a3⟩
  · skip
    rcases eq_ways f 0 with rfl | ⟨hb, hn⟩
    · have hc := HC.out
      clear hc
      cases E
      case false =>
        have hs := HE.out
        go_enter Tryz.func48, Tryz.ntmps48
        go_wp2_with fail
        rw [← HW.out]
        go_wp2_with fail
        go_ret
        exact ⟨ret_bool (Eq.symm (decide_eq_false (by have hc := HC.out; unfold nodeP; simp; try omega))), HB.out⟩
      case true =>
        have hs := HE.out
        rcases nat_ways0 m with rfl | ⟨hb, hl, hn⟩
        · skip
          go_enter Tryz.func48, Tryz.ntmps48
          go_wp2_with fail
          rw [← HW.out]
          go_wp2_with fail
          go_ret
          exact ⟨ret_bool (Eq.symm (decide_eq_true (by have hc := HC.out; unfold nodeP; simp; try omega))), HB.out⟩
        · replace HC := Lib.hid (And.intro hn.out HC.out)
          clear hn
          go_enter Tryz.func48, Tryz.ntmps48
          go_wp2_with fail
          rw [← HW.out]
          go_wp2_with fail
          go_ret
          exact ⟨ret_bool (Eq.symm (decide_eq_false (by have hc := HC.out; unfold nodeP; simp; try omega))), HB.out⟩
    · replace HC := Lib.hid (And.intro hn.out HC.out)
      clear hn
      go_enter Tryz.func48, Tryz.ntmps48
      go_wp2_with fail
      rw [← HW.out]
      go_wp2_with fail
      go_ret
      exact ⟨ret_bool (Eq.symm (decide_eq_false (by have hc := HC.out; unfold nodeP; simp; try omega))), HB.out⟩
  · skip
    replace HC := Lib.hid (And.intro a3.out HC.out)
    clear a3
    rcases eq_ways f 0 with rfl | ⟨hb, hn⟩
    · have hc := HC.out
      clear hc
      go_enter Tryz.func48, Tryz.ntmps48
      go_wp2_with fail
      rw [← HW.out]
      go_wp2_with fail
      go_ret
      exact ⟨ret_bool (Eq.symm (decide_eq_false (by have hc := HC.out; unfold nodeP; simp; try omega))), HB.out⟩
    · replace HC := Lib.hid (And.intro hn.out HC.out)
      clear hn
      go_enter Tryz.func48, Tryz.ntmps48
      go_wp2_with fail
      rw [← HW.out]
      go_wp2_with fail
      go_ret
      exact ⟨ret_bool (Eq.symm (decide_eq_false (by have hc := HC.out; unfold nodeP; simp; try omega))), HB.out⟩
  · skip
    replace HC := Lib.hid (And.intro a3.out HC.out)
    clear a3
    rcases eq_ways f 0 with rfl | ⟨hb, hn⟩
    · have hc := HC.out
      clear hc
      go_enter Tryz.func48, Tryz.ntmps48
      go_wp2_with fail
      rw [← HW.out]
      go_wp2_with fail
      go_ret
      exact ⟨ret_bool (Eq.symm (decide_eq_false (by have hc := HC.out; unfold nodeP; simp; try omega))), HB.out⟩
    · replace HC := Lib.hid (And.intro hn.out HC.out)
      clear hn
      go_enter Tryz.func48, Tryz.ntmps48
      go_wp2_with fail
      rw [← HW.out]
      go_wp2_with fail
      go_ret
      exact ⟨ret_bool (Eq.symm (decide_eq_false (by have hc := HC.out; unfold nodeP; simp; try omega))), HB.out⟩
  · skip
    replace HC := Lib.hid (And.intro a3.out HC.out)
    clear a3
    rcases eq_ways f 0 with rfl | ⟨hb, hn⟩
    · have hc := HC.out
      clear hc
      go_enter Tryz.func48, Tryz.ntmps48
      go_wp2_with fail
      rw [← HW.out]
      go_wp2_with fail
      go_ret
      exact ⟨ret_bool (Eq.symm (decide_eq_false (by have hc := HC.out; unfold nodeP; simp; try omega))), HB.out⟩
    · replace HC := Lib.hid (And.intro hn.out HC.out)
      clear hn
      go_enter Tryz.func48, Tryz.ntmps48
      go_wp2_with fail
      rw [← HW.out]
      go_wp2_with fail
      go_ret
      exact ⟨ret_bool (Eq.symm (decide_eq_false (by have hc := HC.out; unfold nodeP; simp; try omega))), HB.out⟩

set_option maxHeartbeats 4000000 in
set_option maxRecDepth 100000 in
theorem node_2 (f a : Int) (s : ByteArray) (A B : Option Addr) (n c m d : Nat) (w : World) (z : Int) (E N : Bool) (HE : Hid ((s.toList == []) = E)) (HN : Hid (lx.nameB (lx.bl s) = N)) (HS : Hid (s.size ≤ 9223372036854775807)) (h1 : n ≤ 17592186044416) (h2 : m ≤ 17592186044416)
    (hz : 0 < m → ∃ ad, B = some ad ∧ ad.block < w.heap.size ∧ w.cell? ad = some (.int .i64 z)) :
    Calls Tryz.prog 48 #[.agg #[.int .i64 2, .int .i64 f, .int .i64 a, .string s, .slice A n c, .slice B m d]] w (Say w (decide (nodeP 2 f a E N n m z))) := by
  obtain ⟨W, hW⟩ : ∃ W, W = w.alloc (.cells #[.int .i64 2, .int .i64 f, .int .i64 a, .string s, .slice A n c, .slice B m d] 25) := ⟨_, rfl⟩
  obtain ⟨hb, _, KC⟩ := one_box6 hW
  have HW := Lib.hid hW
  have HB := Lib.hid hb
  have HZ : Hid (0 < m → ∃ ad, B = some ad ∧ (w.alloc (.cells #[.int .i64 2, .int .i64 f, .int .i64 a, .string s, .slice A n c, .slice B m d] 25)).cell? ad = some (.int .i64 z)) := Lib.hid fun h => by
    obtain ⟨ad, e, hl, hc⟩ := hz h
    rw [← hW]
    exact ⟨ad, e, (hb.cell hl).trans hc⟩
  obtain ⟨k0, k1, k2, k3, k4, k5⟩ := KC W (Below.refl _ _)
  have HC : Hid (True) := Lib.hid trivial
  clear hW hb KC hz
  rcases a_ways a with rfl | ⟨a1, a2, a3⟩ | ⟨a1, a2, a3⟩ | ⟨a1, a2, a3⟩
  · skip
    rcases eq_ways f 0 with rfl | ⟨hb, hn⟩
    · have hc := HC.out
      clear hc
      cases N
      case false =>
        have hs := HN.out
        go_enter Tryz.func48, Tryz.ntmps48
        go_wp2_with fail
        rw [← HW.out]
        go_wp2_with fail
        refine (lx.refName_any s _ HS.out).mono ?_
        rintro e w' ⟨rfl, rfl⟩
        rw [HN.out]
        go_wp2_with fail
        go_ret
        exact ⟨ret_bool (Eq.symm (decide_eq_false (by have hc := HC.out; unfold nodeP; simp; try omega))), HB.out⟩
      case true =>
        have hs := HN.out
        rcases nat_ways0 n with rfl | ⟨hb, hl, hn⟩
        · skip
          rcases nat_ways0 m with rfl | ⟨hb, hl, hn⟩
          · skip
            go_enter Tryz.func48, Tryz.ntmps48
            go_wp2_with fail
            rw [← HW.out]
            go_wp2_with fail
            refine (lx.refName_any s _ HS.out).mono ?_
            rintro e w' ⟨rfl, rfl⟩
            rw [HN.out]
            go_wp2_with fail
            go_ret
            exact ⟨ret_bool (Eq.symm (decide_eq_true (by have hc := HC.out; unfold nodeP; simp; try omega))), HB.out⟩
          · replace HC := Lib.hid (And.intro hn.out HC.out)
            clear hn
            go_enter Tryz.func48, Tryz.ntmps48
            go_wp2_with fail
            rw [← HW.out]
            go_wp2_with fail
            refine (lx.refName_any s _ HS.out).mono ?_
            rintro e w' ⟨rfl, rfl⟩
            rw [HN.out]
            go_wp2_with fail
            go_ret
            exact ⟨ret_bool (Eq.symm (decide_eq_false (by have hc := HC.out; unfold nodeP; simp; try omega))), HB.out⟩
        · replace HC := Lib.hid (And.intro hn.out HC.out)
          clear hn
          go_enter Tryz.func48, Tryz.ntmps48
          go_wp2_with fail
          rw [← HW.out]
          go_wp2_with fail
          refine (lx.refName_any s _ HS.out).mono ?_
          rintro e w' ⟨rfl, rfl⟩
          rw [HN.out]
          go_wp2_with fail
          go_ret
          exact ⟨ret_bool (Eq.symm (decide_eq_false (by have hc := HC.out; unfold nodeP; simp; try omega))), HB.out⟩
    · replace HC := Lib.hid (And.intro hn.out HC.out)
      clear hn
      go_enter Tryz.func48, Tryz.ntmps48
      go_wp2_with fail
      rw [← HW.out]
      go_wp2_with fail
      go_ret
      exact ⟨ret_bool (Eq.symm (decide_eq_false (by have hc := HC.out; unfold nodeP; simp; try omega))), HB.out⟩
  · skip
    replace HC := Lib.hid (And.intro a3.out HC.out)
    clear a3
    rcases eq_ways f 0 with rfl | ⟨hb, hn⟩
    · have hc := HC.out
      clear hc
      go_enter Tryz.func48, Tryz.ntmps48
      go_wp2_with fail
      rw [← HW.out]
      go_wp2_with fail
      go_ret
      exact ⟨ret_bool (Eq.symm (decide_eq_false (by have hc := HC.out; unfold nodeP; simp; try omega))), HB.out⟩
    · replace HC := Lib.hid (And.intro hn.out HC.out)
      clear hn
      go_enter Tryz.func48, Tryz.ntmps48
      go_wp2_with fail
      rw [← HW.out]
      go_wp2_with fail
      go_ret
      exact ⟨ret_bool (Eq.symm (decide_eq_false (by have hc := HC.out; unfold nodeP; simp; try omega))), HB.out⟩
  · skip
    replace HC := Lib.hid (And.intro a3.out HC.out)
    clear a3
    rcases eq_ways f 0 with rfl | ⟨hb, hn⟩
    · have hc := HC.out
      clear hc
      go_enter Tryz.func48, Tryz.ntmps48
      go_wp2_with fail
      rw [← HW.out]
      go_wp2_with fail
      go_ret
      exact ⟨ret_bool (Eq.symm (decide_eq_false (by have hc := HC.out; unfold nodeP; simp; try omega))), HB.out⟩
    · replace HC := Lib.hid (And.intro hn.out HC.out)
      clear hn
      go_enter Tryz.func48, Tryz.ntmps48
      go_wp2_with fail
      rw [← HW.out]
      go_wp2_with fail
      go_ret
      exact ⟨ret_bool (Eq.symm (decide_eq_false (by have hc := HC.out; unfold nodeP; simp; try omega))), HB.out⟩
  · skip
    replace HC := Lib.hid (And.intro a3.out HC.out)
    clear a3
    rcases eq_ways f 0 with rfl | ⟨hb, hn⟩
    · have hc := HC.out
      clear hc
      go_enter Tryz.func48, Tryz.ntmps48
      go_wp2_with fail
      rw [← HW.out]
      go_wp2_with fail
      go_ret
      exact ⟨ret_bool (Eq.symm (decide_eq_false (by have hc := HC.out; unfold nodeP; simp; try omega))), HB.out⟩
    · replace HC := Lib.hid (And.intro hn.out HC.out)
      clear hn
      go_enter Tryz.func48, Tryz.ntmps48
      go_wp2_with fail
      rw [← HW.out]
      go_wp2_with fail
      go_ret
      exact ⟨ret_bool (Eq.symm (decide_eq_false (by have hc := HC.out; unfold nodeP; simp; try omega))), HB.out⟩

set_option maxHeartbeats 4000000 in
set_option maxRecDepth 100000 in
theorem node_3 (f a : Int) (s : ByteArray) (A B : Option Addr) (n c m d : Nat) (w : World) (z : Int) (E N : Bool) (HE : Hid ((s.toList == []) = E)) (HN : Hid (lx.nameB (lx.bl s) = N)) (HS : Hid (s.size ≤ 9223372036854775807)) (h1 : n ≤ 17592186044416) (h2 : m ≤ 17592186044416)
    (hz : 0 < m → ∃ ad, B = some ad ∧ ad.block < w.heap.size ∧ w.cell? ad = some (.int .i64 z)) :
    Calls Tryz.prog 48 #[.agg #[.int .i64 3, .int .i64 f, .int .i64 a, .string s, .slice A n c, .slice B m d]] w (Say w (decide (nodeP 3 f a E N n m z))) := by
  obtain ⟨W, hW⟩ : ∃ W, W = w.alloc (.cells #[.int .i64 3, .int .i64 f, .int .i64 a, .string s, .slice A n c, .slice B m d] 25) := ⟨_, rfl⟩
  obtain ⟨hb, _, KC⟩ := one_box6 hW
  have HW := Lib.hid hW
  have HB := Lib.hid hb
  have HZ : Hid (0 < m → ∃ ad, B = some ad ∧ (w.alloc (.cells #[.int .i64 3, .int .i64 f, .int .i64 a, .string s, .slice A n c, .slice B m d] 25)).cell? ad = some (.int .i64 z)) := Lib.hid fun h => by
    obtain ⟨ad, e, hl, hc⟩ := hz h
    rw [← hW]
    exact ⟨ad, e, (hb.cell hl).trans hc⟩
  obtain ⟨k0, k1, k2, k3, k4, k5⟩ := KC W (Below.refl _ _)
  have HC : Hid (True) := Lib.hid trivial
  clear hW hb KC hz
  rcases a_ways a with rfl | ⟨a1, a2, a3⟩ | ⟨a1, a2, a3⟩ | ⟨a1, a2, a3⟩
  · skip
    cases E
    case false =>
      have hs := HE.out
      go_enter Tryz.func48, Tryz.ntmps48
      go_wp2_with fail
      rw [← HW.out]
      go_wp2_with fail
      go_ret
      exact ⟨ret_bool (Eq.symm (decide_eq_false (by have hc := HC.out; unfold nodeP; simp; try omega))), HB.out⟩
    case true =>
      have hs := HE.out
      rcases nat_ways0 n with rfl | ⟨hb, hl, hn⟩
      · skip
        rcases nat_ways1 m with rfl | ⟨hb, hl, hn⟩
        · skip
          rcases eq_ways f 3 with rfl | ⟨hb, hn⟩
          · have hc := HC.out
            clear hc
            go_enter Tryz.func48, Tryz.ntmps48
            go_wp2_with fail
            rw [← HW.out]
            go_wp2_with fail
            go_ret
            exact ⟨ret_bool (Eq.symm (decide_eq_true (by have hc := HC.out; unfold nodeP; simp; try omega))), HB.out⟩
          · replace HC := Lib.hid (And.intro hn.out HC.out)
            clear hn
            rcases eq_ways f 4 with rfl | ⟨hb, hn⟩
            · have hc := HC.out
              clear hc
              go_enter Tryz.func48, Tryz.ntmps48
              go_wp2_with fail
              rw [← HW.out]
              go_wp2_with fail
              go_ret
              exact ⟨ret_bool (Eq.symm (decide_eq_true (by have hc := HC.out; unfold nodeP; simp; try omega))), HB.out⟩
            · replace HC := Lib.hid (And.intro hn.out HC.out)
              clear hn
              rcases eq_ways f 6 with rfl | ⟨hb, hn⟩
              · have hc := HC.out
                clear hc
                go_enter Tryz.func48, Tryz.ntmps48
                go_wp2_with fail
                rw [← HW.out]
                go_wp2_with fail
                go_ret
                exact ⟨ret_bool (Eq.symm (decide_eq_true (by have hc := HC.out; unfold nodeP; simp; try omega))), HB.out⟩
              · replace HC := Lib.hid (And.intro hn.out HC.out)
                clear hn
                go_enter Tryz.func48, Tryz.ntmps48
                go_wp2_with fail
                rw [← HW.out]
                go_wp2_with fail
                go_ret
                exact ⟨ret_bool (Eq.symm (decide_eq_false (by have hc := HC.out; unfold nodeP; simp; try omega))), HB.out⟩
        · replace HC := Lib.hid (And.intro hn.out HC.out)
          clear hn
          go_enter Tryz.func48, Tryz.ntmps48
          go_wp2_with fail
          rw [← HW.out]
          go_wp2_with fail
          go_ret
          exact ⟨ret_bool (Eq.symm (decide_eq_false (by have hc := HC.out; unfold nodeP; simp; try omega))), HB.out⟩
      · replace HC := Lib.hid (And.intro hn.out HC.out)
        clear hn
        go_enter Tryz.func48, Tryz.ntmps48
        go_wp2_with fail
        rw [← HW.out]
        go_wp2_with fail
        go_ret
        exact ⟨ret_bool (Eq.symm (decide_eq_false (by have hc := HC.out; unfold nodeP; simp; try omega))), HB.out⟩
  · skip
    replace HC := Lib.hid (And.intro a3.out HC.out)
    clear a3
    cases E
    case false =>
      have hs := HE.out
      go_enter Tryz.func48, Tryz.ntmps48
      go_wp2_with fail
      rw [← HW.out]
      go_wp2_with fail
      go_ret
      exact ⟨ret_bool (Eq.symm (decide_eq_false (by have hc := HC.out; unfold nodeP; simp; try omega))), HB.out⟩
    case true =>
      have hs := HE.out
      rcases nat_ways0 n with rfl | ⟨hb, hl, hn⟩
      · skip
        rcases nat_ways1 m with rfl | ⟨hb, hl, hn⟩
        · skip
          rcases eq_ways f 3 with rfl | ⟨hb, hn⟩
          · have hc := HC.out
            clear hc
            go_enter Tryz.func48, Tryz.ntmps48
            go_wp2_with fail
            rw [← HW.out]
            go_wp2_with fail
            go_ret
            exact ⟨ret_bool (Eq.symm (decide_eq_false (by have hc := HC.out; unfold nodeP; simp; try omega))), HB.out⟩
          · replace HC := Lib.hid (And.intro hn.out HC.out)
            clear hn
            rcases eq_ways f 4 with rfl | ⟨hb, hn⟩
            · have hc := HC.out
              clear hc
              go_enter Tryz.func48, Tryz.ntmps48
              go_wp2_with fail
              rw [← HW.out]
              go_wp2_with fail
              go_ret
              exact ⟨ret_bool (Eq.symm (decide_eq_false (by have hc := HC.out; unfold nodeP; simp; try omega))), HB.out⟩
            · replace HC := Lib.hid (And.intro hn.out HC.out)
              clear hn
              rcases eq_ways f 6 with rfl | ⟨hb, hn⟩
              · have hc := HC.out
                clear hc
                go_enter Tryz.func48, Tryz.ntmps48
                go_wp2_with fail
                rw [← HW.out]
                go_wp2_with fail
                go_ret
                exact ⟨ret_bool (Eq.symm (decide_eq_false (by have hc := HC.out; unfold nodeP; simp; try omega))), HB.out⟩
              · replace HC := Lib.hid (And.intro hn.out HC.out)
                clear hn
                go_enter Tryz.func48, Tryz.ntmps48
                go_wp2_with fail
                rw [← HW.out]
                go_wp2_with fail
                go_ret
                exact ⟨ret_bool (Eq.symm (decide_eq_false (by have hc := HC.out; unfold nodeP; simp; try omega))), HB.out⟩
        · replace HC := Lib.hid (And.intro hn.out HC.out)
          clear hn
          go_enter Tryz.func48, Tryz.ntmps48
          go_wp2_with fail
          rw [← HW.out]
          go_wp2_with fail
          go_ret
          exact ⟨ret_bool (Eq.symm (decide_eq_false (by have hc := HC.out; unfold nodeP; simp; try omega))), HB.out⟩
      · replace HC := Lib.hid (And.intro hn.out HC.out)
        clear hn
        go_enter Tryz.func48, Tryz.ntmps48
        go_wp2_with fail
        rw [← HW.out]
        go_wp2_with fail
        go_ret
        exact ⟨ret_bool (Eq.symm (decide_eq_false (by have hc := HC.out; unfold nodeP; simp; try omega))), HB.out⟩
  · skip
    replace HC := Lib.hid (And.intro a3.out HC.out)
    clear a3
    cases E
    case false =>
      have hs := HE.out
      go_enter Tryz.func48, Tryz.ntmps48
      go_wp2_with fail
      rw [← HW.out]
      go_wp2_with fail
      go_ret
      exact ⟨ret_bool (Eq.symm (decide_eq_false (by have hc := HC.out; unfold nodeP; simp; try omega))), HB.out⟩
    case true =>
      have hs := HE.out
      rcases nat_ways0 n with rfl | ⟨hb, hl, hn⟩
      · skip
        rcases nat_ways1 m with rfl | ⟨hb, hl, hn⟩
        · skip
          rcases eq_ways f 3 with rfl | ⟨hb, hn⟩
          · have hc := HC.out
            clear hc
            go_enter Tryz.func48, Tryz.ntmps48
            go_wp2_with fail
            rw [← HW.out]
            go_wp2_with fail
            go_ret
            exact ⟨ret_bool (Eq.symm (decide_eq_true (by have hc := HC.out; unfold nodeP; simp; try omega))), HB.out⟩
          · replace HC := Lib.hid (And.intro hn.out HC.out)
            clear hn
            rcases eq_ways f 4 with rfl | ⟨hb, hn⟩
            · have hc := HC.out
              clear hc
              go_enter Tryz.func48, Tryz.ntmps48
              go_wp2_with fail
              rw [← HW.out]
              go_wp2_with fail
              go_ret
              exact ⟨ret_bool (Eq.symm (decide_eq_false (by have hc := HC.out; unfold nodeP; simp; try omega))), HB.out⟩
            · replace HC := Lib.hid (And.intro hn.out HC.out)
              clear hn
              rcases eq_ways f 6 with rfl | ⟨hb, hn⟩
              · have hc := HC.out
                clear hc
                go_enter Tryz.func48, Tryz.ntmps48
                go_wp2_with fail
                rw [← HW.out]
                go_wp2_with fail
                go_ret
                exact ⟨ret_bool (Eq.symm (decide_eq_false (by have hc := HC.out; unfold nodeP; simp; try omega))), HB.out⟩
              · replace HC := Lib.hid (And.intro hn.out HC.out)
                clear hn
                go_enter Tryz.func48, Tryz.ntmps48
                go_wp2_with fail
                rw [← HW.out]
                go_wp2_with fail
                go_ret
                exact ⟨ret_bool (Eq.symm (decide_eq_false (by have hc := HC.out; unfold nodeP; simp; try omega))), HB.out⟩
        · replace HC := Lib.hid (And.intro hn.out HC.out)
          clear hn
          go_enter Tryz.func48, Tryz.ntmps48
          go_wp2_with fail
          rw [← HW.out]
          go_wp2_with fail
          go_ret
          exact ⟨ret_bool (Eq.symm (decide_eq_false (by have hc := HC.out; unfold nodeP; simp; try omega))), HB.out⟩
      · replace HC := Lib.hid (And.intro hn.out HC.out)
        clear hn
        go_enter Tryz.func48, Tryz.ntmps48
        go_wp2_with fail
        rw [← HW.out]
        go_wp2_with fail
        go_ret
        exact ⟨ret_bool (Eq.symm (decide_eq_false (by have hc := HC.out; unfold nodeP; simp; try omega))), HB.out⟩
  · skip
    replace HC := Lib.hid (And.intro a3.out HC.out)
    clear a3
    cases E
    case false =>
      have hs := HE.out
      go_enter Tryz.func48, Tryz.ntmps48
      go_wp2_with fail
      rw [← HW.out]
      go_wp2_with fail
      go_ret
      exact ⟨ret_bool (Eq.symm (decide_eq_false (by have hc := HC.out; unfold nodeP; simp; try omega))), HB.out⟩
    case true =>
      have hs := HE.out
      rcases nat_ways0 n with rfl | ⟨hb, hl, hn⟩
      · skip
        rcases nat_ways1 m with rfl | ⟨hb, hl, hn⟩
        · skip
          rcases eq_ways f 3 with rfl | ⟨hb, hn⟩
          · have hc := HC.out
            clear hc
            go_enter Tryz.func48, Tryz.ntmps48
            go_wp2_with fail
            rw [← HW.out]
            go_wp2_with fail
            go_ret
            exact ⟨ret_bool (Eq.symm (decide_eq_false (by have hc := HC.out; unfold nodeP; simp; try omega))), HB.out⟩
          · replace HC := Lib.hid (And.intro hn.out HC.out)
            clear hn
            rcases eq_ways f 4 with rfl | ⟨hb, hn⟩
            · have hc := HC.out
              clear hc
              go_enter Tryz.func48, Tryz.ntmps48
              go_wp2_with fail
              rw [← HW.out]
              go_wp2_with fail
              go_ret
              exact ⟨ret_bool (Eq.symm (decide_eq_false (by have hc := HC.out; unfold nodeP; simp; try omega))), HB.out⟩
            · replace HC := Lib.hid (And.intro hn.out HC.out)
              clear hn
              rcases eq_ways f 6 with rfl | ⟨hb, hn⟩
              · have hc := HC.out
                clear hc
                go_enter Tryz.func48, Tryz.ntmps48
                go_wp2_with fail
                rw [← HW.out]
                go_wp2_with fail
                go_ret
                exact ⟨ret_bool (Eq.symm (decide_eq_false (by have hc := HC.out; unfold nodeP; simp; try omega))), HB.out⟩
              · replace HC := Lib.hid (And.intro hn.out HC.out)
                clear hn
                go_enter Tryz.func48, Tryz.ntmps48
                go_wp2_with fail
                rw [← HW.out]
                go_wp2_with fail
                go_ret
                exact ⟨ret_bool (Eq.symm (decide_eq_false (by have hc := HC.out; unfold nodeP; simp; try omega))), HB.out⟩
        · replace HC := Lib.hid (And.intro hn.out HC.out)
          clear hn
          go_enter Tryz.func48, Tryz.ntmps48
          go_wp2_with fail
          rw [← HW.out]
          go_wp2_with fail
          go_ret
          exact ⟨ret_bool (Eq.symm (decide_eq_false (by have hc := HC.out; unfold nodeP; simp; try omega))), HB.out⟩
      · replace HC := Lib.hid (And.intro hn.out HC.out)
        clear hn
        go_enter Tryz.func48, Tryz.ntmps48
        go_wp2_with fail
        rw [← HW.out]
        go_wp2_with fail
        go_ret
        exact ⟨ret_bool (Eq.symm (decide_eq_false (by have hc := HC.out; unfold nodeP; simp; try omega))), HB.out⟩

set_option maxHeartbeats 4000000 in
set_option maxRecDepth 100000 in
theorem node_4 (f a : Int) (s : ByteArray) (A B : Option Addr) (n c m d : Nat) (w : World) (z : Int) (E N : Bool) (HE : Hid ((s.toList == []) = E)) (HN : Hid (lx.nameB (lx.bl s) = N)) (HS : Hid (s.size ≤ 9223372036854775807)) (h1 : n ≤ 17592186044416) (h2 : m ≤ 17592186044416)
    (hz : 0 < m → ∃ ad, B = some ad ∧ ad.block < w.heap.size ∧ w.cell? ad = some (.int .i64 z)) :
    Calls Tryz.prog 48 #[.agg #[.int .i64 4, .int .i64 f, .int .i64 a, .string s, .slice A n c, .slice B m d]] w (Say w (decide (nodeP 4 f a E N n m z))) := by
  obtain ⟨W, hW⟩ : ∃ W, W = w.alloc (.cells #[.int .i64 4, .int .i64 f, .int .i64 a, .string s, .slice A n c, .slice B m d] 25) := ⟨_, rfl⟩
  obtain ⟨hb, _, KC⟩ := one_box6 hW
  have HW := Lib.hid hW
  have HB := Lib.hid hb
  have HZ : Hid (0 < m → ∃ ad, B = some ad ∧ (w.alloc (.cells #[.int .i64 4, .int .i64 f, .int .i64 a, .string s, .slice A n c, .slice B m d] 25)).cell? ad = some (.int .i64 z)) := Lib.hid fun h => by
    obtain ⟨ad, e, hl, hc⟩ := hz h
    rw [← hW]
    exact ⟨ad, e, (hb.cell hl).trans hc⟩
  obtain ⟨k0, k1, k2, k3, k4, k5⟩ := KC W (Below.refl _ _)
  have HC : Hid (True) := Lib.hid trivial
  clear hW hb KC hz
  rcases a_ways a with rfl | ⟨a1, a2, a3⟩ | ⟨a1, a2, a3⟩ | ⟨a1, a2, a3⟩
  · skip
    cases E
    case false =>
      have hs := HE.out
      go_enter Tryz.func48, Tryz.ntmps48
      go_wp2_with fail
      rw [← HW.out]
      go_wp2_with fail
      go_ret
      exact ⟨ret_bool (Eq.symm (decide_eq_false (by have hc := HC.out; unfold nodeP; simp; try omega))), HB.out⟩
    case true =>
      have hs := HE.out
      rcases nat_ways0 n with rfl | ⟨hb, hl, hn⟩
      · skip
        rcases nat_ways2 m with rfl | ⟨hb, hl, hn⟩
        · skip
          obtain ⟨ad, rfl, hz⟩ := HZ.out (by omega)
          by_cases f1 : f < 1
          · replace HC := Lib.hid (And.intro f1 HC.out)
            go_enter Tryz.func48, Tryz.ntmps48
            go_wp2_with fail
            rw [← HW.out]
            go_wp2_with fail
            go_ret
            exact ⟨ret_bool (Eq.symm (decide_eq_false (by have hc := HC.out; unfold nodeP; simp; try omega))), HB.out⟩
          · by_cases f6 : 6 < f
            · replace HC := Lib.hid (And.intro f6 HC.out)
              go_enter Tryz.func48, Tryz.ntmps48
              go_wp2_with fail
              rw [← HW.out]
              go_wp2_with fail
              go_ret
              exact ⟨ret_bool (Eq.symm (decide_eq_false (by have hc := HC.out; unfold nodeP; simp; try omega))), HB.out⟩
            · replace HC := Lib.hid (And.intro f1 (And.intro f6 HC.out))
              rcases eq_ways f 6 with rfl | ⟨hb, hn⟩
              · have hc := HC.out
                clear hc
                go_enter Tryz.func48, Tryz.ntmps48
                go_wp2_with fail
                rw [← HW.out]
                go_wp2_with fail
                go_ret
                exact ⟨ret_bool (Eq.symm (decide_eq_true (by have hc := HC.out; unfold nodeP; simp; try omega))), HB.out⟩
              · replace HC := Lib.hid (And.intro hn.out HC.out)
                clear hn
                rcases eq_ways z 1 with rfl | ⟨hb, hn⟩
                · have hc := HC.out
                  clear hc
                  go_enter Tryz.func48, Tryz.ntmps48
                  go_wp2_with fail
                  rw [← HW.out]
                  go_wp2_with fail
                  go_ret
                  exact ⟨ret_bool (Eq.symm (decide_eq_true (by have hc := HC.out; unfold nodeP; simp; try omega))), HB.out⟩
                · replace HC := Lib.hid (And.intro hn.out HC.out)
                  clear hn
                  rcases eq_ways z 2 with rfl | ⟨hb, hn⟩
                  · have hc := HC.out
                    clear hc
                    go_enter Tryz.func48, Tryz.ntmps48
                    go_wp2_with fail
                    rw [← HW.out]
                    go_wp2_with fail
                    go_ret
                    exact ⟨ret_bool (Eq.symm (decide_eq_true (by have hc := HC.out; unfold nodeP; simp; try omega))), HB.out⟩
                  · replace HC := Lib.hid (And.intro hn.out HC.out)
                    clear hn
                    go_enter Tryz.func48, Tryz.ntmps48
                    go_wp2_with fail
                    rw [← HW.out]
                    go_wp2_with fail
                    go_ret
                    exact ⟨ret_bool (Eq.symm (decide_eq_false (by have hc := HC.out; unfold nodeP; simp; try omega))), HB.out⟩
        · replace HC := Lib.hid (And.intro hn.out HC.out)
          clear hn
          go_enter Tryz.func48, Tryz.ntmps48
          go_wp2_with fail
          rw [← HW.out]
          go_wp2_with fail
          go_ret
          exact ⟨ret_bool (Eq.symm (decide_eq_false (by have hc := HC.out; unfold nodeP; simp; try omega))), HB.out⟩
      · replace HC := Lib.hid (And.intro hn.out HC.out)
        clear hn
        go_enter Tryz.func48, Tryz.ntmps48
        go_wp2_with fail
        rw [← HW.out]
        go_wp2_with fail
        go_ret
        exact ⟨ret_bool (Eq.symm (decide_eq_false (by have hc := HC.out; unfold nodeP; simp; try omega))), HB.out⟩
  · skip
    replace HC := Lib.hid (And.intro a3.out HC.out)
    clear a3
    cases E
    case false =>
      have hs := HE.out
      go_enter Tryz.func48, Tryz.ntmps48
      go_wp2_with fail
      rw [← HW.out]
      go_wp2_with fail
      go_ret
      exact ⟨ret_bool (Eq.symm (decide_eq_false (by have hc := HC.out; unfold nodeP; simp; try omega))), HB.out⟩
    case true =>
      have hs := HE.out
      rcases nat_ways0 n with rfl | ⟨hb, hl, hn⟩
      · skip
        rcases nat_ways2 m with rfl | ⟨hb, hl, hn⟩
        · skip
          obtain ⟨ad, rfl, hz⟩ := HZ.out (by omega)
          by_cases f1 : f < 1
          · replace HC := Lib.hid (And.intro f1 HC.out)
            go_enter Tryz.func48, Tryz.ntmps48
            go_wp2_with fail
            rw [← HW.out]
            go_wp2_with fail
            go_ret
            exact ⟨ret_bool (Eq.symm (decide_eq_false (by have hc := HC.out; unfold nodeP; simp; try omega))), HB.out⟩
          · by_cases f6 : 6 < f
            · replace HC := Lib.hid (And.intro f6 HC.out)
              go_enter Tryz.func48, Tryz.ntmps48
              go_wp2_with fail
              rw [← HW.out]
              go_wp2_with fail
              go_ret
              exact ⟨ret_bool (Eq.symm (decide_eq_false (by have hc := HC.out; unfold nodeP; simp; try omega))), HB.out⟩
            · replace HC := Lib.hid (And.intro f1 (And.intro f6 HC.out))
              go_enter Tryz.func48, Tryz.ntmps48
              go_wp2_with fail
              rw [← HW.out]
              go_wp2_with fail
              go_ret
              exact ⟨ret_bool (Eq.symm (decide_eq_false (by have hc := HC.out; unfold nodeP; simp; try omega))), HB.out⟩
        · replace HC := Lib.hid (And.intro hn.out HC.out)
          clear hn
          go_enter Tryz.func48, Tryz.ntmps48
          go_wp2_with fail
          rw [← HW.out]
          go_wp2_with fail
          go_ret
          exact ⟨ret_bool (Eq.symm (decide_eq_false (by have hc := HC.out; unfold nodeP; simp; try omega))), HB.out⟩
      · replace HC := Lib.hid (And.intro hn.out HC.out)
        clear hn
        go_enter Tryz.func48, Tryz.ntmps48
        go_wp2_with fail
        rw [← HW.out]
        go_wp2_with fail
        go_ret
        exact ⟨ret_bool (Eq.symm (decide_eq_false (by have hc := HC.out; unfold nodeP; simp; try omega))), HB.out⟩
  · skip
    replace HC := Lib.hid (And.intro a3.out HC.out)
    clear a3
    cases E
    case false =>
      have hs := HE.out
      go_enter Tryz.func48, Tryz.ntmps48
      go_wp2_with fail
      rw [← HW.out]
      go_wp2_with fail
      go_ret
      exact ⟨ret_bool (Eq.symm (decide_eq_false (by have hc := HC.out; unfold nodeP; simp; try omega))), HB.out⟩
    case true =>
      have hs := HE.out
      rcases nat_ways0 n with rfl | ⟨hb, hl, hn⟩
      · skip
        rcases nat_ways2 m with rfl | ⟨hb, hl, hn⟩
        · skip
          obtain ⟨ad, rfl, hz⟩ := HZ.out (by omega)
          by_cases f1 : f < 1
          · replace HC := Lib.hid (And.intro f1 HC.out)
            go_enter Tryz.func48, Tryz.ntmps48
            go_wp2_with fail
            rw [← HW.out]
            go_wp2_with fail
            go_ret
            exact ⟨ret_bool (Eq.symm (decide_eq_false (by have hc := HC.out; unfold nodeP; simp; try omega))), HB.out⟩
          · by_cases f6 : 6 < f
            · replace HC := Lib.hid (And.intro f6 HC.out)
              go_enter Tryz.func48, Tryz.ntmps48
              go_wp2_with fail
              rw [← HW.out]
              go_wp2_with fail
              go_ret
              exact ⟨ret_bool (Eq.symm (decide_eq_false (by have hc := HC.out; unfold nodeP; simp; try omega))), HB.out⟩
            · replace HC := Lib.hid (And.intro f1 (And.intro f6 HC.out))
              rcases eq_ways f 6 with rfl | ⟨hb, hn⟩
              · have hc := HC.out
                clear hc
                go_enter Tryz.func48, Tryz.ntmps48
                go_wp2_with fail
                rw [← HW.out]
                go_wp2_with fail
                go_ret
                exact ⟨ret_bool (Eq.symm (decide_eq_true (by have hc := HC.out; unfold nodeP; simp; try omega))), HB.out⟩
              · replace HC := Lib.hid (And.intro hn.out HC.out)
                clear hn
                rcases eq_ways f 3 with rfl | ⟨hb, hn⟩
                · have hc := HC.out
                  clear hc
                  rcases eq_ways z 1 with rfl | ⟨hb, hn⟩
                  · have hc := HC.out
                    clear hc
                    go_enter Tryz.func48, Tryz.ntmps48
                    go_wp2_with fail
                    rw [← HW.out]
                    go_wp2_with fail
                    go_ret
                    exact ⟨ret_bool (Eq.symm (decide_eq_true (by have hc := HC.out; unfold nodeP; simp; try omega))), HB.out⟩
                  · replace HC := Lib.hid (And.intro hn.out HC.out)
                    clear hn
                    rcases eq_ways z 2 with rfl | ⟨hb, hn⟩
                    · have hc := HC.out
                      clear hc
                      go_enter Tryz.func48, Tryz.ntmps48
                      go_wp2_with fail
                      rw [← HW.out]
                      go_wp2_with fail
                      go_ret
                      exact ⟨ret_bool (Eq.symm (decide_eq_true (by have hc := HC.out; unfold nodeP; simp; try omega))), HB.out⟩
                    · replace HC := Lib.hid (And.intro hn.out HC.out)
                      clear hn
                      go_enter Tryz.func48, Tryz.ntmps48
                      go_wp2_with fail
                      rw [← HW.out]
                      go_wp2_with fail
                      go_ret
                      exact ⟨ret_bool (Eq.symm (decide_eq_false (by have hc := HC.out; unfold nodeP; simp; try omega))), HB.out⟩
                · replace HC := Lib.hid (And.intro hn.out HC.out)
                  clear hn
                  go_enter Tryz.func48, Tryz.ntmps48
                  go_wp2_with fail
                  rw [← HW.out]
                  go_wp2_with fail
                  go_ret
                  exact ⟨ret_bool (Eq.symm (decide_eq_false (by have hc := HC.out; unfold nodeP; simp; try omega))), HB.out⟩
        · replace HC := Lib.hid (And.intro hn.out HC.out)
          clear hn
          go_enter Tryz.func48, Tryz.ntmps48
          go_wp2_with fail
          rw [← HW.out]
          go_wp2_with fail
          go_ret
          exact ⟨ret_bool (Eq.symm (decide_eq_false (by have hc := HC.out; unfold nodeP; simp; try omega))), HB.out⟩
      · replace HC := Lib.hid (And.intro hn.out HC.out)
        clear hn
        go_enter Tryz.func48, Tryz.ntmps48
        go_wp2_with fail
        rw [← HW.out]
        go_wp2_with fail
        go_ret
        exact ⟨ret_bool (Eq.symm (decide_eq_false (by have hc := HC.out; unfold nodeP; simp; try omega))), HB.out⟩
  · skip
    replace HC := Lib.hid (And.intro a3.out HC.out)
    clear a3
    cases E
    case false =>
      have hs := HE.out
      go_enter Tryz.func48, Tryz.ntmps48
      go_wp2_with fail
      rw [← HW.out]
      go_wp2_with fail
      go_ret
      exact ⟨ret_bool (Eq.symm (decide_eq_false (by have hc := HC.out; unfold nodeP; simp; try omega))), HB.out⟩
    case true =>
      have hs := HE.out
      rcases nat_ways0 n with rfl | ⟨hb, hl, hn⟩
      · skip
        rcases nat_ways2 m with rfl | ⟨hb, hl, hn⟩
        · skip
          obtain ⟨ad, rfl, hz⟩ := HZ.out (by omega)
          by_cases f1 : f < 1
          · replace HC := Lib.hid (And.intro f1 HC.out)
            go_enter Tryz.func48, Tryz.ntmps48
            go_wp2_with fail
            rw [← HW.out]
            go_wp2_with fail
            go_ret
            exact ⟨ret_bool (Eq.symm (decide_eq_false (by have hc := HC.out; unfold nodeP; simp; try omega))), HB.out⟩
          · by_cases f6 : 6 < f
            · replace HC := Lib.hid (And.intro f6 HC.out)
              go_enter Tryz.func48, Tryz.ntmps48
              go_wp2_with fail
              rw [← HW.out]
              go_wp2_with fail
              go_ret
              exact ⟨ret_bool (Eq.symm (decide_eq_false (by have hc := HC.out; unfold nodeP; simp; try omega))), HB.out⟩
            · replace HC := Lib.hid (And.intro f1 (And.intro f6 HC.out))
              go_enter Tryz.func48, Tryz.ntmps48
              go_wp2_with fail
              rw [← HW.out]
              go_wp2_with fail
              go_ret
              exact ⟨ret_bool (Eq.symm (decide_eq_false (by have hc := HC.out; unfold nodeP; simp; try omega))), HB.out⟩
        · replace HC := Lib.hid (And.intro hn.out HC.out)
          clear hn
          go_enter Tryz.func48, Tryz.ntmps48
          go_wp2_with fail
          rw [← HW.out]
          go_wp2_with fail
          go_ret
          exact ⟨ret_bool (Eq.symm (decide_eq_false (by have hc := HC.out; unfold nodeP; simp; try omega))), HB.out⟩
      · replace HC := Lib.hid (And.intro hn.out HC.out)
        clear hn
        go_enter Tryz.func48, Tryz.ntmps48
        go_wp2_with fail
        rw [← HW.out]
        go_wp2_with fail
        go_ret
        exact ⟨ret_bool (Eq.symm (decide_eq_false (by have hc := HC.out; unfold nodeP; simp; try omega))), HB.out⟩

set_option maxHeartbeats 4000000 in
set_option maxRecDepth 100000 in
theorem node_5 (k : Int) (f a : Int) (s : ByteArray) (A B : Option Addr) (n c m d : Nat) (w : World) (z : Int) (E N : Bool) (HE : Hid ((s.toList == []) = E)) (HN : Hid (lx.nameB (lx.bl s) = N)) (HS : Hid (s.size ≤ 9223372036854775807)) (h1 : n ≤ 17592186044416) (h2 : m ≤ 17592186044416)
    (hz : 0 < m → ∃ ad, B = some ad ∧ ad.block < w.heap.size ∧ w.cell? ad = some (.int .i64 z)) (k1' : (k == 1) = false) (k2' : (k == 2) = false) (k3' : (k == 3) = false) (k4' : (k == 4) = false) (HK : Hid (k ≠ 1 ∧ k ≠ 2 ∧ k ≠ 3 ∧ k ≠ 4)) :
    Calls Tryz.prog 48 #[.agg #[.int .i64 k, .int .i64 f, .int .i64 a, .string s, .slice A n c, .slice B m d]] w (Say w (decide (nodeP k f a E N n m z))) := by
  obtain ⟨W, hW⟩ : ∃ W, W = w.alloc (.cells #[.int .i64 k, .int .i64 f, .int .i64 a, .string s, .slice A n c, .slice B m d] 25) := ⟨_, rfl⟩
  obtain ⟨hb, _, KC⟩ := one_box6 hW
  have HW := Lib.hid hW
  have HB := Lib.hid hb
  have HZ : Hid (0 < m → ∃ ad, B = some ad ∧ (w.alloc (.cells #[.int .i64 k, .int .i64 f, .int .i64 a, .string s, .slice A n c, .slice B m d] 25)).cell? ad = some (.int .i64 z)) := Lib.hid fun h => by
    obtain ⟨ad, e, hl, hc⟩ := hz h
    rw [← hW]
    exact ⟨ad, e, (hb.cell hl).trans hc⟩
  obtain ⟨k0, k1, k2, k3, k4, k5⟩ := KC W (Below.refl _ _)
  have HC : Hid (k ≠ 1 ∧ k ≠ 2 ∧ k ≠ 3 ∧ k ≠ 4) := HK
  clear hW hb KC hz
  clear HK
  rcases a_ways a with rfl | ⟨a1, a2, a3⟩ | ⟨a1, a2, a3⟩ | ⟨a1, a2, a3⟩
  · skip
    go_enter Tryz.func48, Tryz.ntmps48
    go_wp2_with fail
    rw [← HW.out]
    go_wp2_with fail
    go_ret
    exact ⟨ret_bool (Eq.symm (decide_eq_false (by have hc := HC.out; unfold nodeP; simp; try omega))), HB.out⟩
  · skip
    replace HC := Lib.hid (And.intro a3.out HC.out)
    clear a3
    go_enter Tryz.func48, Tryz.ntmps48
    go_wp2_with fail
    rw [← HW.out]
    go_wp2_with fail
    go_ret
    exact ⟨ret_bool (Eq.symm (decide_eq_false (by have hc := HC.out; unfold nodeP; simp; try omega))), HB.out⟩
  · skip
    replace HC := Lib.hid (And.intro a3.out HC.out)
    clear a3
    go_enter Tryz.func48, Tryz.ntmps48
    go_wp2_with fail
    rw [← HW.out]
    go_wp2_with fail
    go_ret
    exact ⟨ret_bool (Eq.symm (decide_eq_false (by have hc := HC.out; unfold nodeP; simp; try omega))), HB.out⟩
  · skip
    replace HC := Lib.hid (And.intro a3.out HC.out)
    clear a3
    go_enter Tryz.func48, Tryz.ntmps48
    go_wp2_with fail
    rw [← HW.out]
    go_wp2_with fail
    go_ret
    exact ⟨ret_bool (Eq.symm (decide_eq_false (by have hc := HC.out; unfold nodeP; simp; try omega))), HB.out⟩

end Go.Proofs.YthgojbaindejjaaGreatDoor.tr
