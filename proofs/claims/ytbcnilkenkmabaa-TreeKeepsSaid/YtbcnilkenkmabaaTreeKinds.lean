/- Package tree: the rules of the kinds. -/
import Derived.Test.YtbcnilkenkmabaaTreeDup
import Derived.Test.YtbcnilkenkmabaaTreeRight
namespace Go.Proofs.Ytbcnilkenkmabaa.tr
open Go.ChangeShapes Go.WideShapes Go.ChangeAt Go.RowKit Go.Proofs.Ytbcnilkenkmabaa.mem Go.Proofs.Ytbcnilkenkmabaa.sq
set_option linter.unusedVariables false

def opdB (f a : Int) (m : Nat) : Bool := decide (f = 0 ∧ a = -1 ∧ m = 0)
set_option maxHeartbeats 1000000 in
theorem operand_any (k f a : Int) (s : ByteArray) (A B : Option Addr) (n c m d : Nat) (w : World) (hm : m ≤ 17592186044416) :
    Calls Try.prog 40 #[.agg #[.int .i64 k, .int .i64 f, .int .i64 a, .string s, .slice A n c, .slice B m d]] w (Say w (opdB f a m)) := by
  obtain ⟨W, hW⟩ : ∃ W, W = w.alloc (.cells #[.int .i64 k, .int .i64 f, .int .i64 a, .string s, .slice A n c, .slice B m d] 25) := ⟨_, rfl⟩
  obtain ⟨hb, _, KC⟩ := one_box6 hW
  obtain ⟨k0, k1, k2, k3, k4, k5⟩ := KC W (Below.refl _ _)
  have HB := Lib.hid hb; have HW := Lib.hid hW
  clear hb KC hW
  obtain ⟨r, hr⟩ : ∃ r, r = opdB f a m := ⟨_, rfl⟩
  rw [← hr]
  have HR := Lib.hid hr; clear hr
  go_enter Try.func40, Try.ntmps40
  go_upto_region 1 with fail
  rw [← HW.out]
  go_wp2_with fail
  all_goals go_ret
  all_goals refine ⟨ret_bool ?_, HB.out⟩
  all_goals rw [HR.out]; unfold opdB
  all_goals first
    | (simp [*]; done)
    | (rw [Bool.eq_iff_iff]; simp [*]; done)
    | (rw [Bool.eq_iff_iff]; simp [*]; omega)
def simB (k : Int) : Bool := decide (k = 1 ∨ k = 2)
set_option maxHeartbeats 1000000 in
theorem simple_any (k f a : Int) (s : ByteArray) (A B : Option Addr) (n c m d : Nat) (w : World) :
    Calls Try.prog 46 #[.agg #[.int .i64 k, .int .i64 f, .int .i64 a, .string s, .slice A n c, .slice B m d]] w (Say w (simB k)) := by
  obtain ⟨W, hW⟩ : ∃ W, W = w.alloc (.cells #[.int .i64 k, .int .i64 f, .int .i64 a, .string s, .slice A n c, .slice B m d] 25) := ⟨_, rfl⟩
  obtain ⟨hb, -, KC⟩ := one_box6 hW
  obtain ⟨k0, k1, k2, k3, k4, k5⟩ := KC W (Below.refl _ _)
  have HB := Lib.hid hb; have HW := Lib.hid hW
  clear hb KC hW
  obtain ⟨r, hr⟩ : ∃ r, r = simB k := ⟨_, rfl⟩
  rw [← hr]
  have HR := Lib.hid hr; clear hr
  go_enter Try.func46, Try.ntmps46
  go_upto_region 1 with fail
  rw [← HW.out]
  go_wp2_with fail
  all_goals go_ret
  all_goals refine ⟨ret_bool ?_, HB.out⟩
  all_goals rw [HR.out]; unfold simB
  all_goals first
    | (simp [*]; done)
    | (rw [Bool.eq_iff_iff]; simp [*]; done)
    | (rw [Bool.eq_iff_iff]; simp [*]; omega)
set_option maxHeartbeats 1000000 in
theorem kind1_any (k f a : Int) (s : ByteArray) (A B : Option Addr) (n c m d : Nat) (w : World) (hm : m ≤ 17592186044416) (E : Bool) (HE : Hid ((s.toList == []) = E)) :
    Calls Try.prog 39 #[.agg #[.int .i64 k, .int .i64 f, .int .i64 a, .string s, .slice A n c, .slice B m d]] w (Say w (opdB f a m && E)) := by
  obtain ⟨W, hW⟩ : ∃ W, W = w.alloc (.cells #[.int .i64 k, .int .i64 f, .int .i64 a, .string s, .slice A n c, .slice B m d] 25) := ⟨_, rfl⟩
  obtain ⟨hb, -, KC⟩ := one_box6 hW
  obtain ⟨k0, k1, k2, k3, k4, k5⟩ := KC W (Below.refl _ _)
  have PO := Lib.hid (operand_any k f a s A B n c m d W hm)
  have HB := Lib.hid hb; have HW := Lib.hid hW; have HKC := Lib.hid KC
  clear hb KC hW
  generalize opdB f a m = r at *
  go_enter Try.func39, Try.ntmps39
  go_upto_region 1 with fail
  rw [← HW.out]
  go_wp2_with fail
  refine PO.out.mono ?_
  rintro e w1 ⟨rfl, hb1⟩
  have HB1 := Lib.hid (HB.out.trans (hb1.mono HB.out.size))
  obtain ⟨j0, j1, j2, j3, j4, j5⟩ := HKC.out w1 hb1
  clear hb1 k0 k1 k2 k3 k4 k5 PO
  cases r
  · go_wp2_with fail
    go_ret
    exact ⟨by simp, HB1.out⟩
  · cases E
    all_goals
      have hs := HE.out
      go_wp2_with fail
      go_ret
      exact ⟨by simp, HB1.out⟩
set_option maxHeartbeats 1000000 in
theorem kind2_any (k f a : Int) (s : ByteArray) (A B : Option Addr) (n c m d : Nat) (w : World) (hm : m ≤ 17592186044416) (hn : n ≤ 17592186044416) (hs : s.size ≤ 9223372036854775807) :
    Calls Try.prog 41 #[.agg #[.int .i64 k, .int .i64 f, .int .i64 a, .string s, .slice A n c, .slice B m d]] w (Say w (opdB f a m && lx.nameB (lx.bl s) && decide (n = 0))) := by
  obtain ⟨W, hW⟩ : ∃ W, W = w.alloc (.cells #[.int .i64 k, .int .i64 f, .int .i64 a, .string s, .slice A n c, .slice B m d] 25) := ⟨_, rfl⟩
  obtain ⟨hb, -, KC⟩ := one_box6 hW
  obtain ⟨k0, k1, k2, k3, k4, k5⟩ := KC W (Below.refl _ _)
  have PO := Lib.hid (operand_any k f a s A B n c m d W hm)
  have PN := fun V => Lib.hid (lx.name_any (lx.bl s) V (by rw [lx.bl_size]; exact hs))
  rw [lx.str_bl] at PN
  have HB := Lib.hid hb; have HW := Lib.hid hW; have HKC := Lib.hid KC
  clear hb KC hW hs
  generalize opdB f a m = r at *
  generalize lx.nameB (lx.bl s) = N at *
  go_enter Try.func41, Try.ntmps41
  go_upto_region 1 with fail
  rw [← HW.out]
  go_wp2_with fail
  refine PO.out.mono ?_
  rintro e w1 ⟨rfl, hb1⟩
  have HB1 := Lib.hid (HB.out.trans (hb1.mono HB.out.size))
  have HK1 := Lib.hid hb1
  obtain ⟨j0, j1, j2, j3, j4, j5⟩ := HKC.out w1 hb1
  clear hb1 k0 k1 k2 k3 k4 k5 PO
  cases r
  · go_wp2_with fail
    go_ret
    exact ⟨by simp, HB1.out⟩
  · go_wp2_with fail
    refine (PN _).out.mono ?_
    rintro e w2 ⟨rfl, hb2⟩
    have HB2 := Lib.hid (HB1.out.trans (hb2.mono HB1.out.size))
    have hk2 := HK1.out.trans (hb2.mono HK1.out.size)
    obtain ⟨i0, i1, i2, i3, i4, i5⟩ := HKC.out w2 hk2
    clear hb2 hk2 j0 j1 j2 j3 j4 j5 PN
    cases N
    · go_wp2_with fail
      go_ret
      exact ⟨by simp, HB2.out⟩
    · go_wp2_with fail
      go_ret
      refine ⟨ret_bool ?_, HB2.out⟩
      first
        | (simp; done)
        | (rw [Bool.eq_iff_iff]; simp; done)
        | (rw [Bool.eq_iff_iff]; simp; omega)
end Go.Proofs.Ytbcnilkenkmabaa.tr
