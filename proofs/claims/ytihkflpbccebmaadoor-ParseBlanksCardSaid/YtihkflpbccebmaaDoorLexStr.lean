/- Package lex's small functions over texts, and the reference's: letters, digits, the leading characters of a text, its blanks, its words. -/
import Derived.Test.YtihkflpbccebmaaDoorLexTok
import Derived.Test.YtihkflpbccebmaaDoorDecimal
import Derived.Test.YtihkflpbccebmaaDoorShelfL
import Derived.Shelf.Strings.SlTrimAscii
import Derived.Laws.RangeAny
import Derived.Laws.Runes
namespace Go.Proofs.YtihkflpbccebmaaDoor.lx
open Go.ChangeShapes Go.WideShapes Go.ChangeAt Go.RowKit Go.Proofs.YtihkflpbccebmaaDoor.mem Go.Proofs.YtihkflpbccebmaaDoor.txt
set_option linter.unusedVariables false

/-- The bytes of a text. -/
def bl (s : ByteArray) : List UInt8 := s.data.toList
theorem bl_str (l : List UInt8) : bl (strOf l) = l := by simp [bl, txt.strOf]
theorem str_bl (s : ByteArray) : strOf (bl s) = s := Lib.mk_data s
theorem bl_size (s : ByteArray) : (bl s).length = s.size := (Lib.size_eq s).symm
theorem bl_piece (s : ByteArray) (a b : Nat) : bl (s.extract a b) = ((bl s).drop a).take (b - a) := Lib.extract_data s a b
theorem bl_at (s : ByteArray) (k : Nat) (h : k < s.size) : (bl s)[k]? = some (s[k]'h) := by
  rw [List.getElem?_eq_getElem (by rw [bl_size]; exact h)]; rfl
theorem bl_drop (s : ByteArray) (k : Nat) (h : k < s.size) : (bl s).drop k = (s[k]'h) :: (bl s).drop (k + 1) := by
  have := List.drop_eq_getElem_cons (l := bl s) (i := k) (by rw [bl_size]; exact h)
  exact this
theorem piece_str (s : ByteArray) (a b : Nat) : s.extract a b = strOf (((bl s).drop a).take (b - a)) := by rw [← bl_piece, str_bl]

/-- A text is answered; nothing that was there has turned. -/
def Str (w : World) (l : List UInt8) (e : Ending) (w' : World) : Prop := e = .returned (.string (strOf l)) ∧ Below w.heap.size w w'

def digN (r : Nat) : Bool := decide (48 ≤ r ∧ r ≤ 57)
def wpN (r : Nat) : Bool := decide ((65 ≤ r ∧ r ≤ 90) ∨ (97 ≤ r ∧ r ≤ 122) ∨ r = 95 ∨ (48 ≤ r ∧ r ≤ 57))
theorem dig_rune (c : UInt8) : digN c.toNat = digB c := rfl
theorem wp_rune (c : UInt8) : wpN c.toNat = wpB c := by
  rw [Bool.eq_iff_iff, wp_iff, let_iff, dig_iff]; simp [wpN]; omega
theorem dig_high {r : Nat} (h : 128 ≤ r) : digN r = false := by simp [digN]; omega
theorem wp_high {r : Nat} (h : 128 ≤ r) : wpN r = false := by simp [wpN]; omega

theorem runeDigit_any (r : Nat) (w : World) : Calls Tryd.prog 64 #[.int .i32 r] w fun e w' => e = .returned (.bool (digN r)) ∧ w = w' := by
  have h0 : (0 : Int) ≤ r := by omega
  by_cases h1 : (48 : Int) ≤ r <;> by_cases h2 : (r : Int) ≤ 57
  all_goals
    have hq : digN r = (decide ((48 : Int) ≤ r) && decide ((r : Int) ≤ 57)) := by rw [Bool.eq_iff_iff]; simp [digN]; omega
    simp only [h1, h2, decide_true, decide_false, Bool.and_true, Bool.and_false] at hq
    have HQ := Lib.hid hq; clear hq
    go_enter Tryd.func64, Tryd.ntmps64
    go_wp2_with fail
    go_ret
    exact ⟨by rw [HQ.out]; rfl, rfl⟩
theorem wordPart_any (r : Nat) (w : World) : Calls Tryd.prog 63 #[.int .i32 r] w fun e w' => e = .returned (.bool (wpN r)) ∧ w = w' := by
  have h0 : (0 : Int) ≤ r := by omega
  have D := Lib.hid (runeDigit_any r w)
  by_cases g1 : (r : Int) = 95
  · have e : ((r : Int) == 95) = true := by simpa using g1
    have HQ := Lib.hid (show wpN r = true by simp [wpN]; omega)
    clear g1
    go_enter Tryd.func63, Tryd.ntmps63
    go_wp2_with fail
    go_ret
    exact ⟨by rw [HQ.out]; rfl, rfl⟩
  have e : ((r : Int) == 95) = false := by simpa using g1
  by_cases h1 : (65 : Int) ≤ r ∧ (r : Int) ≤ 90
  · obtain ⟨h1, h2⟩ := h1
    have HQ := Lib.hid (show wpN r = true by simp [wpN]; omega)
    clear g1
    go_enter Tryd.func63, Tryd.ntmps63
    go_wp2_with fail
    go_ret
    exact ⟨by rw [HQ.out]; rfl, rfl⟩
  by_cases h2 : (97 : Int) ≤ r ∧ (r : Int) ≤ 122
  · obtain ⟨h2, h3⟩ := h2
    have HQ := Lib.hid (show wpN r = true by simp [wpN]; omega)
    have h4 : (65 : Int) ≤ r := by omega
    have h5 : ¬ (r : Int) ≤ 90 := by omega
    clear g1 h1
    go_enter Tryd.func63, Tryd.ntmps63
    go_wp2_with fail
    go_ret
    exact ⟨by rw [HQ.out]; rfl, rfl⟩
  have HQ := Lib.hid (show wpN r = digN r by rw [Bool.eq_iff_iff]; simp [wpN, digN]; omega)
  clear g1
  by_cases a1 : (65 : Int) ≤ r <;> by_cases a3 : (97 : Int) ≤ r
  all_goals
    try (exfalso; omega)
  · have a2 : ¬ (r : Int) ≤ 90 := by omega
    have a4 : ¬ (r : Int) ≤ 122 := by omega
    clear h1 h2
    go_enter Tryd.func63, Tryd.ntmps63
    go_wp2_with fail
    refine D.out.mono ?_
    rintro e w' ⟨rfl, rfl⟩
    go_wp2_with fail
    go_ret
    exact ⟨by rw [HQ.out]; rfl, rfl⟩
  · have a2 : ¬ (r : Int) ≤ 90 := by omega
    clear h1 h2
    go_enter Tryd.func63, Tryd.ntmps63
    go_wp2_with fail
    refine D.out.mono ?_
    rintro e w' ⟨rfl, rfl⟩
    go_wp2_with fail
    go_ret
    exact ⟨by rw [HQ.out]; rfl, rfl⟩
  · clear h1 h2
    go_enter Tryd.func63, Tryd.ntmps63
    go_wp2_with fail
    refine D.out.mono ?_
    rintro e w' ⟨rfl, rfl⟩
    go_wp2_with fail
    go_ret
    exact ⟨by rw [HQ.out]; rfl, rfl⟩
end Go.Proofs.YtihkflpbccebmaaDoor.lx
