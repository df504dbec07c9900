/- The reference's names, its text of a number, and its glyphs. -/
import Derived.Test.YtbcnilkenkmabaaLexVal
namespace Go.Proofs.Ytbcnilkenkmabaa.lx
open Go.ChangeShapes Go.WideShapes Go.ChangeAt Go.RowKit Go.Proofs.Ytbcnilkenkmabaa.mem Go.Proofs.Ytbcnilkenkmabaa.txt
set_option linter.unusedVariables false

theorem name_cons {c : UInt8} {r : List UInt8} : nameB (c :: r) = (letB c && (((c :: r).takeWhile wpB).length == (c :: r).length)) := by
  unfold nameB
  cases h : letB c
  · rw [word_not h]; simp
  · rw [(word_let h).1, Bool.eq_iff_iff]
    simp only [ne_eq, reduceCtorEq, not_false_eq_true, decide_true, Bool.true_and, beq_iff_eq]
    constructor
    · intro e; rw [e]
    · intro e
      have := tw_take wpB (c :: r)
      rw [e, List.take_length] at this
      exact this.symm
theorem refName_any (s : ByteArray) (w : World) (hs : s.size ≤ 9223372036854775807) : Calls Try.prog 58 #[.string s] w fun e w' => e = .returned (.bool (nameB (bl s))) ∧ w = w' := by
  have hs' : s.size ≤ 9223372036854775807 := hs
  by_cases h0 : s.size = 0
  · have hq : nameB (bl s) = false := by
      rw [List.eq_nil_of_length_eq_zero (by rw [bl_size]; exact h0 : (bl s).length = 0)]; rfl
    rw [hq]
    have h1 : ¬ (0 : Int) < s.size := by omega
    clear hq h0
    go_enter Try.func58, Try.ntmps58
    go_wp2_with fail
    go_ret
    exact ⟨rfl, rfl⟩
  · have hp : 0 < s.size := by omega
    have hp' : (0 : Int) < s.size := by omega
    have L := Lib.hid (refLetter_any s[0] w)
    have E := Lib.hid (end_any s 0 w hs (by omega))
    have hq : nameB (bl s) = (letB s[0] && (((bl s).takeWhile wpB).length == s.size)) := by
      have e := bl_drop s 0 hp
      rw [List.drop_zero] at e
      have hl : (s[0] :: (bl s).drop (0 + 1)).length = s.size := by rw [← e, bl_size]
      have := name_cons (c := s[0]) (r := (bl s).drop (0 + 1))
      rw [hl, ← e] at this
      exact this
    rw [List.drop_zero, Nat.zero_add] at E
    obtain ⟨n, hn⟩ : ∃ n, n = ((bl s).takeWhile wpB).length := ⟨_, rfl⟩
    rw [← hn] at E hq
    obtain ⟨x, hx⟩ : ∃ x, x = letB s[0] := ⟨_, rfl⟩
    rw [← hx] at L hq
    obtain ⟨b, hb⟩ : ∃ b, b = (n == s.size) := ⟨_, rfl⟩
    rw [← hb] at hq
    have hb' : ((n : Int) == (s.size : Int)) = b := by rw [hb, Bool.eq_iff_iff, beq_iff_eq, beq_iff_eq]; omega
    have E' : Hid (Calls Try.prog 63 #[.string s, .int .i64 0] w fun e w' => e = .returned (.int .i64 (n : Int)) ∧ w = w') := E
    rw [hq]
    clear hq hn hx hb h0 E
    cases x
    · go_enter Try.func58, Try.ntmps58
      go_wp2_with fail
      refine L.out.mono ?_
      rintro e w' ⟨rfl, rfl⟩
      go_wp2_with fail
      go_ret
      exact ⟨rfl, rfl⟩
    · rw [Bool.true_and]
      go_enter Try.func58, Try.ntmps58
      go_wp2_with fail
      refine L.out.mono ?_
      rintro e w' ⟨rfl, rfl⟩
      go_wp2_with fail
      refine E'.out.mono ?_
      rintro e w' ⟨rfl, rfl⟩
      go_wp2_with fail
      go_ret
      exact ⟨rfl, rfl⟩
/-- A row of texts in a block of its own. -/
def GlyRow (w : World) (A : Option Addr) : Prop := ∃ ad : Addr, A = some ad ∧ ad.block < w.heap.size ∧ ∀ k : Nat, ∀ t, gls[k]? = some t → w.cell? (ad.add k) = some (.string (strOf t))
theorem GlyRow.below {w w' : World} {A : Option Addr} (h : GlyRow w A) (hb : Below w.heap.size w w') : GlyRow w' A := by
  obtain ⟨g, e, h1, h2⟩ := h
  exact ⟨g, e, Nat.lt_of_lt_of_le h1 hb.size, fun k t hk => (hb.cell (by rw [blk_add]; exact h1)).trans (h2 k t hk)⟩
end Go.Proofs.Ytbcnilkenkmabaa.lx
