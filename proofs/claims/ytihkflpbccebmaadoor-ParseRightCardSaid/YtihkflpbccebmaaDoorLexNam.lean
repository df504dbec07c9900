/- The reference's names, its text of a number, and its glyphs. -/
import Derived.Test.YtihkflpbccebmaaDoorLexVal
namespace Go.Proofs.YtihkflpbccebmaaDoor.lx
open Go.ChangeShapes Go.WideShapes Go.ChangeAt Go.RowKit Go.Proofs.YtihkflpbccebmaaDoor.mem Go.Proofs.YtihkflpbccebmaaDoor.txt
set_option linter.unusedVariables false

theorem name_cons {c : UInt8} {r : List UInt8} : nameB (c :: r) = (letB c && (((c :: r).takeWhile wpB).length == (c :: r).length)) := by
  unfold nameB
  cases h : letB c
  · rw [word_not h]; simp
  · rw [(word_let h).1, Bool.eq_iff_iff]
    simp only [ne_eq, reduceCtorEq, not_false_eq_true, decide_true, Bool.true_and, beq_iff_eq]
    constructor
    · intro e; rw [e]
    · intro e
      have := tw_take wpB (c :: r)
      rw [e, List.take_length] at this
      exact this.symm
theorem refName_any (s : ByteArray) (w : World) (hs : s.size ≤ 9223372036854775807) : Calls Tryd.prog 15 #[.string s] w fun e w' => e = .returned (.bool (nameB (bl s))) ∧ w = w' := by
  have hs' : s.size ≤ 9223372036854775807 := hs
  by_cases h0 : s.size = 0
  · have hq : nameB (bl s) = false := by
      rw [List.eq_nil_of_length_eq_zero (by rw [bl_size]; exact h0 : (bl s).length = 0)]; rfl
    rw [hq]
    have h1 : ¬ (0 : Int) < s.size := by omega
    clear hq h0
    go_enter Tryd.func15, Tryd.ntmps15
    go_wp2_with fail
    go_ret
    exact ⟨rfl, rfl⟩
  · have hp : 0 < s.size := by omega
    have hp' : (0 : Int) < s.size := by omega
    have L := Lib.hid (refLetter_any s[0] w)
    have E := Lib.hid (end_any s 0 w hs (by omega))
    have hq : nameB (bl s) = (letB s[0] && (((bl s).takeWhile wpB).length == s.size)) := by
      have e := bl_drop s 0 hp
      rw [List.drop_zero] at e
      have hl : (s[0] :: (bl s).drop (0 + 1)).length = s.size := by rw [← e, bl_size]
      have := name_cons (c := s[0]) (r := (bl s).drop (0 + 1))
      rw [hl, ← e] at this
      exact this
    rw [List.drop_zero, Nat.zero_add] at E
    obtain ⟨n, hn⟩ : ∃ n, n = ((bl s).takeWhile wpB).length := ⟨_, rfl⟩
    rw [← hn] at E hq
    obtain ⟨x, hx⟩ : ∃ x, x = letB s[0] := ⟨_, rfl⟩
    rw [← hx] at L hq
    obtain ⟨b, hb⟩ : ∃ b, b = (n == s.size) := ⟨_, rfl⟩
    rw [← hb] at hq
    have hb' : ((n : Int) == (s.size : Int)) = b := by rw [hb, Bool.eq_iff_iff, beq_iff_eq, beq_iff_eq]; omega
    have E' : Hid (Calls Tryd.prog 25 #[.string s, .int .i64 0] w fun e w' => e = .returned (.int .i64 (n : Int)) ∧ w = w') := E
    rw [hq]
    clear hq hn hx hb h0 E
    cases x
    · go_enter Tryd.func15, Tryd.ntmps15
      go_wp2_with fail
      refine L.out.mono ?_
      rintro e w' ⟨rfl, rfl⟩
      go_wp2_with fail
      go_ret
      exact ⟨rfl, rfl⟩
    · rw [Bool.true_and]
      go_enter Tryd.func15, Tryd.ntmps15
      go_wp2_with fail
      refine L.out.mono ?_
      rintro e w' ⟨rfl, rfl⟩
      go_wp2_with fail
      refine E'.out.mono ?_
      rintro e w' ⟨rfl, rfl⟩
      go_wp2_with fail
      go_ret
      exact ⟨rfl, rfl⟩
/-- A row of texts in a block of its own. -/
def GlyRow (w : World) (A : Option Addr) : Prop := ∃ ad : Addr, A = some ad ∧ ad.block < w.heap.size ∧ ∀ k : Nat, ∀ t, gls[k]? = some t → w.cell? (ad.add k) = some (.string (strOf t))
theorem GlyRow.below {w w' : World} {A : Option Addr} (h : GlyRow w A) (hb : Below w.heap.size w w') : GlyRow w' A := by
  obtain ⟨g, e, h1, h2⟩ := h
  exact ⟨g, e, Nat.lt_of_lt_of_le h1 hb.size, fun k t hk => (hb.cell (by rw [blk_add]; exact h1)).trans (h2 k t hk)⟩
theorem glyphs_any (w : World) : Calls Tryd.prog 28 #[] w fun e w' => ∃ A, e = .returned (.slice A 12 12) ∧ GlyRow w' A ∧ Below w.heap.size w w' := by
  have HG := Lib.hid (show ∀ t : TypeId, GlyRow (w.alloc (.cells #[.string ⟨#[226, 134, 145]⟩, .string ⟨#[226, 134, 147]⟩, .string ⟨#[226, 140, 189]⟩, .string ⟨#[226, 141, 137]⟩, .string ⟨#[226, 141, 180]⟩, .string ⟨#[226, 141, 172]⟩, .string ⟨#[226, 134, 144]⟩, .string ⟨#[44]⟩, .string ⟨#[40]⟩, .string ⟨#[41]⟩, .string ⟨#[91]⟩, .string ⟨#[93]⟩] t)) (some ⟨w.heap.size, 0, none⟩) from fun t => by
    refine ⟨_, rfl, by simp, fun k u hk => ?_⟩
    rw [add_at, cell_of_row _ _ _ _ t (0, 0) (heap_alloc_new w _)]
    have hl : k < 12 := by
      obtain ⟨h, _⟩ := List.getElem?_eq_some_iff.1 hk
      exact h
    have : ∀ j : Fin 12, ∀ u, gls[j.val]? = some u → (#[.string ⟨#[226, 134, 145]⟩, .string ⟨#[226, 134, 147]⟩, .string ⟨#[226, 140, 189]⟩, .string ⟨#[226, 141, 137]⟩, .string ⟨#[226, 141, 180]⟩, .string ⟨#[226, 141, 172]⟩, .string ⟨#[226, 134, 144]⟩, .string ⟨#[44]⟩, .string ⟨#[40]⟩, .string ⟨#[41]⟩, .string ⟨#[91]⟩, .string ⟨#[93]⟩] : Array Value)[j.val]? = some (.string (strOf u)) := by
      intro j u hj
      match j with
      | 0 | 1 | 2 | 3 | 4 | 5 | 6 | 7 | 8 | 9 | 10 | 11 => injection hj with hj; subst hj; rfl
    exact this ⟨k, hl⟩ u hk)
  go_enter Tryd.func28, Tryd.ntmps28
  go_wp2_with fail
  go_ret
  exact ⟨_, rfl, HG.out _, (Below.refl _ _).alloc (Nat.le_refl _) _⟩
end Go.Proofs.YtihkflpbccebmaaDoor.lx
