/- The reference's small functions over texts: letters, digits, the end of letters and digits, whether a text begins with another, the value of digits, names. -/
import Derived.Test.YtbcnilkenkmabaaLexLead
namespace Go.Proofs.Ytbcnilkenkmabaa.lx
open Go.ChangeShapes Go.WideShapes Go.ChangeAt Go.RowKit Go.Proofs.Ytbcnilkenkmabaa.mem Go.Proofs.Ytbcnilkenkmabaa.txt
set_option linter.unusedVariables false

theorem refDigit_any (c : UInt8) (w : World) : Calls Try.prog 64 #[.int .u8 c.toNat] w fun e w' => e = .returned (.bool (digB c)) ∧ w = w' := by
  have hq : digB c = decide (48 ≤ c.toNat ∧ c.toNat ≤ 57) := rfl
  obtain ⟨r, hr⟩ : ∃ r, r = c.toNat := ⟨_, rfl⟩
  rw [← hr] at hq ⊢
  clear hr
  by_cases h1 : (48 : Int) ≤ r <;> by_cases h2 : (r : Int) ≤ 57
  all_goals
    replace hq : digB c = (decide ((48 : Int) ≤ r) && decide ((r : Int) ≤ 57)) := by rw [hq, Bool.eq_iff_iff]; simp; omega
    simp only [h1, h2, decide_true, decide_false, Bool.and_true, Bool.and_false] at hq
    have HQ := Lib.hid hq; clear hq
    go_enter Try.func64, Try.ntmps64
    go_wp2_with fail
    go_ret
    exact ⟨by rw [HQ.out]; rfl, rfl⟩
theorem refLetter_any (c : UInt8) (w : World) : Calls Try.prog 62 #[.int .u8 c.toNat] w fun e w' => e = .returned (.bool (letB c)) ∧ w = w' := by
  have hq : letB c = decide ((65 ≤ c.toNat ∧ c.toNat ≤ 90) ∨ (97 ≤ c.toNat ∧ c.toNat ≤ 122) ∨ c.toNat = 95) := rfl
  obtain ⟨r, hr⟩ : ∃ r, r = c.toNat := ⟨_, rfl⟩
  rw [← hr] at hq ⊢
  clear hr
  obtain ⟨b, hb⟩ : ∃ b, b = ((r : Int) == 95) := ⟨_, rfl⟩
  have hb' := hb.symm
  by_cases h1 : (65 : Int) ≤ r <;> by_cases h2 : (r : Int) ≤ 90 <;> by_cases h3 : (97 : Int) ≤ r <;> by_cases h4 : (r : Int) ≤ 122
  all_goals
    try (exfalso; omega)
  all_goals
    replace hq : letB c = (decide ((65 : Int) ≤ r) && decide ((r : Int) ≤ 90) || decide ((97 : Int) ≤ r) && decide ((r : Int) ≤ 122) || b) := by
      rw [hq, hb, Bool.eq_iff_iff]; simp; omega
    simp only [h1, h2, h3, h4, decide_true, decide_false, Bool.and_true, Bool.and_false, Bool.or_false, Bool.or_true, Bool.true_or, Bool.false_or] at hq
    have HQ := Lib.hid hq; clear hq hb
    go_enter Try.func62, Try.ntmps62
    go_wp2_with fail
    go_ret
    exact ⟨by rw [HQ.out]; rfl, rfl⟩
theorem tw_step {p : UInt8 → Bool} {l r : List UInt8} {k : Nat} {c : UInt8} (hd : l.drop k = c :: r) (hc : p c = true) : ((l.drop k).takeWhile p).length = ((l.drop (k + 1)).takeWhile p).length + 1 := by
  have e : l.drop (k + 1) = r := by rw [← List.drop_drop, hd]; rfl
  rw [e, hd, List.takeWhile_cons, if_pos hc]; rfl
theorem tw_halt {p : UInt8 → Bool} {l r : List UInt8} {k : Nat} {c : UInt8} (hd : l.drop k = c :: r) (hc : p c = false) : ((l.drop k).takeWhile p).length = 0 := by
  rw [hd, List.takeWhile_cons, hc]; rfl
set_option maxHeartbeats 1000000 in
theorem end_any (s : ByteArray) (a : Nat) (w : World) (hs : s.size ≤ 9223372036854775807) (ha : a ≤ s.size) :
    Calls Try.prog 63 #[.string s, .int .i64 a] w fun e w' => e = .returned (.int .i64 ((a + (((bl s).drop a).takeWhile wpB).length : Nat) : Int)) ∧ w = w' := by
  obtain ⟨E, hE⟩ : ∃ E, E = a + (((bl s).drop a).takeWhile wpB).length := ⟨_, rfl⟩
  rw [← hE]
  have HE := Lib.hid hE; clear hE
  go_enter Try.func63, Try.ntmps63
  go_wp2_with fail
  go_loop [1] (fun i => ∃ k : Nat, k ≤ s.size ∧ i = .int .i64 k ∧ Hid (E = k + (((bl s).drop k).takeWhile wpB).length)) (fun i => s.size - (intOf i).toNat)
  case atStart => exact ⟨a, ha, rfl, HE⟩
  case round =>
    obtain ⟨k, hk, rfl, HR⟩ := hrel
    by_cases hlt : k < s.size
    · have HD := Lib.hid (bl_drop s k hlt)
      have L := Lib.hid (refLetter_any s[k] w)
      have D := Lib.hid (refDigit_any s[k] w)
      have hwp : wpB s[k] = (letB s[k] || digB s[k]) := rfl
      have HN := Lib.hid (fun (h : wpB s[k] = true) => show E = (k + 1) + (((bl s).drop (k + 1)).takeWhile wpB).length by have := tw_step (p := wpB) HD.out h; have := HR.out; omega)
      have HS := Lib.hid (fun (h : wpB s[k] = false) => show E = k by have := tw_halt (p := wpB) HD.out h; have := HR.out; omega)
      obtain ⟨x, hx⟩ : ∃ x, x = letB s[k] := ⟨_, rfl⟩
      rw [← hx] at L hwp
      obtain ⟨y, hy⟩ : ∃ y, y = digB s[k] := ⟨_, rfl⟩
      rw [← hy] at D hwp
      rw [hwp] at HN HS
      clear hx hy hwp
      cases x
      · cases y
        · have HX := Lib.hid (HS.out rfl)
          clear HN HS
          go_wp2_with fail
          refine L.out.mono ?_
          rintro e w' ⟨rfl, rfl⟩
          go_wp2_with fail
          refine D.out.mono ?_
          rintro e w' ⟨rfl, rfl⟩
          go_wp2_with fail
          go_ret
          exact ⟨by rw [HX.out]; rfl, rfl⟩
        · have HX := Lib.hid (HN.out rfl)
          clear HN HS
          go_wp2_with fail
          refine L.out.mono ?_
          rintro e w' ⟨rfl, rfl⟩
          go_wp2_with fail
          refine D.out.mono ?_
          rintro e w' ⟨rfl, rfl⟩
          go_wp2_with fail
          go_round
          case rel => exact ⟨k + 1, by omega, by go_num, HX⟩
          case measure => simp [intOf]; omega
      · have HX := Lib.hid (HN.out (by simp))
        clear HN HS
        go_wp2_with fail
        refine L.out.mono ?_
        rintro e w' ⟨rfl, rfl⟩
        go_wp2_with fail
        go_round
        case rel => exact ⟨k + 1, by omega, by go_num, HX⟩
        case measure => simp [intOf]; omega
    · have HX : Hid (E = k) := Lib.hid (by
        have := HR.out
        rw [List.drop_eq_nil_of_le (by rw [bl_size]; omega)] at this
        simpa using this)
      go_wp2_with fail
      go_ret
      exact ⟨by rw [HX.out]; rfl, rfl⟩
end Go.Proofs.Ytbcnilkenkmabaa.lx
