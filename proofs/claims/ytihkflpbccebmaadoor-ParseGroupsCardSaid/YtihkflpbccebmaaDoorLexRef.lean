/- The reference's small functions over texts: letters, digits, the end of letters and digits, whether a text begins with another, the value of digits, names. -/
import Derived.Test.YtihkflpbccebmaaDoorLexLead
namespace Go.Proofs.YtihkflpbccebmaaDoor.lx
open Go.ChangeShapes Go.WideShapes Go.ChangeAt Go.RowKit Go.Proofs.YtihkflpbccebmaaDoor.mem Go.Proofs.YtihkflpbccebmaaDoor.txt
set_option linter.unusedVariables false

theorem refDigit_any (c : UInt8) (w : World) : Calls Tryd.prog 36 #[.int .u8 c.toNat] w fun e w' => e = .returned (.bool (digB c)) ∧ w = w' := by
  have hq : digB c = decide (48 ≤ c.toNat ∧ c.toNat ≤ 57) := rfl
  obtain ⟨r, hr⟩ : ∃ r, r = c.toNat := ⟨_, rfl⟩
  rw [← hr] at hq ⊢
  clear hr
  by_cases h1 : (48 : Int) ≤ r <;> by_cases h2 : (r : Int) ≤ 57
  all_goals
    replace hq : digB c = (decide ((48 : Int) ≤ r) && decide ((r : Int) ≤ 57)) := by rw [hq, Bool.eq_iff_iff]; simp; omega
    simp only [h1, h2, decide_true, decide_false, Bool.and_true, Bool.and_false] at hq
    have HQ := Lib.hid hq; clear hq
    go_enter Tryd.func36, Tryd.ntmps36
    go_wp2_with fail
    go_ret
    exact ⟨by rw [HQ.out]; rfl, rfl⟩
theorem refLetter_any (c : UInt8) (w : World) : Calls Tryd.prog 24 #[.int .u8 c.toNat] w fun e w' => e = .returned (.bool (letB c)) ∧ w = w' := by
  have hq : letB c = decide ((65 ≤ c.toNat ∧ c.toNat ≤ 90) ∨ (97 ≤ c.toNat ∧ c.toNat ≤ 122) ∨ c.toNat = 95) := rfl
  obtain ⟨r, hr⟩ : ∃ r, r = c.toNat := ⟨_, rfl⟩
  rw [← hr] at hq ⊢
  clear hr
  obtain ⟨b, hb⟩ : ∃ b, b = ((r : Int) == 95) := ⟨_, rfl⟩
  have hb' := hb.symm
  by_cases h1 : (65 : Int) ≤ r <;> by_cases h2 : (r : Int) ≤ 90 <;> by_cases h3 : (97 : Int) ≤ r <;> by_cases h4 : (r : Int) ≤ 122
  all_goals
    try (exfalso; omega)
  all_goals
    replace hq : letB c = (decide ((65 : Int) ≤ r) && decide ((r : Int) ≤ 90) || decide ((97 : Int) ≤ r) && decide ((r : Int) ≤ 122) || b) := by
      rw [hq, hb, Bool.eq_iff_iff]; simp; omega
    simp only [h1, h2, h3, h4, decide_true, decide_false, Bool.and_true, Bool.and_false, Bool.or_false, Bool.or_true, Bool.true_or, Bool.false_or] at hq
    have HQ := Lib.hid hq; clear hq hb
    go_enter Tryd.func24, Tryd.ntmps24
    go_wp2_with fail
    go_ret
    exact ⟨by rw [HQ.out]; rfl, rfl⟩
theorem tw_step {p : UInt8 → Bool} {l r : List UInt8} {k : Nat} {c : UInt8} (hd : l.drop k = c :: r) (hc : p c = true) : ((l.drop k).takeWhile p).length = ((l.drop (k + 1)).takeWhile p).length + 1 := by
  have e : l.drop (k + 1) = r := by rw [← List.drop_drop, hd]; rfl
  rw [e, hd, List.takeWhile_cons, if_pos hc]; rfl
theorem tw_halt {p : UInt8 → Bool} {l r : List UInt8} {k : Nat} {c : UInt8} (hd : l.drop k = c :: r) (hc : p c = false) : ((l.drop k).takeWhile p).length = 0 := by
  rw [hd, List.takeWhile_cons, hc]; rfl
set_option maxHeartbeats 1000000 in
theorem end_any (s : ByteArray) (a : Nat) (w : World) (hs : s.size ≤ 9223372036854775807) (ha : a ≤ s.size) :
    Calls Tryd.prog 25 #[.string s, .int .i64 a] w fun e w' => e = .returned (.int .i64 ((a + (((bl s).drop a).takeWhile wpB).length : Nat) : Int)) ∧ w = w' := by
  obtain ⟨E, hE⟩ : ∃ E, E = a + (((bl s).drop a).takeWhile wpB).length := ⟨_, rfl⟩
  rw [← hE]
  have HE := Lib.hid hE; clear hE
  go_enter Tryd.func25, Tryd.ntmps25
  go_wp2_with fail
  go_loop [1] (fun i => ∃ k : Nat, k ≤ s.size ∧ i = .int .i64 k ∧ Hid (E = k + (((bl s).drop k).takeWhile wpB).length)) (fun i => s.size - (intOf i).toNat)
  case atStart => exact ⟨a, ha, rfl, HE⟩
  case round =>
    obtain ⟨k, hk, rfl, HR⟩ := hrel
    by_cases hlt : k < s.size
    · have HD := Lib.hid (bl_drop s k hlt)
      have L := Lib.hid (refLetter_any s[k] w)
      have D := Lib.hid (refDigit_any s[k] w)
      have hwp : wpB s[k] = (letB s[k] || digB s[k]) := rfl
      have HN := Lib.hid (fun (h : wpB s[k] = true) => show E = (k + 1) + (((bl s).drop (k + 1)).takeWhile wpB).length by have := tw_step (p := wpB) HD.out h; have := HR.out; omega)
      have HS := Lib.hid (fun (h : wpB s[k] = false) => show E = k by have := tw_halt (p := wpB) HD.out h; have := HR.out; omega)
      obtain ⟨x, hx⟩ : ∃ x, x = letB s[k] := ⟨_, rfl⟩
      rw [← hx] at L hwp
      obtain ⟨y, hy⟩ : ∃ y, y = digB s[k] := ⟨_, rfl⟩
      rw [← hy] at D hwp
      rw [hwp] at HN HS
      clear hx hy hwp
      cases x
      · cases y
        · have HX := Lib.hid (HS.out rfl)
          clear HN HS
          go_wp2_with fail
          refine L.out.mono ?_
          rintro e w' ⟨rfl, rfl⟩
          go_wp2_with fail
          refine D.out.mono ?_
          rintro e w' ⟨rfl, rfl⟩
          go_wp2_with fail
          go_ret
          exact ⟨by rw [HX.out]; rfl, rfl⟩
        · have HX := Lib.hid (HN.out rfl)
          clear HN HS
          go_wp2_with fail
          refine L.out.mono ?_
          rintro e w' ⟨rfl, rfl⟩
          go_wp2_with fail
          refine D.out.mono ?_
          rintro e w' ⟨rfl, rfl⟩
          go_wp2_with fail
          go_round
          case rel => exact ⟨k + 1, by omega, by go_num, HX⟩
          case measure => simp [intOf]; omega
      · have HX := Lib.hid (HN.out (by simp))
        clear HN HS
        go_wp2_with fail
        refine L.out.mono ?_
        rintro e w' ⟨rfl, rfl⟩
        go_wp2_with fail
        go_round
        case rel => exact ⟨k + 1, by omega, by go_num, HX⟩
        case measure => simp [intOf]; omega
    · have HX : Hid (E = k) := Lib.hid (by
        have := HR.out
        rw [List.drop_eq_nil_of_le (by rw [bl_size]; omega)] at this
        simpa using this)
      go_wp2_with fail
      go_ret
      exact ⟨by rw [HX.out]; rfl, rfl⟩
set_option maxRecDepth 100000 in
theorem begins_any (s : ByteArray) (a : Nat) (p : List UInt8) (w : World) (hs : s.size ≤ 1000000) (hp : p.length ≤ 100) (ha : a ≤ s.size) :
    Calls Tryd.prog 26 #[.string s, .int .i64 a, .string (strOf p)] w fun e w' => e = .returned (.bool (p.isPrefixOf ((bl s).drop a))) ∧ w = w' := by
  have hz := strOf_size p
  have ha0 : (a : Int) ≤ s.size := by omega
  by_cases h1 : a + p.length ≤ s.size
  · have hx : s.extract a (a + p.length) = strOf (((bl s).drop a).take p.length) := by rw [piece_str]; congr 2; omega
    have he := str_same (((bl s).drop a).take p.length) p
    have hq : p.isPrefixOf ((bl s).drop a) = (((bl s).drop a).take p.length == p) := by
      rw [Bool.eq_iff_iff, pre_iff, beq_iff_eq]
      constructor
      · rintro ⟨r, h⟩; rw [h]; simp
      · intro h; exact ⟨((bl s).drop a).drop p.length, by conv => lhs; rw [← List.take_append_drop p.length ((bl s).drop a), h]⟩
    rw [← hx] at he
    rw [hq]
    obtain ⟨b, hb⟩ : ∃ b, b = (((bl s).drop a).take p.length == p) := ⟨_, rfl⟩
    rw [← hb] at he ⊢
    have h1' : (a : Int) + p.length ≤ s.size := by omega
    have htn : ((a : Int) + p.length).toNat = a + p.length := by omega
    obtain ⟨n, hn⟩ : ∃ n, n = p.length := ⟨_, rfl⟩
    obtain ⟨q, hq'⟩ : ∃ q, q = strOf p := ⟨_, rfl⟩
    rw [← hq'] at he hz ⊢
    rw [← hn] at he hz h1 h1' htn hp
    have h3' : (a : Int) + n ≤ 1000000 := by omega
    have h2' : (a : Int) ≤ (a : Int) + n := by omega
    clear hb hq hx hn hq'
    go_enter Tryd.func26, Tryd.ntmps26
    go_wp2_with fail
    go_ret
    exact ⟨rfl, rfl⟩
  · have hq : p.isPrefixOf ((bl s).drop a) = false := by
      rw [Bool.eq_false_iff]
      intro h
      obtain ⟨r, h⟩ := pre_iff.1 h
      have := congrArg List.length h
      rw [List.length_append, List.length_drop, bl_size] at this
      omega
    rw [hq]
    have h1' : ¬ (a : Int) + p.length ≤ s.size := by omega
    clear hq h1
    go_enter Tryd.func26, Tryd.ntmps26
    go_wp2_with fail
    go_ret
    exact ⟨rfl, rfl⟩
end Go.Proofs.YtihkflpbccebmaaDoor.lx
