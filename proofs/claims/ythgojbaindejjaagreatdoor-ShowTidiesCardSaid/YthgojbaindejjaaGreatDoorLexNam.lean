/- The reference's small functions over texts: letters, digits, the end of letters and digits, whether a text begins with another, the value of digits, names. The reference's value of digits; its text of a number; its names; its glyphs. The reference's names, its text of a number, and its glyphs. -/
import Derived.Test.YthgojbaindejjaaGreatDoorLexLead
import Derived.Test.YthgojbaindejjaaGreatDoorLexNum
/- The reference's small functions over texts: letters, digits, the end of letters and digits, whether a text begins with another, the value of digits, names. -/
namespace Go.Proofs.YthgojbaindejjaaGreatDoor.lx
open Go.ChangeShapes Go.WideShapes Go.ChangeAt Go.RowKit Go.Proofs.YthgojbaindejjaaGreatDoor.mem Go.Proofs.YthgojbaindejjaaGreatDoor.txt
set_option linter.unusedVariables false

theorem refDigit_any (c : UInt8) (w : World) : Calls Tryz.prog 34 #[.int .u8 c.toNat] w fun e w' => e = .returned (.bool (digB c)) ∧ w = w' := by
  have hq : digB c = decide (48 ≤ c.toNat ∧ c.toNat ≤ 57) := rfl
  obtain ⟨r, hr⟩ : ∃ r, r = c.toNat := ⟨_, rfl⟩
  rw [← hr] at hq ⊢
  clear hr
  by_cases h1 : (48 : Int) ≤ r <;> by_cases h2 : (r : Int) ≤ 57
  all_goals
    replace hq : digB c = (decide ((48 : Int) ≤ r) && decide ((r : Int) ≤ 57)) := by rw [hq, Bool.eq_iff_iff]; simp; omega
    simp only [h1, h2, decide_true, decide_false, Bool.and_true, Bool.and_false] at hq
    have HQ := Lib.hid hq; clear hq
    go_enter Tryz.func34, Tryz.ntmps34
    go_wp2_with fail
    go_ret
    exact ⟨by rw [HQ.out]; rfl, rfl⟩
theorem refLetter_any (c : UInt8) (w : World) : Calls Tryz.prog 21 #[.int .u8 c.toNat] w fun e w' => e = .returned (.bool (letB c)) ∧ w = w' := by
  have hq : letB c = decide ((65 ≤ c.toNat ∧ c.toNat ≤ 90) ∨ (97 ≤ c.toNat ∧ c.toNat ≤ 122) ∨ c.toNat = 95) := rfl
  obtain ⟨r, hr⟩ : ∃ r, r = c.toNat := ⟨_, rfl⟩
  rw [← hr] at hq ⊢
  clear hr
  obtain ⟨b, hb⟩ : ∃ b, b = ((r : Int) == 95) := ⟨_, rfl⟩
  have hb' := hb.symm
  by_cases h1 : (65 : Int) ≤ r <;> by_cases h2 : (r : Int) ≤ 90 <;> by_cases h3 : (97 : Int) ≤ r <;> by_cases h4 : (r : Int) ≤ 122
  all_goals
    try (exfalso; omega)
  all_goals
    replace hq : letB c = (decide ((65 : Int) ≤ r) && decide ((r : Int) ≤ 90) || decide ((97 : Int) ≤ r) && decide ((r : Int) ≤ 122) || b) := by
      rw [hq, hb, Bool.eq_iff_iff]; simp; omega
    simp only [h1, h2, h3, h4, decide_true, decide_false, Bool.and_true, Bool.and_false, Bool.or_false, Bool.or_true, Bool.true_or, Bool.false_or] at hq
    have HQ := Lib.hid hq; clear hq hb
    go_enter Tryz.func21, Tryz.ntmps21
    go_wp2_with fail
    go_ret
    exact ⟨by rw [HQ.out]; rfl, rfl⟩
theorem tw_step {p : UInt8 → Bool} {l r : List UInt8} {k : Nat} {c : UInt8} (hd : l.drop k = c :: r) (hc : p c = true) : ((l.drop k).takeWhile p).length = ((l.drop (k + 1)).takeWhile p).length + 1 := by
  have e : l.drop (k + 1) = r := by rw [← List.drop_drop, hd]; rfl
  rw [e, hd, List.takeWhile_cons, if_pos hc]; rfl
theorem tw_halt {p : UInt8 → Bool} {l r : List UInt8} {k : Nat} {c : UInt8} (hd : l.drop k = c :: r) (hc : p c = false) : ((l.drop k).takeWhile p).length = 0 := by
  rw [hd, List.takeWhile_cons, hc]; rfl
set_option maxHeartbeats 1000000 in
theorem end_any (s : ByteArray) (a : Nat) (w : World) (hs : s.size ≤ 9223372036854775807) (ha : a ≤ s.size) :
    Calls Tryz.prog 22 #[.string s, .int .i64 a] w fun e w' => e = .returned (.int .i64 ((a + (((bl s).drop a).takeWhile wpB).length : Nat) : Int)) ∧ w = w' := by
  obtain ⟨E, hE⟩ : ∃ E, E = a + (((bl s).drop a).takeWhile wpB).length := ⟨_, rfl⟩
  rw [← hE]
  have HE := Lib.hid hE; clear hE
  go_enter Tryz.func22, Tryz.ntmps22
  go_wp2_with fail
  go_loop [1] (fun i => ∃ k : Nat, k ≤ s.size ∧ i = .int .i64 k ∧ Hid (E = k + (((bl s).drop k).takeWhile wpB).length)) (fun i => s.size - (intOf i).toNat)
  case atStart => exact ⟨a, ha, rfl, HE⟩
  case round =>
    obtain ⟨k, hk, rfl, HR⟩ := hrel
    by_cases hlt : k < s.size
    · have HD := Lib.hid (bl_drop s k hlt)
      have L := Lib.hid (refLetter_any s[k] w)
      have D := Lib.hid (refDigit_any s[k] w)
      have hwp : wpB s[k] = (letB s[k] || digB s[k]) := rfl
      have HN := Lib.hid (fun (h : wpB s[k] = true) => show E = (k + 1) + (((bl s).drop (k + 1)).takeWhile wpB).length by have := tw_step (p := wpB) HD.out h; have := HR.out; omega)
      have HS := Lib.hid (fun (h : wpB s[k] = false) => show E = k by have := tw_halt (p := wpB) HD.out h; have := HR.out; omega)
      obtain ⟨x, hx⟩ : ∃ x, x = letB s[k] := ⟨_, rfl⟩
      rw [← hx] at L hwp
      obtain ⟨y, hy⟩ : ∃ y, y = digB s[k] := ⟨_, rfl⟩
      rw [← hy] at D hwp
      rw [hwp] at HN HS
      clear hx hy hwp
      cases x
      · cases y
        · have HX := Lib.hid (HS.out rfl)
          clear HN HS
          go_wp2_with fail
          refine L.out.mono ?_
          rintro e w' ⟨rfl, rfl⟩
          go_wp2_with fail
          refine D.out.mono ?_
          rintro e w' ⟨rfl, rfl⟩
          go_wp2_with fail
          go_ret
          exact ⟨by rw [HX.out]; rfl, rfl⟩
        · have HX := Lib.hid (HN.out rfl)
          clear HN HS
          go_wp2_with fail
          refine L.out.mono ?_
          rintro e w' ⟨rfl, rfl⟩
          go_wp2_with fail
          refine D.out.mono ?_
          rintro e w' ⟨rfl, rfl⟩
          go_wp2_with fail
          go_round
          case rel => exact ⟨k + 1, by omega, by go_num, HX⟩
          case measure => simp [intOf]; omega
      · have HX := Lib.hid (HN.out (by simp))
        clear HN HS
        go_wp2_with fail
        refine L.out.mono ?_
        rintro e w' ⟨rfl, rfl⟩
        go_wp2_with fail
        go_round
        case rel => exact ⟨k + 1, by omega, by go_num, HX⟩
        case measure => simp [intOf]; omega
    · have HX : Hid (E = k) := Lib.hid (by
        have := HR.out
        rw [List.drop_eq_nil_of_le (by rw [bl_size]; omega)] at this
        simpa using this)
      go_wp2_with fail
      go_ret
      exact ⟨by rw [HX.out]; rfl, rfl⟩
set_option maxRecDepth 100000 in
theorem begins_any (s : ByteArray) (a : Nat) (p : List UInt8) (w : World) (hs : s.size ≤ 1000000) (hp : p.length ≤ 100) (ha : a ≤ s.size) :
    Calls Tryz.prog 58 #[.string s, .int .i64 a, .string (strOf p)] w fun e w' => e = .returned (.bool (p.isPrefixOf ((bl s).drop a))) ∧ w = w' := by
  have hz := strOf_size p
  have ha0 : (a : Int) ≤ s.size := by omega
  by_cases h1 : a + p.length ≤ s.size
  · have hx : s.extract a (a + p.length) = strOf (((bl s).drop a).take p.length) := by rw [piece_str]; congr 2; omega
    have he := str_same (((bl s).drop a).take p.length) p
    have hq : p.isPrefixOf ((bl s).drop a) = (((bl s).drop a).take p.length == p) := by
      rw [Bool.eq_iff_iff, pre_iff, beq_iff_eq]
      constructor
      · rintro ⟨r, h⟩; rw [h]; simp
      · intro h; exact ⟨((bl s).drop a).drop p.length, by conv => lhs; rw [← List.take_append_drop p.length ((bl s).drop a), h]⟩
    rw [← hx] at he
    rw [hq]
    obtain ⟨b, hb⟩ : ∃ b, b = (((bl s).drop a).take p.length == p) := ⟨_, rfl⟩
    rw [← hb] at he ⊢
    have h1' : (a : Int) + p.length ≤ s.size := by omega
    have htn : ((a : Int) + p.length).toNat = a + p.length := by omega
    obtain ⟨n, hn⟩ : ∃ n, n = p.length := ⟨_, rfl⟩
    obtain ⟨q, hq'⟩ : ∃ q, q = strOf p := ⟨_, rfl⟩
    rw [← hq'] at he hz ⊢
    rw [← hn] at he hz h1 h1' htn hp
    have h3' : (a : Int) + n ≤ 1000000 := by omega
    have h2' : (a : Int) ≤ (a : Int) + n := by omega
    clear hb hq hx hn hq'
    go_enter Tryz.func58, Tryz.ntmps58
    go_wp2_with fail
    go_ret
    exact ⟨rfl, rfl⟩
  · have hq : p.isPrefixOf ((bl s).drop a) = false := by
      rw [Bool.eq_false_iff]
      intro h
      obtain ⟨r, h⟩ := pre_iff.1 h
      have := congrArg List.length h
      rw [List.length_append, List.length_drop, bl_size] at this
      omega
    rw [hq]
    have h1' : ¬ (a : Int) + p.length ≤ s.size := by omega
    clear hq h1
    go_enter Tryz.func58, Tryz.ntmps58
    go_wp2_with fail
    go_ret
    exact ⟨rfl, rfl⟩
end Go.Proofs.YthgojbaindejjaaGreatDoor.lx

/- The reference's value of digits; its text of a number; its names; its glyphs. -/
namespace Go.Proofs.YthgojbaindejjaaGreatDoor.lx
open Go.ChangeShapes Go.WideShapes Go.ChangeAt Go.RowKit Go.Proofs.YthgojbaindejjaaGreatDoor.mem Go.Proofs.YthgojbaindejjaaGreatDoor.txt
set_option linter.unusedVariables false

def valR (d : List UInt8) (neg : Bool) : Int × Bool :=
  match numB d neg with
  | some n => (n, true)
  | none => (0, false)
theorem val_none {d : List UInt8} {neg : Bool} (h : ∀ n, numB d neg ≠ some n) : valR d neg = (0, false) := by
  unfold valR
  cases hn : numB d neg with
  | none => rfl
  | some n => exact absurd hn (h n)
theorem ret_pair {a b : Int} {p q : Bool} (h : (a, p) = (b, q)) : Ending.returned (.tuple #[.int .i64 a, .bool p]) = .returned (.tuple #[.int .i64 b, .bool q]) := by injection h with h1 h2; rw [h1, h2]
/-- What the walk needs of one digit. -/
theorem digit_quo (v d : Nat) (hd : d ≤ 9) : ∃ q : Int, (-9223372036854775808 + (d : Int)).tdiv 10 = q ∧ (-(v : Int) < q ↔ 9223372036854775808 < v * 10 + d) ∧ -922337203685477580 ≤ q ∧ q ≤ 0 := by
  refine ⟨_, rfl, ?_⟩
  have : (-9223372036854775808 + (d : Int)).tdiv 10 = if d = 9 then -922337203685477579 else -922337203685477580 := by
    match d, hd with
    | 0, _ => rfl
    | 1, _ => rfl
    | 2, _ => rfl
    | 3, _ => rfl
    | 4, _ => rfl
    | 5, _ => rfl
    | 6, _ => rfl
    | 7, _ => rfl
    | 8, _ => rfl
    | 9, _ => rfl
  rw [this]
  split <;> constructor <;> omega
set_option maxRecDepth 100000 in
set_option maxHeartbeats 2000000 in
theorem value_any (s : ByteArray) (neg : Bool) (w : World) (hs : s.size ≤ 1000000) :
    Calls Tryz.prog 59 #[.string s, .bool neg] w fun e w' => e = .returned (.tuple #[.int .i64 (valR (bl s) neg).1, .bool (valR (bl s) neg).2]) ∧ w = w' := by
  obtain ⟨R, hR⟩ : ∃ R, R = valR (bl s) neg := ⟨_, rfl⟩
  rw [← hR]
  have HR := Lib.hid hR; clear hR
  by_cases h0 : s.size = 0
  · have HX : Hid (R = (0, false)) := Lib.hid (by
      rw [HR.out]
      refine val_none fun n h => ?_
      exact (numB_some h).1 (List.eq_nil_of_length_eq_zero (by rw [bl_size]; exact h0)))
    go_enter Tryz.func59, Tryz.ntmps59
    go_wp2_with fail
    go_ret2
    exact ⟨by rw [HX.out]; rfl, rfl⟩
  have hp : 0 < s.size := by omega
  have hp' : (0 : Int) < s.size := by omega
  have hz : ((s.size : Int) == 0) = false := beq_eq_false_iff_ne.2 (by omega)
  have hh : (bl s).headD 0 = s[0] := by
    have := bl_drop s 0 hp
    rw [List.drop_zero] at this
    rw [this]; rfl
  obtain ⟨b, hb⟩ : ∃ b, b = ((s[0].toNat : Int) == 48) := ⟨_, rfl⟩
  have hb' := hb.symm
  have hH : b = true ↔ (bl s).headD 0 = 48 := by
    rw [hh, hb, beq_iff_eq]
    constructor
    · intro h; exact UInt8.toNat_inj.1 (by show s[0].toNat = 48; omega)
    · intro h; rw [h]; rfl
  by_cases hbad : b = true ∧ (1 < s.size ∨ neg = true)
  · obtain ⟨rfl, hbad⟩ := hbad
    have HX : Hid (R = (0, false)) := Lib.hid (by
      rw [HR.out]
      refine val_none fun n h => ?_
      unfold numB at h
      rw [if_neg] at h
      · cases h
      · rintro ⟨_, _, h3, _⟩
        obtain ⟨h4, h5⟩ := h3 (hH.1 rfl)
        rw [bl_size] at h4
        rcases hbad with h | h
        · omega
        · rw [h] at h5; cases h5)
    clear hH hb hh
    by_cases h1 : 1 < s.size
    · have h1' : (1 : Int) < s.size := by omega
      clear hbad
      go_enter Tryz.func59, Tryz.ntmps59
      go_wp2_with fail
      go_ret2
      exact ⟨by rw [HX.out]; rfl, rfl⟩
    · have h1' : ¬ (1 : Int) < s.size := by omega
      have hn : neg = true := hbad.resolve_left h1
      subst hn
      clear hbad
      go_enter Tryz.func59, Tryz.ntmps59
      go_wp2_with fail
      go_ret2
      exact ⟨by rw [HX.out]; rfl, rfl⟩
  have HG : Hid (∀ v : Nat, v = valF 0 (bl s) → (bl s).all digB = true → v ≤ (if neg then 9223372036854775808 else 9223372036854775807) → R = (if neg then -(v : Int) else (v : Int), true)) := Lib.hid (fun v hv hd hl => by
    rw [HR.out]
    unfold valR numB
    rw [if_pos]
    · rw [hv]
    · refine ⟨fun e => h0 (by rw [← bl_size, e]; rfl), hd, fun e => ?_, by rw [← hv]; exact hl⟩
      have hbt := hH.2 e
      refine ⟨?_, ?_⟩
      · rw [bl_size]
        rcases Nat.lt_or_ge 1 s.size with h | h
        · exact absurd ⟨hbt, .inl h⟩ hbad
        · omega
      · cases hn : neg
        · rfl
        · exact absurd ⟨hbt, .inr hn⟩ hbad)
  have HN : Hid (∀ k, (bl s).all digB = false ∨ 9223372036854775808 < valF 0 ((bl s).take k) ∨ (neg = false ∧ 9223372036854775807 < valF 0 ((bl s).take k)) → R = (0, false)) := Lib.hid (fun k h => by
    rw [HR.out]
    refine val_none fun n hn => ?_
    obtain ⟨_, h2, _, _, _, h6⟩ := numB_some hn
    have hle := valF_take_le (bl s) k
    rcases h with h | h | ⟨h, h'⟩
    · rw [h2] at h; cases h
    · cases neg <;> simp at h6 <;> omega
    · subst h; simp at h6; omega)
  clear hH hh hb h0
  -- the ways to the loop
  have hway : (b = false) ∨ (b = true ∧ ¬ (1 : Int) < s.size ∧ neg = false) := by
    cases b
    · exact .inl rfl
    · refine .inr ⟨rfl, fun h => hbad ⟨rfl, .inl (by omega)⟩, ?_⟩
      cases hn : neg
      · rfl
      · exact absurd ⟨rfl, .inr hn⟩ hbad
  clear hbad HR
  rcases hway with rfl | ⟨rfl, h1, hneg⟩
  all_goals
    go_enter Tryz.func59, Tryz.ntmps59
    go_wp2_with fail
    go_loop [6, 7] (fun n i => ∃ k v : Nat, k ≤ s.size ∧ i = .int .i64 k ∧ v ≤ 9223372036854775808 ∧ n = .int .i64 (-(v : Int)) ∧ Hid (v = valF 0 ((bl s).take k)) ∧ Hid (∀ y ∈ (bl s).take k, digB y = true)) (fun _ i => s.size - (intOf i).toNat)
    case atStart => exact ⟨0, 0, Nat.zero_le _, rfl, by omega, rfl, Lib.hid rfl, Lib.hid (fun y hy => by simp at hy)⟩
    case round =>
      obtain ⟨k, v, hk, rfl, hv, rfl, HV, HD⟩ := hrel
      by_cases hlt : k < s.size
      · have HA := Lib.hid (bl_at s k hlt)
        have D := Lib.hid (refDigit_any s[k] w)
        cases hc : digB s[k]
        · have HX := Lib.hid (HN.out k (.inl (by
            rw [Bool.eq_false_iff]; intro h
            have := List.all_eq_true.1 h _ (mem_at HA.out)
            rw [hc] at this; cases this)))
          rw [hc] at D
          clear hc
          go_wp2_with fail
          refine D.out.mono ?_
          rintro e w' ⟨rfl, rfl⟩
          go_wp2_with fail
          go_ret2
          exact ⟨by rw [HX.out]; rfl, rfl⟩
        · have hc' := dig_iff.1 hc
          have HD2 := Lib.hid (all_snoc HA.out HD.out hc)
          have HV2 : Hid (valF 0 ((bl s).take (k + 1)) = v * 10 + (s[k].toNat - 48)) := Lib.hid (by rw [take_snoc HA.out, valF_snoc, ← HV.out])
          rw [hc] at D
          clear hc
          obtain ⟨x, hx⟩ : ∃ x, x = s[k].toNat := ⟨_, rfl⟩
          rw [← hx] at HV2 hc'
          obtain ⟨d, rfl⟩ : ∃ d, x = 48 + d := ⟨x - 48, by omega⟩
          obtain ⟨q, hq1, hq2, hq3, hq4⟩ := digit_quo v d (by omega)
          have hd9 : (d : Int) ≤ 9 := by omega
          have hsub : (s[k].toNat : Int) - 48 = d := by omega
          have HX := Lib.hid hx
          have h48 : (48 : Int) ≤ s[k].toNat := by omega
          have h57 : (s[k].toNat : Int) ≤ 57 := by omega
          have Hq1 := Lib.hid hq1
          clear hx hc'
          by_cases ho : -(v : Int) < q
          · have HX := Lib.hid (HN.out (k + 1) (.inr (.inl (by rw [HV2.out]; have := hq2.1 ho; omega))))
            clear hq2
            go_wp2_with fail
            refine D.out.mono ?_
            rintro e w' ⟨rfl, rfl⟩
            go_wp2_with fail
            go_ret2
            exact ⟨by rw [HX.out]; rfl, rfl⟩
          · have hv2 : v * 10 + d ≤ 9223372036854775808 := by
              rcases Nat.lt_or_ge 9223372036854775808 (v * 10 + d) with h | h
              · exact absurd (hq2.2 h) ho
              · exact h
            have hm : -9223372036854775808 ≤ 10 * -(v : Int) := by omega
            have hm2 : -9223372036854775808 ≤ 10 * -(v : Int) - d := by omega
            clear hq2
            go_wp2_with fail
            refine D.out.mono ?_
            rintro e w' ⟨rfl, rfl⟩
            go_wp2_with fail
            go_round
            case rel => exact ⟨k + 1, v * 10 + d, by omega, by go_num, hv2, by go_num, Lib.hid (by rw [HV2.out]; omega), HD2⟩
            case measure => first | (simp [intOf]; done) | (simp [intOf]; omega)
      · obtain rfl : k = s.size := by omega
        have ht : (bl s).take s.size = bl s := List.take_of_length_le (by rw [bl_size]; omega)
        have hV := HV.out
        rw [ht] at hV
        have hD : (bl s).all digB = true := by
          have := HD.out
          rw [ht] at this
          exact List.all_eq_true.2 this
        have HG2 := Lib.hid (HG.out v hV hD)
        have HN2 := Lib.hid (HN.out s.size)
        rw [ht, ← hV] at HN2
        clear ht hV hD HV HD
        cases neg
        · by_cases hmin : v = 9223372036854775808
          · have HX := Lib.hid (HN2.out (.inr (.inr ⟨rfl, by omega⟩)))
            have hb2 : (-(v : Int) == -9223372036854775808) = true := by rw [beq_iff_eq]; omega
            clear HG2 HN2 hmin
            go_wp2_with fail
            go_ret2
            exact ⟨by rw [HX.out]; rfl, rfl⟩
          · have HX := Lib.hid (HG2.out (by simp; omega))
            have hb2 : (-(v : Int) == -9223372036854775808) = false := beq_eq_false_iff_ne.2 (by omega)
            have hv3 : (v : Int) ≤ 9223372036854775807 := by omega
            clear HG2 HN2 hmin
            go_wp2_with fail
            go_ret2
            exact ⟨by rw [HX.out]; simp, rfl⟩
        · first
            | exact Bool.noConfusion hneg
            | (have HX := Lib.hid (HG2.out (by simp; omega))
               clear HG2 HN2
               go_wp2_with fail
               go_ret2
               exact ⟨by rw [HX.out]; rfl, rfl⟩)
end Go.Proofs.YthgojbaindejjaaGreatDoor.lx

/- The reference's names, its text of a number, and its glyphs. -/
namespace Go.Proofs.YthgojbaindejjaaGreatDoor.lx
open Go.ChangeShapes Go.WideShapes Go.ChangeAt Go.RowKit Go.Proofs.YthgojbaindejjaaGreatDoor.mem Go.Proofs.YthgojbaindejjaaGreatDoor.txt
set_option linter.unusedVariables false

theorem name_cons {c : UInt8} {r : List UInt8} : nameB (c :: r) = (letB c && (((c :: r).takeWhile wpB).length == (c :: r).length)) := by
  unfold nameB
  cases h : letB c
  · rw [word_not h]; simp
  · rw [(word_let h).1, Bool.eq_iff_iff]
    simp only [ne_eq, reduceCtorEq, not_false_eq_true, decide_true, Bool.true_and, beq_iff_eq]
    constructor
    · intro e; rw [e]
    · intro e
      have := tw_take wpB (c :: r)
      rw [e, List.take_length] at this
      exact this.symm
theorem refName_any (s : ByteArray) (w : World) (hs : s.size ≤ 9223372036854775807) : Calls Tryz.prog 9 #[.string s] w fun e w' => e = .returned (.bool (nameB (bl s))) ∧ w = w' := by
  have hs' : s.size ≤ 9223372036854775807 := hs
  by_cases h0 : s.size = 0
  · have hq : nameB (bl s) = false := by
      rw [List.eq_nil_of_length_eq_zero (by rw [bl_size]; exact h0 : (bl s).length = 0)]; rfl
    rw [hq]
    have h1 : ¬ (0 : Int) < s.size := by omega
    clear hq h0
    go_enter Tryz.func9, Tryz.ntmps9
    go_wp2_with fail
    go_ret
    exact ⟨rfl, rfl⟩
  · have hp : 0 < s.size := by omega
    have hp' : (0 : Int) < s.size := by omega
    have L := Lib.hid (refLetter_any s[0] w)
    have E := Lib.hid (end_any s 0 w hs (by omega))
    have hq : nameB (bl s) = (letB s[0] && (((bl s).takeWhile wpB).length == s.size)) := by
      have e := bl_drop s 0 hp
      rw [List.drop_zero] at e
      have hl : (s[0] :: (bl s).drop (0 + 1)).length = s.size := by rw [← e, bl_size]
      have := name_cons (c := s[0]) (r := (bl s).drop (0 + 1))
      rw [hl, ← e] at this
      exact this
    rw [List.drop_zero, Nat.zero_add] at E
    obtain ⟨n, hn⟩ : ∃ n, n = ((bl s).takeWhile wpB).length := ⟨_, rfl⟩
    rw [← hn] at E hq
    obtain ⟨x, hx⟩ : ∃ x, x = letB s[0] := ⟨_, rfl⟩
    rw [← hx] at L hq
    obtain ⟨b, hb⟩ : ∃ b, b = (n == s.size) := ⟨_, rfl⟩
    rw [← hb] at hq
    have hb' : ((n : Int) == (s.size : Int)) = b := by rw [hb, Bool.eq_iff_iff, beq_iff_eq, beq_iff_eq]; omega
    have E' : Hid (Calls Tryz.prog 22 #[.string s, .int .i64 0] w fun e w' => e = .returned (.int .i64 (n : Int)) ∧ w = w') := E
    rw [hq]
    clear hq hn hx hb h0 E
    cases x
    · go_enter Tryz.func9, Tryz.ntmps9
      go_wp2_with fail
      refine L.out.mono ?_
      rintro e w' ⟨rfl, rfl⟩
      go_wp2_with fail
      go_ret
      exact ⟨rfl, rfl⟩
    · rw [Bool.true_and]
      go_enter Tryz.func9, Tryz.ntmps9
      go_wp2_with fail
      refine L.out.mono ?_
      rintro e w' ⟨rfl, rfl⟩
      go_wp2_with fail
      refine E'.out.mono ?_
      rintro e w' ⟨rfl, rfl⟩
      go_wp2_with fail
      go_ret
      exact ⟨rfl, rfl⟩
theorem refDecimal7_any (n : Int) (h1 : -9223372036854775808 ≤ n) (h2 : n ≤ 9223372036854775807) (w : World) : Calls Tryz.prog 24 #[.int .i64 n] w fun e w' => e = .returned (.string (strOf (decL n))) ∧ w = w' := by
  have F := Lib.hid (decimal_any n h1 h2 w)
  have hln := Lib.itoa_length_le n h1 h2
  by_cases h0 : n < 0
  · obtain ⟨u, e1, e2, e3⟩ := itoa_neg_cut h0
    rw [e1] at F hln
    rw [e2]
    simp only [List.length_cons] at hln
    have hc : ∀ W, (Op.stringOp .add ⟨#[194, 175]⟩ (strOf (Lib.decDigits u))).run Tryz.prog W = .ok (.string (txt.strOf (([194, 175] : List UInt8) ++ Lib.decDigits u))) W := cat_run [194, 175] (Lib.decDigits u) (by simp only [List.length_cons, List.length_nil]; omega)
    have ⟨hs1, hs2⟩ := cut_one (Lib.decDigits u) 45
    clear e1 e2 e3
    go_enter Tryz.func24, Tryz.ntmps24
    go_wp2_with fail
    refine F.out.mono ?_
    rintro e w1 ⟨rfl, rfl⟩
    go_wp2_with fail
    go_ret
    exact ⟨rfl, rfl⟩
  · have e : decL n = Lib.itoa n := by unfold decL Lib.itoa; rw [if_neg h0, if_neg h0]
    rw [e]
    clear e hln
    go_enter Tryz.func24, Tryz.ntmps24
    go_wp2_with fail
    refine F.out.mono ?_
    rintro e w1 ⟨rfl, rfl⟩
    go_wp2_with fail
    go_ret
    exact ⟨rfl, rfl⟩
/-- A row of texts in a block of its own. -/
def GlyRow (w : World) (A : Option Addr) : Prop := ∃ ad : Addr, A = some ad ∧ ad.block < w.heap.size ∧ ∀ k : Nat, ∀ t, gls[k]? = some t → w.cell? (ad.add k) = some (.string (strOf t))
theorem GlyRow.below {w w' : World} {A : Option Addr} (h : GlyRow w A) (hb : Below w.heap.size w w') : GlyRow w' A := by
  obtain ⟨g, e, h1, h2⟩ := h
  exact ⟨g, e, Nat.lt_of_lt_of_le h1 hb.size, fun k t hk => (hb.cell (by rw [blk_add]; exact h1)).trans (h2 k t hk)⟩
theorem glyphs_any (w : World) : Calls Tryz.prog 60 #[] w fun e w' => ∃ A, e = .returned (.slice A 12 12) ∧ GlyRow w' A ∧ Below w.heap.size w w' := by
  have HG := Lib.hid (show ∀ t : TypeId, GlyRow (w.alloc (.cells #[.string ⟨#[226, 134, 145]⟩, .string ⟨#[226, 134, 147]⟩, .string ⟨#[226, 140, 189]⟩, .string ⟨#[226, 141, 137]⟩, .string ⟨#[226, 141, 180]⟩, .string ⟨#[226, 141, 172]⟩, .string ⟨#[226, 134, 144]⟩, .string ⟨#[44]⟩, .string ⟨#[40]⟩, .string ⟨#[41]⟩, .string ⟨#[91]⟩, .string ⟨#[93]⟩] t)) (some ⟨w.heap.size, 0, none⟩) from fun t => by
    refine ⟨_, rfl, by simp, fun k u hk => ?_⟩
    rw [add_at, cell_of_row _ _ _ _ t (0, 0) (heap_alloc_new w _)]
    have hl : k < 12 := by
      obtain ⟨h, _⟩ := List.getElem?_eq_some_iff.1 hk
      exact h
    have : ∀ j : Fin 12, ∀ u, gls[j.val]? = some u → (#[.string ⟨#[226, 134, 145]⟩, .string ⟨#[226, 134, 147]⟩, .string ⟨#[226, 140, 189]⟩, .string ⟨#[226, 141, 137]⟩, .string ⟨#[226, 141, 180]⟩, .string ⟨#[226, 141, 172]⟩, .string ⟨#[226, 134, 144]⟩, .string ⟨#[44]⟩, .string ⟨#[40]⟩, .string ⟨#[41]⟩, .string ⟨#[91]⟩, .string ⟨#[93]⟩] : Array Value)[j.val]? = some (.string (strOf u)) := by
      intro j u hj
      match j with
      | 0 | 1 | 2 | 3 | 4 | 5 | 6 | 7 | 8 | 9 | 10 | 11 => injection hj with hj; subst hj; rfl
    exact this ⟨k, hl⟩ u hk)
  go_enter Tryz.func60, Tryz.ntmps60
  go_wp2_with fail
  go_ret
  exact ⟨_, rfl, HG.out _, (Below.refl _ _).alloc (Nat.le_refl _) _⟩
end Go.Proofs.YthgojbaindejjaaGreatDoor.lx
