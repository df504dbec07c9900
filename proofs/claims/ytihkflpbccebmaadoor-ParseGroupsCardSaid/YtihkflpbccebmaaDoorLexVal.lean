/- The reference's value of digits; its text of a number; its names; its glyphs. -/
import Derived.Test.YtihkflpbccebmaaDoorLexRef
import Derived.Test.YtihkflpbccebmaaDoorLexNum
namespace Go.Proofs.YtihkflpbccebmaaDoor.lx
open Go.ChangeShapes Go.WideShapes Go.ChangeAt Go.RowKit Go.Proofs.YtihkflpbccebmaaDoor.mem Go.Proofs.YtihkflpbccebmaaDoor.txt
set_option linter.unusedVariables false

def valR (d : List UInt8) (neg : Bool) : Int × Bool :=
  match numB d neg with
  | some n => (n, true)
  | none => (0, false)
theorem val_none {d : List UInt8} {neg : Bool} (h : ∀ n, numB d neg ≠ some n) : valR d neg = (0, false) := by
  unfold valR
  cases hn : numB d neg with
  | none => rfl
  | some n => exact absurd hn (h n)
theorem ret_pair {a b : Int} {p q : Bool} (h : (a, p) = (b, q)) : Ending.returned (.tuple #[.int .i64 a, .bool p]) = .returned (.tuple #[.int .i64 b, .bool q]) := by injection h with h1 h2; rw [h1, h2]
/-- What the walk needs of one digit. -/
theorem digit_quo (v d : Nat) (hd : d ≤ 9) : ∃ q : Int, (-9223372036854775808 + (d : Int)).tdiv 10 = q ∧ (-(v : Int) < q ↔ 9223372036854775808 < v * 10 + d) ∧ -922337203685477580 ≤ q ∧ q ≤ 0 := by
  refine ⟨_, rfl, ?_⟩
  have : (-9223372036854775808 + (d : Int)).tdiv 10 = if d = 9 then -922337203685477579 else -922337203685477580 := by
    match d, hd with
    | 0, _ => rfl
    | 1, _ => rfl
    | 2, _ => rfl
    | 3, _ => rfl
    | 4, _ => rfl
    | 5, _ => rfl
    | 6, _ => rfl
    | 7, _ => rfl
    | 8, _ => rfl
    | 9, _ => rfl
  rw [this]
  split <;> constructor <;> omega
set_option maxRecDepth 100000 in
set_option maxHeartbeats 2000000 in
theorem value_any (s : ByteArray) (neg : Bool) (w : World) (hs : s.size ≤ 1000000) :
    Calls Tryd.prog 27 #[.string s, .bool neg] w fun e w' => e = .returned (.tuple #[.int .i64 (valR (bl s) neg).1, .bool (valR (bl s) neg).2]) ∧ w = w' := by
  obtain ⟨R, hR⟩ : ∃ R, R = valR (bl s) neg := ⟨_, rfl⟩
  rw [← hR]
  have HR := Lib.hid hR; clear hR
  by_cases h0 : s.size = 0
  · have HX : Hid (R = (0, false)) := Lib.hid (by
      rw [HR.out]
      refine val_none fun n h => ?_
      exact (numB_some h).1 (List.eq_nil_of_length_eq_zero (by rw [bl_size]; exact h0)))
    go_enter Tryd.func27, Tryd.ntmps27
    go_wp2_with fail
    go_ret2
    exact ⟨by rw [HX.out]; rfl, rfl⟩
  have hp : 0 < s.size := by omega
  have hp' : (0 : Int) < s.size := by omega
  have hz : ((s.size : Int) == 0) = false := beq_eq_false_iff_ne.2 (by omega)
  have hh : (bl s).headD 0 = s[0] := by
    have := bl_drop s 0 hp
    rw [List.drop_zero] at this
    rw [this]; rfl
  obtain ⟨b, hb⟩ : ∃ b, b = ((s[0].toNat : Int) == 48) := ⟨_, rfl⟩
  have hb' := hb.symm
  have hH : b = true ↔ (bl s).headD 0 = 48 := by
    rw [hh, hb, beq_iff_eq]
    constructor
    · intro h; exact UInt8.toNat_inj.1 (by show s[0].toNat = 48; omega)
    · intro h; rw [h]; rfl
  by_cases hbad : b = true ∧ (1 < s.size ∨ neg = true)
  · obtain ⟨rfl, hbad⟩ := hbad
    have HX : Hid (R = (0, false)) := Lib.hid (by
      rw [HR.out]
      refine val_none fun n h => ?_
      unfold numB at h
      rw [if_neg] at h
      · cases h
      · rintro ⟨_, _, h3, _⟩
        obtain ⟨h4, h5⟩ := h3 (hH.1 rfl)
        rw [bl_size] at h4
        rcases hbad with h | h
        · omega
        · rw [h] at h5; cases h5)
    clear hH hb hh
    by_cases h1 : 1 < s.size
    · have h1' : (1 : Int) < s.size := by omega
      clear hbad
      go_enter Tryd.func27, Tryd.ntmps27
      go_wp2_with fail
      go_ret2
      exact ⟨by rw [HX.out]; rfl, rfl⟩
    · have h1' : ¬ (1 : Int) < s.size := by omega
      have hn : neg = true := hbad.resolve_left h1
      subst hn
      clear hbad
      go_enter Tryd.func27, Tryd.ntmps27
      go_wp2_with fail
      go_ret2
      exact ⟨by rw [HX.out]; rfl, rfl⟩
  have HG : Hid (∀ v : Nat, v = valF 0 (bl s) → (bl s).all digB = true → v ≤ (if neg then 9223372036854775808 else 9223372036854775807) → R = (if neg then -(v : Int) else (v : Int), true)) := Lib.hid (fun v hv hd hl => by
    rw [HR.out]
    unfold valR numB
    rw [if_pos]
    · rw [hv]
    · refine ⟨fun e => h0 (by rw [← bl_size, e]; rfl), hd, fun e => ?_, by rw [← hv]; exact hl⟩
      have hbt := hH.2 e
      refine ⟨?_, ?_⟩
      · rw [bl_size]
        rcases Nat.lt_or_ge 1 s.size with h | h
        · exact absurd ⟨hbt, .inl h⟩ hbad
        · omega
      · cases hn : neg
        · rfl
        · exact absurd ⟨hbt, .inr hn⟩ hbad)
  have HN : Hid (∀ k, (bl s).all digB = false ∨ 9223372036854775808 < valF 0 ((bl s).take k) ∨ (neg = false ∧ 9223372036854775807 < valF 0 ((bl s).take k)) → R = (0, false)) := Lib.hid (fun k h => by
    rw [HR.out]
    refine val_none fun n hn => ?_
    obtain ⟨_, h2, _, _, _, h6⟩ := numB_some hn
    have hle := valF_take_le (bl s) k
    rcases h with h | h | ⟨h, h'⟩
    · rw [h2] at h; cases h
    · cases neg <;> simp at h6 <;> omega
    · subst h; simp at h6; omega)
  clear hH hh hb h0
  -- the ways to the loop
  have hway : (b = false) ∨ (b = true ∧ ¬ (1 : Int) < s.size ∧ neg = false) := by
    cases b
    · exact .inl rfl
    · refine .inr ⟨rfl, fun h => hbad ⟨rfl, .inl (by omega)⟩, ?_⟩
      cases hn : neg
      · rfl
      · exact absurd ⟨rfl, .inr hn⟩ hbad
  clear hbad HR
  rcases hway with rfl | ⟨rfl, h1, hneg⟩
  all_goals
    go_enter Tryd.func27, Tryd.ntmps27
    go_wp2_with fail
    go_loop [6, 7] (fun n i => ∃ k v : Nat, k ≤ s.size ∧ i = .int .i64 k ∧ v ≤ 9223372036854775808 ∧ n = .int .i64 (-(v : Int)) ∧ Hid (v = valF 0 ((bl s).take k)) ∧ Hid (∀ y ∈ (bl s).take k, digB y = true)) (fun _ i => s.size - (intOf i).toNat)
    case atStart => exact ⟨0, 0, Nat.zero_le _, rfl, by omega, rfl, Lib.hid rfl, Lib.hid (fun y hy => by simp at hy)⟩
    case round =>
      obtain ⟨k, v, hk, rfl, hv, rfl, HV, HD⟩ := hrel
      by_cases hlt : k < s.size
      · have HA := Lib.hid (bl_at s k hlt)
        have D := Lib.hid (refDigit_any s[k] w)
        cases hc : digB s[k]
        · have HX := Lib.hid (HN.out k (.inl (by
            rw [Bool.eq_false_iff]; intro h
            have := List.all_eq_true.1 h _ (mem_at HA.out)
            rw [hc] at this; cases this)))
          rw [hc] at D
          clear hc
          go_wp2_with fail
          refine D.out.mono ?_
          rintro e w' ⟨rfl, rfl⟩
          go_wp2_with fail
          go_ret2
          exact ⟨by rw [HX.out]; rfl, rfl⟩
        · have hc' := dig_iff.1 hc
          have HD2 := Lib.hid (all_snoc HA.out HD.out hc)
          have HV2 : Hid (valF 0 ((bl s).take (k + 1)) = v * 10 + (s[k].toNat - 48)) := Lib.hid (by rw [take_snoc HA.out, valF_snoc, ← HV.out])
          rw [hc] at D
          clear hc
          obtain ⟨x, hx⟩ : ∃ x, x = s[k].toNat := ⟨_, rfl⟩
          rw [← hx] at HV2 hc'
          obtain ⟨d, rfl⟩ : ∃ d, x = 48 + d := ⟨x - 48, by omega⟩
          obtain ⟨q, hq1, hq2, hq3, hq4⟩ := digit_quo v d (by omega)
          have hd9 : (d : Int) ≤ 9 := by omega
          have hsub : (s[k].toNat : Int) - 48 = d := by omega
          have HX := Lib.hid hx
          have h48 : (48 : Int) ≤ s[k].toNat := by omega
          have h57 : (s[k].toNat : Int) ≤ 57 := by omega
          have Hq1 := Lib.hid hq1
          clear hx hc'
          by_cases ho : -(v : Int) < q
          · have HX := Lib.hid (HN.out (k + 1) (.inr (.inl (by rw [HV2.out]; have := hq2.1 ho; omega))))
            clear hq2
            go_wp2_with fail
            refine D.out.mono ?_
            rintro e w' ⟨rfl, rfl⟩
            go_wp2_with fail
            go_ret2
            exact ⟨by rw [HX.out]; rfl, rfl⟩
          · have hv2 : v * 10 + d ≤ 9223372036854775808 := by
              rcases Nat.lt_or_ge 9223372036854775808 (v * 10 + d) with h | h
              · exact absurd (hq2.2 h) ho
              · exact h
            have hm : -9223372036854775808 ≤ 10 * -(v : Int) := by omega
            have hm2 : -9223372036854775808 ≤ 10 * -(v : Int) - d := by omega
            clear hq2
            go_wp2_with fail
            refine D.out.mono ?_
            rintro e w' ⟨rfl, rfl⟩
            go_wp2_with fail
            go_round
            case rel => exact ⟨k + 1, v * 10 + d, by omega, by go_num, hv2, by go_num, Lib.hid (by rw [HV2.out]; omega), HD2⟩
            case measure => first | (simp [intOf]; done) | (simp [intOf]; omega)
      · obtain rfl : k = s.size := by omega
        have ht : (bl s).take s.size = bl s := List.take_of_length_le (by rw [bl_size]; omega)
        have hV := HV.out
        rw [ht] at hV
        have hD : (bl s).all digB = true := by
          have := HD.out
          rw [ht] at this
          exact List.all_eq_true.2 this
        have HG2 := Lib.hid (HG.out v hV hD)
        have HN2 := Lib.hid (HN.out s.size)
        rw [ht, ← hV] at HN2
        clear ht hV hD HV HD
        cases neg
        · by_cases hmin : v = 9223372036854775808
          · have HX := Lib.hid (HN2.out (.inr (.inr ⟨rfl, by omega⟩)))
            have hb2 : (-(v : Int) == -9223372036854775808) = true := by rw [beq_iff_eq]; omega
            clear HG2 HN2 hmin
            go_wp2_with fail
            go_ret2
            exact ⟨by rw [HX.out]; rfl, rfl⟩
          · have HX := Lib.hid (HG2.out (by simp; omega))
            have hb2 : (-(v : Int) == -9223372036854775808) = false := beq_eq_false_iff_ne.2 (by omega)
            have hv3 : (v : Int) ≤ 9223372036854775807 := by omega
            clear HG2 HN2 hmin
            go_wp2_with fail
            go_ret2
            exact ⟨by rw [HX.out]; simp, rfl⟩
        · first
            | exact Bool.noConfusion hneg
            | (have HX := Lib.hid (HG2.out (by simp; omega))
               clear HG2 HN2
               go_wp2_with fail
               go_ret2
               exact ⟨by rw [HX.out]; rfl, rfl⟩)
end Go.Proofs.YtihkflpbccebmaaDoor.lx
