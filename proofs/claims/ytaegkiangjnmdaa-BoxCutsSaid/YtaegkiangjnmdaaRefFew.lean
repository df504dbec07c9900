/- The reference's Few: whether a range has few axes, numbers and indices; the law's same: whether two lists of lists are the same. -/
import Derived.Test.YtaegkiangjnmdaaRefBetween
namespace Go.Proofs.Ytaegkiangjnmdaa.odo
open Go.ChangeShapes Go.WideShapes Go.ChangeAt Go.RowKit Go.Proofs.Ytaegkiangjnmdaa.mem Go.Proofs.Ytaegkiangjnmdaa.prod Go.Proofs.Ytaegkiangjnmdaa.shp Go.Proofs.Ytaegkiangjnmdaa.strd Go.Proofs.Ytaegkiangjnmdaa.gam Go.Proofs.Ytaegkiangjnmdaa.sml Go.Proofs.Ytaegkiangjnmdaa.all Go.Proofs.Ytaegkiangjnmdaa.eql
set_option linter.unusedVariables false

def nearB (xs : List Int) : Bool := xs.all fun x => decide (-1000 ≤ x ∧ x ≤ 1000)
def fewB (lo hi : List Int) (most : Int) : Bool :=
  decide (lo.length = hi.length ∧ lo.length ≤ 5) && (nearB lo && nearB hi) && decide (prodL (maxL (dimsL lo hi)) ≤ most ∨ (insB lo hi lo = false ∧ prodL (maxL (dimsL lo hi)) ≤ 100 * most))
theorem near_of {xs : List Int} (h : nearB xs = true) : ∀ x ∈ xs, -1000 ≤ x ∧ x ≤ 1000 := fun x hx => of_decide_eq_true (List.all_eq_true.1 h x hx)
theorem near_step {xs : List Int} {k : Nat} {x : Int} (h : xs[k]? = some x) : nearB (xs.drop k) = (decide (-1000 ≤ x ∧ x ≤ 1000) && nearB (xs.drop (k + 1))) := by
  rw [drop_at h]; rfl
theorem few_out {lo hi : List Int} {most : Int} (h : fewB lo hi most = true) : lo.length = hi.length ∧ lo.length ≤ 5 ∧ (∀ x ∈ lo, -1000 ≤ x ∧ x ≤ 1000) ∧ (∀ x ∈ hi, -1000 ≤ x ∧ x ≤ 1000) ∧ (prodL (maxL (dimsL lo hi)) ≤ most ∨ (insB lo hi lo = false ∧ prodL (maxL (dimsL lo hi)) ≤ 100 * most)) := by
  unfold fewB at h
  simp only [Bool.and_eq_true, decide_eq_true_eq] at h
  exact ⟨h.1.1.1, h.1.1.2, near_of h.1.2.1, near_of h.1.2.2, h.2⟩
theorem few_at {lo hi : List Int} {k : Nat} {a b : Int} (ha : lo[k]? = some a) (hb : hi[k]? = some b) : (maxL (dimsL lo hi))[k]? = some (max (b - a) 1) := by
  rw [maxL_at (dims_at ha hb)]
  congr 1
  split <;> omega

theorem few_prod {D : List Int} {k : Nat} {f t N : Int} (hD : ∀ y ∈ D, 1 ≤ y) (hf : D[k]? = some f) (ht : 1 ≤ t) (hN : N = prodL D) (h : t * prodL (D.drop k) = N ∨ (1000000 ≤ t ∧ 1000000 ≤ N)) :
    (min t 1000000) * f * prodL (D.drop (k + 1)) = N ∨ (1000000 ≤ (min t 1000000) * f ∧ 1000000 ≤ N) := by
  have hf1 := hD f (mem_at hf)
  have hp := prodL_pos (xs := D.drop k) fun z hz => hD z (List.mem_of_mem_drop hz)
  rcases Int.lt_or_le 1000000 t with h1 | h1
  · refine .inr ?_
    rw [Int.min_eq_right (by omega)]
    have h2 : 1000000 ≤ N := by
      rcases h with h | h
      · have := Int.mul_le_mul_of_nonneg_left hp (show 0 ≤ t by omega)
        omega
      · exact h.2
    omega
  · rw [Int.min_eq_left h1]
    rcases h with h | h
    · refine .inl ?_
      rw [← h, prodL_step hf, Int.mul_assoc, Int.mul_comm f]
    · refine .inr ⟨?_, h.2⟩
      have : t = 1000000 := by omega
      subst this
      omega

set_option maxHeartbeats 4000000 in
theorem few_any (A B : Option Addr) (n m c d : Nat) (lo hi : List Int) (most : Int) (w : World) (hn : n ≤ maxLen) (hm : m ≤ maxLen) (ha : Rd w A n lo) (hb : Rd w B m hi) (hm1 : 1 ≤ most) (hm2 : most ≤ 1000) :
    Calls Try.prog 24 #[.slice A n c, .slice B m d, .int .i64 most] w fun e w' => e = .returned (.bool (fewB lo hi most)) ∧ ∃ q, w' = w.drewN q := by
  unfold maxLen at hn hm
  have HA := Lib.hid ha; have HB := Lib.hid hb; clear ha hb
  obtain ⟨r, hr⟩ : ∃ r, r = fewB lo hi most := ⟨_, rfl⟩
  rw [← hr]
  have HR := Lib.hid hr; clear hr
  by_cases hnm : n = m
  · subst hnm
    by_cases h5 : 5 < n
    · have HE := Lib.hid (show r = false by rw [HR.out]; unfold fewB; rw [decide_eq_false (by rw [HA.out.1]; omega)]; rfl)
      go_enter Try.func24, Try.ntmps24
      go_wp2_with fail
      go_ret
      exact ⟨ret_bool HE.out.symm, 0, rfl⟩
    · obtain ⟨D, hD⟩ : ∃ D, D = maxL (dimsL lo hi) := ⟨_, rfl⟩
      obtain ⟨N, hN⟩ : ∃ N, N = prodL D := ⟨_, rfl⟩
      have HRR := Lib.hid (show r = ((nearB lo && nearB hi) && decide (N ≤ most ∨ (insB lo hi lo = false ∧ N ≤ 100 * most))) by
        rw [HR.out]; unfold fewB; rw [decide_eq_true (by rw [HA.out.1, HB.out.1]; omega), Bool.true_and, hN, hD])
      have HDP := Lib.hid (show ∀ y ∈ D, 1 ≤ y by rw [hD]; exact maxL_pos)
      have HDA := Lib.hid (fun (k : Nat) (a b : Int) (h1 : lo[k]? = some a) (h2 : hi[k]? = some b) => show D[k]? = some (max (b - a) 1) by rw [hD]; exact few_at h1 h2)
      have HDL := Lib.hid (show D.length = n by rw [hD, maxL_len, dims_len (by rw [HA.out.1, HB.out.1]), HA.out.1])
      have HN := Lib.hid hN
      clear hN hD
      go_enter Try.func24, Try.ntmps24
      go_wp2_with fail
      go_loopw [7, 8, 9] (fun s z i wr => ∃ k q : Nat, k ≤ n ∧ i = .int .i64 k ∧ wr = w.drewN q ∧ ∃ (t : Int) (em : Bool), s = .int .i64 t ∧ z = .bool em ∧ 1 ≤ t ∧ t ≤ 2001000000 ∧ Hid ((nearB lo && nearB hi) = (nearB (lo.drop k) && nearB (hi.drop k))) ∧ Hid (insB lo hi lo = (!em && insB (lo.drop k) (hi.drop k) (lo.drop k))) ∧ Hid (t * prodL (D.drop k) = N ∨ (1000000 ≤ t ∧ 1000000 ≤ N))) (fun _ _ i _ => n - (intOf i).toNat)
      case atStart => exact ⟨0, 0, Nat.zero_le _, rfl, rfl, 1, false, rfl, rfl, by omega, by omega, Lib.hid rfl, Lib.hid rfl, Lib.hid (.inl (by rw [HN.out, List.drop_zero, Int.one_mul]))⟩
      case round =>
        obtain ⟨k, q, hk, rfl, rfl, t, em, rfl, rfl, ht1, ht2, Hr, He, Ht⟩ := hrel
        by_cases hlt : k < n
        · obtain ⟨ad1, a, rfl, hka, hc1⟩ := HA.out.at_ hlt
          obtain ⟨ad2, b, rfl, hkb, hc2⟩ := HB.out.at_ hlt
          have HS := Lib.hid (Hr.out.trans (show (nearB (lo.drop k) && nearB (hi.drop k)) = ((decide (-1000 ≤ a ∧ a ≤ 1000) && decide (-1000 ≤ b ∧ b ≤ 1000)) && (nearB (lo.drop (k + 1)) && nearB (hi.drop (k + 1)))) by
            rw [near_step hka, near_step hkb]; cases decide (-1000 ≤ a ∧ a ≤ 1000) <;> cases decide (-1000 ≤ b ∧ b ≤ 1000) <;> simp))
          have HI := Lib.hid (He.out.trans (by rw [ins_step hka hkb hka]))
          have HF := Lib.hid (few_prod HDP.out (HDA.out k a b hka hkb) ht1 HN.out Ht.out)
          clear hka hkb
          have HOUT := Lib.hid (show (a < -1000 ∨ b < -1000 ∨ 1000 < a ∨ 1000 < b) → r = false by
            intro hout
            rw [HRR.out, HS.out]
            have : (decide (-1000 ≤ a ∧ a ≤ 1000) && decide (-1000 ≤ b ∧ b ≤ 1000)) = false := by
              rw [Bool.and_eq_false_iff]
              rcases hout with h | h | h | h
              · exact .inl (decide_eq_false (by omega))
              · exact .inr (decide_eq_false (by omega))
              · exact .inl (decide_eq_false (by omega))
              · exact .inr (decide_eq_false (by omega))
            rw [this]; rfl)
          by_cases h1 : a < -1000
          · have HE := Lib.hid (HOUT.out (.inl h1))
            go_wp2_with fail
            go_ret
            exact ⟨ret_bool HE.out.symm, q, rfl⟩
          by_cases h2 : b < -1000
          · have HE := Lib.hid (HOUT.out (.inr (.inl h2)))
            go_wp2_with fail
            go_ret
            exact ⟨ret_bool HE.out.symm, q, rfl⟩
          by_cases h3 : 1000 < a
          · have HE := Lib.hid (HOUT.out (.inr (.inr (.inl h3))))
            go_wp2_with fail
            go_ret
            exact ⟨ret_bool HE.out.symm, q, rfl⟩
          by_cases h4 : 1000 < b
          · have HE := Lib.hid (HOUT.out (.inr (.inr (.inr h4))))
            go_wp2_with fail
            go_ret
            exact ⟨ret_bool HE.out.symm, q, rfl⟩
          have HS2 := Lib.hid (HS.out.trans (show _ = (nearB (lo.drop (k + 1)) && nearB (hi.drop (k + 1))) by rw [decide_eq_true (by omega), decide_eq_true (by omega)]; rfl))
          clear HOUT HS Hr
          have hi1 : (k : Int) < (n : Int) := by omega
          have hw1 : IntKind.i64.wrap (b - a) = b - a := wrap_in (by omega) (by omega)
          by_cases hba : b - a < 1
          · have hle : b ≤ a := by omega
            have hdl : decide (b ≤ a) = true := decide_eq_true hle
            cases em
            · by_cases ht6 : 1000000 < t
              · have hTF : (1 : Int) ≤ 1000000 * 1 ∧ (1000000 : Int) * 1 ≤ 2000000000 := by
                  omega
                have hw2 : IntKind.i64.wrap (1000000 * 1) = 1000000 * 1 := wrap_in (by omega) (by omega)
                have HF2 := HF.out
                rw [Int.min_eq_right (by omega), Int.max_eq_right (by omega)] at HF2
                have HF3 := Lib.hid HF2
                have HI2 := Lib.hid (show insB lo hi lo = (!true && insB (lo.drop (k + 1)) (hi.drop (k + 1)) (lo.drop (k + 1))) by rw [HI.out, decide_eq_false (by omega)]; rfl)
                have HTF := Lib.hid hTF
                clear hTF HF2 HF HI
                go_wp2_with fail
                go_quiet (fail)
                go_wp2_with fail
                go_quiet (fail)
                clear hw1 hw2
                go_wp2_with fail
                go_roundw
                case rel => exact ⟨k + 1, _, by omega, by go_num, rfl, 1000000 * 1, true, by first | rfl | (congr 1; omega), rfl, HTF.out.1, Int.le_trans HTF.out.2 (by omega), HS2, HI2, HF3⟩
                case measure => first | (simp [intOf]; done) | (simp [intOf]; omega)
              · have hTF : 1 ≤ t * 1 ∧ t * 1 ≤ 2000000000 := by
                  omega
                have hw2 : IntKind.i64.wrap (t * 1) = t * 1 := wrap_in (by omega) (by omega)
                have HF2 := HF.out
                rw [Int.min_eq_left (by omega), Int.max_eq_right (by omega)] at HF2
                have HF3 := Lib.hid HF2
                have HI2 := Lib.hid (show insB lo hi lo = (!true && insB (lo.drop (k + 1)) (hi.drop (k + 1)) (lo.drop (k + 1))) by rw [HI.out, decide_eq_false (by omega)]; rfl)
                have HTF := Lib.hid hTF
                clear hTF HF2 HF HI
                go_wp2_with fail
                go_quiet (fail)
                go_wp2_with fail
                go_quiet (fail)
                clear hw1 hw2
                go_wp2_with fail
                go_roundw
                case rel => exact ⟨k + 1, _, by omega, by go_num, rfl, t * 1, true, by first | rfl | (congr 1; omega), rfl, HTF.out.1, Int.le_trans HTF.out.2 (by omega), HS2, HI2, HF3⟩
                case measure => first | (simp [intOf]; done) | (simp [intOf]; omega)
            · by_cases ht6 : 1000000 < t
              · have hTF : (1 : Int) ≤ 1000000 * 1 ∧ (1000000 : Int) * 1 ≤ 2000000000 := by
                  omega
                have hw2 : IntKind.i64.wrap (1000000 * 1) = 1000000 * 1 := wrap_in (by omega) (by omega)
                have HF2 := HF.out
                rw [Int.min_eq_right (by omega), Int.max_eq_right (by omega)] at HF2
                have HF3 := Lib.hid HF2
                have HI2 := Lib.hid (show insB lo hi lo = (!true && insB (lo.drop (k + 1)) (hi.drop (k + 1)) (lo.drop (k + 1))) by rw [HI.out]; rfl)
                have HTF := Lib.hid hTF
                clear hTF HF2 HF HI
                go_wp2_with fail
                go_quiet (fail)
                go_wp2_with fail
                go_quiet (fail)
                clear hw1 hw2
                go_wp2_with fail
                go_roundw
                case rel => exact ⟨k + 1, _, by omega, by go_num, rfl, 1000000 * 1, true, by first | rfl | (congr 1; omega), rfl, HTF.out.1, Int.le_trans HTF.out.2 (by omega), HS2, HI2, HF3⟩
                case measure => first | (simp [intOf]; done) | (simp [intOf]; omega)
              · have hTF : 1 ≤ t * 1 ∧ t * 1 ≤ 2000000000 := by
                  omega
                have hw2 : IntKind.i64.wrap (t * 1) = t * 1 := wrap_in (by omega) (by omega)
                have HF2 := HF.out
                rw [Int.min_eq_left (by omega), Int.max_eq_right (by omega)] at HF2
                have HF3 := Lib.hid HF2
                have HI2 := Lib.hid (show insB lo hi lo = (!true && insB (lo.drop (k + 1)) (hi.drop (k + 1)) (lo.drop (k + 1))) by rw [HI.out]; rfl)
                have HTF := Lib.hid hTF
                clear hTF HF2 HF HI
                go_wp2_with fail
                go_quiet (fail)
                go_wp2_with fail
                go_quiet (fail)
                clear hw1 hw2
                go_wp2_with fail
                go_roundw
                case rel => exact ⟨k + 1, _, by omega, by go_num, rfl, t * 1, true, by first | rfl | (congr 1; omega), rfl, HTF.out.1, Int.le_trans HTF.out.2 (by omega), HS2, HI2, HF3⟩
                case measure => first | (simp [intOf]; done) | (simp [intOf]; omega)
          · have hle : ¬ b ≤ a := by omega
            have hdl : decide (b ≤ a) = false := decide_eq_false hle
            cases em
            · by_cases ht6 : 1000000 < t
              · have hTF : 1 ≤ 1000000 * (b - a) ∧ 1000000 * (b - a) ≤ 2000000000 := by
                  omega
                have hw2 : IntKind.i64.wrap (1000000 * (b - a)) = 1000000 * (b - a) := wrap_in (by omega) (by omega)
                have HF2 := HF.out
                rw [Int.min_eq_right (by omega), Int.max_eq_left (by omega)] at HF2
                have HF3 := Lib.hid HF2
                have HI2 := Lib.hid (show insB lo hi lo = (!false && insB (lo.drop (k + 1)) (hi.drop (k + 1)) (lo.drop (k + 1))) by rw [HI.out, decide_eq_true (by omega)]; rfl)
                have HTF := Lib.hid hTF
                clear hTF HF2 HF HI
                go_wp2_with fail
                go_quiet (fail)
                go_wp2_with fail
                go_quiet (fail)
                clear hw1 hw2
                go_wp2_with fail
                go_roundw
                case rel => exact ⟨k + 1, _, by omega, by go_num, rfl, 1000000 * (b - a), false, by first | rfl | (congr 1; omega), rfl, HTF.out.1, Int.le_trans HTF.out.2 (by omega), HS2, HI2, HF3⟩
                case measure => first | (simp [intOf]; done) | (simp [intOf]; omega)
              · have hTF : 1 ≤ t * (b - a) ∧ t * (b - a) ≤ 2000000000 := by
                  have q1 := Int.mul_le_mul ht1 (show (1 : Int) ≤ b - a by omega) (by omega) (by omega)
                  have q2 := Int.mul_le_mul (show t ≤ 1000000 by omega) (show b - a ≤ 2000 by omega) (by omega) (by omega)
                  omega
                have hw2 : IntKind.i64.wrap (t * (b - a)) = t * (b - a) := wrap_in (by omega) (by omega)
                have HF2 := HF.out
                rw [Int.min_eq_left (by omega), Int.max_eq_left (by omega)] at HF2
                have HF3 := Lib.hid HF2
                have HI2 := Lib.hid (show insB lo hi lo = (!false && insB (lo.drop (k + 1)) (hi.drop (k + 1)) (lo.drop (k + 1))) by rw [HI.out, decide_eq_true (by omega)]; rfl)
                have HTF := Lib.hid hTF
                clear hTF HF2 HF HI
                go_wp2_with fail
                go_quiet (fail)
                go_wp2_with fail
                go_quiet (fail)
                clear hw1 hw2
                go_wp2_with fail
                go_roundw
                case rel => exact ⟨k + 1, _, by omega, by go_num, rfl, t * (b - a), false, by first | rfl | (congr 1; omega), rfl, HTF.out.1, Int.le_trans HTF.out.2 (by omega), HS2, HI2, HF3⟩
                case measure => first | (simp [intOf]; done) | (simp [intOf]; omega)
            · by_cases ht6 : 1000000 < t
              · have hTF : 1 ≤ 1000000 * (b - a) ∧ 1000000 * (b - a) ≤ 2000000000 := by
                  omega
                have hw2 : IntKind.i64.wrap (1000000 * (b - a)) = 1000000 * (b - a) := wrap_in (by omega) (by omega)
                have HF2 := HF.out
                rw [Int.min_eq_right (by omega), Int.max_eq_left (by omega)] at HF2
                have HF3 := Lib.hid HF2
                have HI2 := Lib.hid (show insB lo hi lo = (!true && insB (lo.drop (k + 1)) (hi.drop (k + 1)) (lo.drop (k + 1))) by rw [HI.out]; rfl)
                have HTF := Lib.hid hTF
                clear hTF HF2 HF HI
                go_wp2_with fail
                go_quiet (fail)
                go_wp2_with fail
                go_quiet (fail)
                clear hw1 hw2
                go_wp2_with fail
                go_roundw
                case rel => exact ⟨k + 1, _, by omega, by go_num, rfl, 1000000 * (b - a), true, by first | rfl | (congr 1; omega), rfl, HTF.out.1, Int.le_trans HTF.out.2 (by omega), HS2, HI2, HF3⟩
                case measure => first | (simp [intOf]; done) | (simp [intOf]; omega)
              · have hTF : 1 ≤ t * (b - a) ∧ t * (b - a) ≤ 2000000000 := by
                  have q1 := Int.mul_le_mul ht1 (show (1 : Int) ≤ b - a by omega) (by omega) (by omega)
                  have q2 := Int.mul_le_mul (show t ≤ 1000000 by omega) (show b - a ≤ 2000 by omega) (by omega) (by omega)
                  omega
                have hw2 : IntKind.i64.wrap (t * (b - a)) = t * (b - a) := wrap_in (by omega) (by omega)
                have HF2 := HF.out
                rw [Int.min_eq_left (by omega), Int.max_eq_left (by omega)] at HF2
                have HF3 := Lib.hid HF2
                have HI2 := Lib.hid (show insB lo hi lo = (!true && insB (lo.drop (k + 1)) (hi.drop (k + 1)) (lo.drop (k + 1))) by rw [HI.out]; rfl)
                have HTF := Lib.hid hTF
                clear hTF HF2 HF HI
                go_wp2_with fail
                go_quiet (fail)
                go_wp2_with fail
                go_quiet (fail)
                clear hw1 hw2
                go_wp2_with fail
                go_roundw
                case rel => exact ⟨k + 1, _, by omega, by go_num, rfl, t * (b - a), true, by first | rfl | (congr 1; omega), rfl, HTF.out.1, Int.le_trans HTF.out.2 (by omega), HS2, HI2, HF3⟩
                case measure => first | (simp [intOf]; done) | (simp [intOf]; omega)
        · have HE := Lib.hid (show t = N ∨ (1000000 ≤ t ∧ 1000000 ≤ N) by
            have := Ht.out
            rw [List.drop_of_length_le (by rw [HDL.out]; omega)] at this
            show t = N ∨ _
            rcases this with h | h
            · exact .inl (by rw [← h]; show t = t * 1; omega)
            · exact .inr h)
          have HIE := Lib.hid (show insB lo hi lo = !em by
            rw [He.out, ins_end (n := n) HA.out.1 HB.out.1 HA.out.1 hlt]; simp)
          have HRE := Lib.hid (show r = decide (N ≤ most ∨ (insB lo hi lo = false ∧ N ≤ 100 * most)) by
            rw [HRR.out, Hr.out, List.drop_of_length_le (by rw [HA.out.1]; omega), List.drop_of_length_le (by rw [HB.out.1]; omega)]; rfl)
          clear Ht He Hr
          by_cases h1 : t ≤ most
          · have HF := Lib.hid (show r = true by rw [HRE.out]; exact decide_eq_true (.inl (by have := HE.out; omega)))
            go_wp2_with fail
            go_ret
            exact ⟨ret_bool HF.out.symm, q, rfl⟩
          · cases em
            · have HF := Lib.hid (show r = false by
                rw [HRE.out]
                refine decide_eq_false ?_
                rintro (h | h)
                · have := HE.out; omega
                · rw [HIE.out] at h; simp at h)
              go_wp2_with fail
              go_ret
              exact ⟨ret_bool HF.out.symm, q, rfl⟩
            · by_cases h2 : t ≤ 100 * most
              · have HF := Lib.hid (show r = true by rw [HRE.out]; exact decide_eq_true (.inr ⟨by rw [HIE.out]; rfl, by have := HE.out; omega⟩))
                go_wp2_with fail
                go_ret
                exact ⟨ret_bool HF.out.symm, q, rfl⟩
              · have HF := Lib.hid (show r = false by
                  rw [HRE.out]
                  refine decide_eq_false ?_
                  rintro (h | h)
                  · have := HE.out; omega
                  · have := HE.out; omega)
                go_wp2_with fail
                go_ret
                exact ⟨ret_bool HF.out.symm, q, rfl⟩
  · have HE := Lib.hid (show r = false by rw [HR.out]; unfold fewB; rw [decide_eq_false (by rw [HA.out.1, HB.out.1]; omega)]; rfl)
    have hnm' : ¬ (n : Int) = (m : Int) := by omega
    go_enter Try.func24, Try.ntmps24
    go_wp2_with fail
    go_ret
    exact ⟨ret_bool HE.out.symm, 0, rfl⟩

/-- A callee that reads and draws, in a region that draws its order, behind another one. -/
theorem quiet_more {P : Program} {f : FuncId} {args : Array Value} {w : World} {q n : Nat} {v : Value} (h : Calls P f args (w.drewN (q + n)) fun e w' => e = .returned v ∧ ∃ m, w' = (w.drewN (q + n)).drewN m) :
    Calls P f args (w.drewN (q + n)) fun e w' => e = .returned v ∧ ∃ m, w' = w.drewN (q + m) :=
  h.mono fun _ _ ⟨he, m, hm⟩ => ⟨he, n + m, by rw [hm, World.drewN_drewN, Nat.add_assoc]⟩
theorem rdM_drewN {w : World} {A : Option Addr} {n : Nat} {xss : List (List Int)} (h : RdM w A n xss) (q : Nat) : RdM (w.drewN q) A n xss := h.below (below_drewN (Below.refl _ _) q)

end Go.Proofs.Ytaegkiangjnmdaa.odo
