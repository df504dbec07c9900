/- Stage 7's laws, plain mathematics: the tokens of a number's text, of two texts with a blank between them, and of a text with something behind it. -/
import Derived.Test.YthgojbaindejjaaGreatDoorLexTok
import Derived.Test.YthgojbaindejjaaGreatDoorTokRow
namespace Go.Proofs.YthgojbaindejjaaGreatDoor.lx
set_option linter.unusedVariables false
set_option linter.unusedSimpArgs false

theorem tw_full : ∀ (l : List UInt8), l.all wpB = true → l.takeWhile wpB = l
  | [], _ => rfl
  | c :: r, h => by
    simp only [List.all_cons, Bool.and_eq_true] at h
    rw [List.takeWhile_cons, if_pos h.1, tw_full r h.2]
theorem digits_wp (u : Nat) : (Lib.decDigits u).all wpB = true := by
  rw [List.all_eq_true]; intro c hc; exact dig_wp (List.all_eq_true.1 (digits_dig u) c hc)
theorem digits_cons (u : Nat) : ∃ c r, Lib.decDigits u = c :: r ∧ digB c = true := by
  cases h : Lib.decDigits u with
  | nil => exact absurd h (digits_ne u)
  | cons c r =>
    have := digits_dig u
    rw [h] at this
    simp only [List.all_cons, Bool.and_eq_true] at this
    exact ⟨c, r, rfl, this.1⟩
theorem neg_hi (l : List UInt8) : negB (194 :: 175 :: l) = true := pre_iff.2 ⟨l, rfl⟩
theorem neg_dig {c : UInt8} {r : List UInt8} (h : digB c = true) : negB (c :: r) = false := by
  rw [Bool.eq_false_iff]; intro h'
  obtain ⟨q, hq⟩ := pre_iff.1 h'
  have e : c = 194 := by rw [hiM] at hq; injection hq
  subst e
  revert h; decide
theorem bl_dig {c : UInt8} (h : digB c = true) : blB c = false := by
  rw [dig_iff] at h; rw [Bool.eq_false_iff]; intro h'; rw [bl_iff] at h'; omega
/-- The number at the head of a text that begins with a number's text, with what follows. -/
theorem dec_head (n : Int) (b : List UInt8) : ∃ c r, decL n ++ b = c :: r ∧ blB c = false ∧ letB c = false ∧ negB (decL n ++ b) = decide (n < 0) ∧ preL (decL n ++ b) ++ Lib.decDigits n.natAbs = decL n ∧ digL (decL n ++ b) = (Lib.decDigits n.natAbs ++ b).takeWhile wpB := by
  by_cases h : n < 0
  · have e : decL n = 194 :: 175 :: Lib.decDigits n.natAbs := by unfold decL; rw [if_pos h]; rfl
    have hn := neg_hi (Lib.decDigits n.natAbs ++ b)
    have hp : preL (194 :: 175 :: (Lib.decDigits n.natAbs ++ b)) = [194, 175] := by unfold preL; rw [hn]; rfl
    refine ⟨194, 175 :: (Lib.decDigits n.natAbs ++ b), by rw [e]; rfl, by decide, by decide, ?_, ?_, ?_⟩
    · rw [e]; simp only [List.cons_append]; rw [hn]; simp [h]
    · rw [e]; simp only [List.cons_append]; rw [hp]; rfl
    · rw [e]; simp only [List.cons_append]; unfold digL; rw [hp]; rfl
  · have e : decL n = Lib.decDigits n.natAbs := by unfold decL; rw [if_neg h]; congr 1; omega
    obtain ⟨c, r, hc, hd⟩ := digits_cons n.natAbs
    have hn := neg_dig (r := r ++ b) hd
    have hp : preL (c :: (r ++ b)) = [] := by unfold preL; rw [hn]; rfl
    refine ⟨c, r ++ b, by rw [e, hc]; rfl, bl_dig hd, dig_let hd, ?_, ?_, ?_⟩
    · rw [e, hc]; simp only [List.cons_append]; rw [hn]; simp [h]
    · rw [e, hc]; simp only [List.cons_append]; rw [hp]; rfl
    · rw [e, hc]; simp only [List.cons_append]; unfold digL; rw [hp]; rfl
theorem num_dec (n : Int) (h1 : -9223372036854775808 ≤ n) (h2 : n ≤ 9223372036854775807) : numB (Lib.decDigits n.natAbs) (decide (n < 0)) = some n := by
  by_cases h : n < 0
  · rw [decide_eq_true h, numB_neg _ (by omega) (by omega)]; congr 1; omega
  · rw [decide_eq_false h, numB_pos _ (by omega)]; congr 1; omega
theorem fir_dec (n : Int) (h1 : -9223372036854775808 ≤ n) (h2 : n ≤ 9223372036854775807) : fir (decL n) = some ⟨2, decL n, n⟩ := by
  obtain ⟨c, r, e1, e2, e3, e4, e5, e6⟩ := dec_head n []
  rw [List.append_nil] at e1 e4 e5 e6
  rw [List.append_nil, tw_full _ (digits_wp _)] at e6
  have hne : digL (c :: r) ≠ [] := by rw [← e1, e6]; exact digits_ne _
  rw [e1, fir_num e3 hne, ← e1, e4, e6, num_dec n h1 h2, e5]
  rfl
theorem tok_dec (n : Int) (h1 : -9223372036854775808 ≤ n) (h2 : n ≤ 9223372036854775807) : tok (decL n) = some [⟨2, decL n, n⟩] := by
  obtain ⟨c, r, e1, e2, _⟩ := dec_head n []
  rw [List.append_nil] at e1
  have hf := fir_dec n h1 h2
  have ht : tok (decL n) = (tok ((decL n).drop (decL n).length)).map ((⟨2, decL n, n⟩ : Tk) :: ·) := by
    generalize hD : decL n = D at *
    subst e1
    exact tok_some e2 hf
  rw [ht, List.drop_length, tok_nil]; rfl
theorem tok_dec_blanks (n : Int) (h1 : -9223372036854775808 ≤ n) (h2 : n ≤ 9223372036854775807) : tok ([32] ++ decL n ++ [9]) = some [⟨2, decL n, n⟩] := by
  have e : [32] ++ decL n ++ [9] = (32 : UInt8) :: (decL n ++ 9 :: []) := by simp
  rw [e, tok_bl (by decide), tok_sep (by decide) (by decide) (decL n).length _ (Nat.le_refl _), tok_dec n h1 h2]
  rfl
theorem tok_dec_letter (n : Int) : tok (decL n ++ [97]) = none := by
  obtain ⟨c, r, e1, e2, e3, e4, e5, e6⟩ := dec_head n [97]
  rw [tw_full _ (by rw [List.all_append, digits_wp]; rfl)] at e6
  have hne : digL (c :: r) ≠ [] := by rw [← e1, e6]; simp
  rw [e1]
  refine tok_none e2 ?_
  rw [fir_num e3 hne, ← e1, e6]
  have : numB (Lib.decDigits n.natAbs ++ [97]) (negB (decL n ++ [97])) = none := by
    unfold numB
    rw [if_neg]
    rintro ⟨_, h, _⟩
    rw [List.all_append] at h
    simp at h
    exact absurd h.2 (by decide)
  rw [this]; rfl
theorem tok_letter_dec (n : Int) (h1 : -9223372036854775808 ≤ n) (h2 : n ≤ 9223372036854775807) : ∃ L, tok ([97] ++ decL n) = some L ∧ L.length = if n < 0 then 2 else 1 := by
  have hf := fir_let (c := 97) (r := decL n) (by decide)
  have e : [97] ++ decL n = (97 : UInt8) :: decL n := rfl
  by_cases h : n < 0
  · have e2 : decL n = 194 :: 175 :: Lib.decDigits n.natAbs := by unfold decL; rw [if_pos h]; rfl
    have ht : ((97 : UInt8) :: decL n).takeWhile wpB = [97] := by
      rw [e2, List.takeWhile_cons, if_pos (by decide), List.takeWhile_cons, if_neg (by decide)]
    rw [ht] at hf
    refine ⟨[⟨1, [97], 0⟩, ⟨2, decL n, n⟩], ?_, by rw [if_pos h]; rfl⟩
    rw [e, tok_some (by decide) hf]
    have : ((97 : UInt8) :: decL n).drop [(97 : UInt8)].length = decL n := rfl
    rw [this, tok_dec n h1 h2]; rfl
  · have e2 : decL n = Lib.decDigits n.natAbs := by unfold decL; rw [if_neg h]; congr 1; omega
    have ht : ((97 : UInt8) :: decL n).takeWhile wpB = 97 :: decL n := by
      rw [e2, List.takeWhile_cons, if_pos (by decide), tw_full _ (digits_wp _)]
    rw [ht] at hf
    refine ⟨[⟨1, 97 :: decL n, 0⟩], ?_, by rw [if_neg h]; rfl⟩
    rw [e, tok_some (by decide) hf]
    have : ((97 : UInt8) :: decL n).drop ((97 : UInt8) :: decL n).length = [] := List.drop_length
    rw [this, tok_nil]; rfl
theorem decL_len (n : Int) (h1 : -9223372036854775808 ≤ n) (h2 : n ≤ 9223372036854775807) : (decL n).length ≤ 30 := by
  unfold decL
  split
  · rw [List.length_append, Lib.decDigits_length]
    have := Lib.nDigits_le20 n.natAbs (by omega)
    simp [hiM]; omega
  · rw [Lib.decDigits_length]
    have := Lib.nDigits_le20 n.toNat (by omega)
    omega

/-- The tokens and the word of a text whose tokens are known. -/
theorem toks_of {l : List UInt8} {L : List Tk} (h : tok l = some L) (hl : l.length ≤ 65536) : tokL l = L ∧ okI l = 0 := by
  unfold tokL okI toks; rw [if_neg (by omega), h]; exact ⟨rfl, rfl⟩
theorem toks_not {l : List UInt8} (h : tok l = none) (hl : l.length ≤ 65536) : tokL l = [] ∧ okI l = 1 := by
  unfold tokL okI toks; rw [if_neg (by omega), h]; exact ⟨rfl, rfl⟩
theorem tokL_len (l : List UInt8) : (tokL l).length ≤ 65536 := by
  unfold tokL toks
  split
  · simp
  · cases h : tok l with
    | none => simp
    | some L => have := (tok_len l.length l L (Nat.le_refl _) h).1; simp; omega
theorem tok_pair (a b : List UInt8) : tok (a ++ [13] ++ b) = (tok a).bind fun l => (tok b).map (l ++ ·) := by
  have e : a ++ [13] ++ b = a ++ 13 :: b := by simp
  rw [e, tok_sep (by decide) (by decide) a.length a (Nat.le_refl _), tok_bl (by decide)]
theorem tok_comma {s : List UInt8} {L : List Tk} (h : tok s = some L) : tok (s ++ [44]) = some (L ++ [⟨3, [44], 0⟩]) := by
  rw [show s ++ [44] = s ++ 44 :: [] from rfl, tok_sep (by decide) (by decide) s.length s (Nat.le_refl _), h]
  have : tok [44] = some [⟨3, [44], 0⟩] := by decide +kernel
  rw [this]; rfl
theorem tok_plus {s : List UInt8} {L : List Tk} (h : tok s = some L) : tok (s ++ [43]) = none := by
  rw [show s ++ [43] = s ++ 43 :: [] from rfl, tok_sep (by decide) (by decide) s.length s (Nat.le_refl _), h]
  have : tok [43] = none := by decide +kernel
  rw [this]; rfl
theorem tok_name {n : List UInt8} (h1 : n ≠ []) (h2 : wordL n = n) : tok n = some [⟨1, n, 0⟩] := by
  have hf : fir n = some ⟨1, n, 0⟩ := by unfold fir; rw [h2, if_pos h1]
  cases n with
  | nil => exact absurd rfl h1
  | cons c r =>
    have hl : letB c = true := by
      cases h : letB c
      · rw [word_not h] at h2; cases h2
      · rfl
    have hb : blB c = false := by
      rw [let_iff] at hl; rw [Bool.eq_false_iff]; intro h'; rw [bl_iff] at h'; omega
    rw [tok_some hb hf]
    simp only [List.drop_length, tok_nil]; rfl
theorem tok_named {s n : List UInt8} {L : List Tk} (h : tok s = some L) (h1 : n ≠ []) (h2 : wordL n = n) : tok (s ++ [32] ++ n) = some (L ++ [⟨1, n, 0⟩]) := by
  rw [show s ++ [32] ++ n = s ++ 32 :: n by simp, tok_sep (by decide) (by decide) s.length s (Nat.le_refl _), h, tok_bl (by decide), tok_name h1 h2]; rfl
end Go.Proofs.YthgojbaindejjaaGreatDoor.lx
