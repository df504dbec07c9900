/- Tokens of a text: plain mathematics over lists of bytes. Tokens of a text: the list of tokens, and what texts behind one another have. -/
import Derived.Lib.ItoaMem
import Derived.Lib.ParseIntBCases
import Derived.Lib.Hide
/- Tokens of a text: plain mathematics over lists of bytes. -/
namespace Go.Proofs.YthgojbaindejjaaGreatDoor.lx
set_option linter.unusedVariables false

def digB (c : UInt8) : Bool := decide (48 ≤ c.toNat ∧ c.toNat ≤ 57)
def letB (c : UInt8) : Bool := decide ((65 ≤ c.toNat ∧ c.toNat ≤ 90) ∨ (97 ≤ c.toNat ∧ c.toNat ≤ 122) ∨ c.toNat = 95)
def wpB (c : UInt8) : Bool := letB c || digB c
def blB (c : UInt8) : Bool := decide (c.toNat = 32 ∨ c.toNat = 9 ∨ c.toNat = 13)
theorem dig_iff {c : UInt8} : digB c = true ↔ 48 ≤ c.toNat ∧ c.toNat ≤ 57 := by simp [digB]
theorem let_iff {c : UInt8} : letB c = true ↔ (65 ≤ c.toNat ∧ c.toNat ≤ 90) ∨ (97 ≤ c.toNat ∧ c.toNat ≤ 122) ∨ c.toNat = 95 := by simp [letB]
theorem wp_iff {c : UInt8} : wpB c = true ↔ letB c = true ∨ digB c = true := by simp [wpB]
theorem bl_iff {c : UInt8} : blB c = true ↔ c.toNat = 32 ∨ c.toNat = 9 ∨ c.toNat = 13 := by simp [blB]
theorem dig_wp {c : UInt8} (h : digB c = true) : wpB c = true := wp_iff.2 (.inr h)
theorem dig_let {c : UInt8} (h : digB c = true) : letB c = false := by
  rw [Bool.eq_false_iff]; intro h'; rw [dig_iff] at h; rw [let_iff] at h'; omega

/-! ### Numerals -/
def valF (acc : Nat) : List UInt8 → Nat
  | [] => acc
  | c :: r => valF (acc * 10 + (c.toNat - 48)) r
theorem valF_append : ∀ (a b : List UInt8) (acc : Nat), valF acc (a ++ b) = valF (valF acc a) b
  | [], _, _ => rfl
  | c :: r, b, acc => valF_append r b _
theorem valF_ge : ∀ (l : List UInt8) (acc : Nat), acc ≤ valF acc l
  | [], _ => Nat.le_refl _
  | c :: r, acc => Nat.le_trans (by omega) (valF_ge r (acc * 10 + (c.toNat - 48)))
theorem valF_snoc (a : List UInt8) (c : UInt8) (acc : Nat) : valF acc (a ++ [c]) = valF acc a * 10 + (c.toNat - 48) := by rw [valF_append]; rfl
theorem valF_take_le (l : List UInt8) (k : Nat) : valF 0 (l.take k) ≤ valF 0 l := by
  conv => rhs; rw [← List.take_append_drop k l, valF_append]
  exact valF_ge _ _

/-- The number that digits with a sign spell. -/
def numB (d : List UInt8) (neg : Bool) : Option Int :=
  if d ≠ [] ∧ d.all digB = true ∧ (d.headD 0 = 48 → d.length = 1 ∧ neg = false) ∧ valF 0 d ≤ (if neg then 9223372036854775808 else 9223372036854775807) then some (if neg then -(valF 0 d : Int) else (valF 0 d : Int)) else none

theorem digits_ne (u : Nat) : Lib.decDigits u ≠ [] := by
  intro h
  have := congrArg List.length h
  rw [Lib.decDigits_length, List.length_nil] at this
  have := Lib.nDigits_pos u
  omega
theorem ofNat_toNat {k : Nat} (h : k < 256) : (UInt8.ofNat k).toNat = k := by
  rw [UInt8.toNat_ofNat']; exact Nat.mod_eq_of_lt h
theorem digits_dig (u : Nat) : (Lib.decDigits u).all digB = true := by
  induction u using Nat.strongRecOn with
  | _ u ih =>
    by_cases h : u < 10
    · rw [Lib.decDigits_one h]
      simp only [List.all_cons, List.all_nil, Bool.and_true]
      rw [dig_iff, ofNat_toNat (by omega)]; omega
    · rw [Lib.decDigits, dif_neg h, List.all_append, ih (u / 10) (by omega)]
      simp only [List.all_cons, List.all_nil, Bool.and_true, Bool.true_and]
      rw [dig_iff, ofNat_toNat (by omega)]; omega
theorem digits_val (u : Nat) : valF 0 (Lib.decDigits u) = u := by
  induction u using Nat.strongRecOn with
  | _ u ih =>
    by_cases h : u < 10
    · refine (congrArg (valF 0) (Lib.decDigits_one h)).trans ?_
      have e : valF 0 [UInt8.ofNat (48 + u)] = 0 * 10 + ((UInt8.ofNat (48 + u)).toNat - 48) := rfl
      refine e.trans ?_
      rw [ofNat_toNat (by omega)]; omega
    · rw [Lib.decDigits, dif_neg h, valF_snoc, ih (u / 10) (by omega), ofNat_toNat (by omega)]; omega
theorem head_append {α : Type} {a b : List α} (z : α) (h : a ≠ []) : (a ++ b).headD z = a.headD z := by
  cases a with
  | nil => exact absurd rfl h
  | cons x r => rfl
theorem digits_head (u : Nat) (h : 1 ≤ u) : (Lib.decDigits u).headD 0 ≠ 48 := by
  induction u using Nat.strongRecOn with
  | _ u ih =>
    by_cases h' : u < 10
    · rw [Lib.decDigits_one h']
      intro e
      have e2 : (UInt8.ofNat (48 + u)).toNat = (48 : UInt8).toNat := congrArg UInt8.toNat e
      rw [ofNat_toNat (by omega), show (48 : UInt8).toNat = 48 from rfl] at e2
      omega
    · rw [Lib.decDigits, dif_neg h', head_append _ (digits_ne _)]
      exact ih (u / 10) (by omega) (by omega)
theorem val_pos : ∀ {d : List UInt8}, d ≠ [] → d.all digB = true → d.headD 0 ≠ 48 → 1 ≤ valF 0 d
  | [], h, _, _ => absurd rfl h
  | c :: r, _, h1, h2 => by
    have hc : digB c = true := by simp at h1; exact h1.1
    have hc' := dig_iff.1 hc
    have hn : c.toNat ≠ 48 := fun e => h2 (UInt8.toNat_inj.1 (by simpa using e))
    refine Nat.le_trans ?_ (valF_ge r _)
    omega
theorem val_digits : ∀ (n : Nat) (d : List UInt8), d.length = n → d ≠ [] → d.all digB = true → (d.headD 0 = 48 → d.length = 1) → Lib.decDigits (valF 0 d) = d
  | 0, d, h0, hne, _, _ => absurd (List.eq_nil_of_length_eq_zero h0) hne
  | n + 1, d, h0, hne, hd, hz => by
    obtain ⟨a, c, rfl⟩ : ∃ a c, d = a ++ [c] := ⟨d.dropLast, d.getLast hne, (List.dropLast_concat_getLast hne).symm⟩
    rw [List.length_append] at h0
    simp only [List.length_cons, List.length_nil] at h0
    rw [List.all_append, Bool.and_eq_true] at hd
    have hc : digB c = true := by have := hd.2; simpa using this
    have hc' := dig_iff.1 hc
    rw [valF_snoc]
    by_cases ha : a = []
    · subst ha
      have e1 : valF 0 [] * 10 + (c.toNat - 48) = c.toNat - 48 := by have : valF 0 [] = 0 := rfl; omega
      refine (congrArg Lib.decDigits e1).trans ((Lib.decDigits_one (by omega)).trans ?_)
      have e2 : 48 + (c.toNat - 48) = c.toNat := by omega
      rw [e2]
      exact congrArg (fun x => [x]) (UInt8.toNat_inj.1 (ofNat_toNat (by omega)))
    · have hh : a.headD 0 ≠ 48 := by
        intro e
        have := hz (by rw [head_append _ ha]; exact e)
        rw [List.length_append] at this
        simp only [List.length_cons, List.length_nil] at this
        exact ha (List.eq_nil_of_length_eq_zero (by omega))
      have hp := val_pos ha hd.1 hh
      have ih := val_digits n a (by omega) ha hd.1 (fun e => absurd e hh)
      rw [Lib.decDigits, dif_neg (by omega), show (valF 0 a * 10 + (c.toNat - 48)) / 10 = valF 0 a by omega, ih, show 48 + (valF 0 a * 10 + (c.toNat - 48)) % 10 = c.toNat by omega]
      simp

def hiM : List UInt8 := [194, 175]
/-- The text of a number. -/
def decL (n : Int) : List UInt8 := if n < 0 then hiM ++ Lib.decDigits n.natAbs else Lib.decDigits n.toNat

theorem numB_pos (u : Nat) (h : u ≤ 9223372036854775807) : numB (Lib.decDigits u) false = some (u : Int) := by
  unfold numB
  have hc : Lib.decDigits u ≠ [] ∧ (Lib.decDigits u).all digB = true ∧ ((Lib.decDigits u).headD 0 = 48 → (Lib.decDigits u).length = 1 ∧ false = false) ∧ valF 0 (Lib.decDigits u) ≤ (if false = true then 9223372036854775808 else 9223372036854775807) := by
    refine ⟨digits_ne u, digits_dig u, ?_, by rw [digits_val]; simpa using h⟩
    intro e
    rcases Nat.eq_zero_or_pos u with rfl | h0
    · exact ⟨by rw [Lib.decDigits_one (by omega)]; rfl, rfl⟩
    · exact absurd e (digits_head u h0)
  rw [if_pos hc, digits_val]; rfl
theorem numB_neg (u : Nat) (h1 : 1 ≤ u) (h : u ≤ 9223372036854775808) : numB (Lib.decDigits u) true = some (-(u : Int)) := by
  unfold numB
  have hc : Lib.decDigits u ≠ [] ∧ (Lib.decDigits u).all digB = true ∧ ((Lib.decDigits u).headD 0 = 48 → (Lib.decDigits u).length = 1 ∧ true = false) ∧ valF 0 (Lib.decDigits u) ≤ (if true = true then 9223372036854775808 else 9223372036854775807) :=
    ⟨digits_ne u, digits_dig u, fun e => absurd e (digits_head u h1), by rw [digits_val]; simpa using h⟩
  rw [if_pos hc, digits_val]; rfl
theorem numB_some {d : List UInt8} {neg : Bool} {n : Int} (h : numB d neg = some n) : d ≠ [] ∧ d.all digB = true ∧ n = (if neg then -(valF 0 d : Int) else (valF 0 d : Int)) ∧ d = Lib.decDigits (valF 0 d) ∧ (neg = true → 1 ≤ valF 0 d) ∧ valF 0 d ≤ (if neg then 9223372036854775808 else 9223372036854775807) := by
  unfold numB at h
  by_cases hc : d ≠ [] ∧ d.all digB = true ∧ (d.headD 0 = 48 → d.length = 1 ∧ neg = false) ∧ valF 0 d ≤ (if neg then 9223372036854775808 else 9223372036854775807)
  · rw [if_pos hc] at h
    obtain ⟨h1, h2, h3, h4⟩ := hc
    injection h with h
    refine ⟨h1, h2, h.symm, (val_digits _ d rfl h1 h2 fun e => (h3 e).1).symm, fun hn => val_pos h1 h2 fun e => ?_, h4⟩
    have := (h3 e).2
    rw [hn] at this
    cases this
  · rw [if_neg hc] at h; cases h
theorem numB_bounds {d : List UInt8} {neg : Bool} {n : Int} (h : numB d neg = some n) : -9223372036854775808 ≤ n ∧ n ≤ 9223372036854775807 := by
  obtain ⟨_, _, h3, _, _, h6⟩ := numB_some h
  cases neg <;> simp at h3 h6 <;> omega
theorem numB_decL {d : List UInt8} {neg : Bool} {n : Int} (h : numB d neg = some n) : decL n = (if neg then hiM else []) ++ d := by
  obtain ⟨_, _, h3, h4, h5, _⟩ := numB_some h
  cases neg with
  | false =>
    simp at h3
    subst h3
    unfold decL
    rw [if_neg (by omega)]
    simpa using h4.symm
  | true =>
    simp at h3
    have := h5 rfl
    subst h3
    unfold decL
    rw [if_pos (by omega)]
    simpa using h4.symm

/-! ### strconv.ParseInt's words -/
theorem uint_ok : ∀ (l : List UInt8) (acc u : Nat), Lib.parseUintM (2 ^ 64 - 1) acc l = .ok u → l.all digB = true ∧ u = valF acc l
  | [], acc, u, h => by simp only [Lib.parseUintM] at h; injection h with h; exact ⟨rfl, h.symm⟩
  | c :: r, acc, u, h => by
    simp only [Lib.parseUintM] at h
    split at h
    · rename_i hd
      split at h
      · cases h
      · split at h
        · cases h
        · obtain ⟨h1, h2⟩ := uint_ok r _ u h
          exact ⟨by simp only [List.all_cons, h1, Bool.and_true]; exact dig_iff.2 hd, h2⟩
    · cases h
theorem ok_uint : ∀ (l : List UInt8) (acc : Nat), l.all digB = true → valF acc l ≤ 18446744073709551615 → Lib.parseUintM (2 ^ 64 - 1) acc l = .ok (valF acc l)
  | [], acc, _, _ => rfl
  | c :: r, acc, h1, h2 => by
    simp only [List.all_cons, Bool.and_eq_true] at h1
    have hd := dig_iff.1 h1.1
    have hg := valF_ge r (acc * 10 + (c.toNat - 48))
    have h2' : valF (acc * 10 + (c.toNat - 48)) r ≤ 18446744073709551615 := h2
    simp only [Lib.parseUintM]
    rw [if_pos hd, if_neg (by omega), if_neg (by omega)]
    exact ok_uint r _ h1.2 h2'
def signed (d : List UInt8) (neg : Bool) : List UInt8 := if neg then 45 :: d else d
theorem parse_out {d : List UInt8} {neg : Bool} {n : Int} (hw : d.all wpB = true) (h : Lib.parseIntB 64 (signed d neg) = .ok n) :
    d ≠ [] ∧ d.all digB = true ∧ n = (if neg then -(valF 0 d : Int) else (valF 0 d : Int)) ∧ valF 0 d ≤ (if neg then 9223372036854775808 else 9223372036854775807) := by
  have e63 : (2 : Nat) ^ (64 - 1) = 9223372036854775808 := by decide
  cases neg with
  | true =>
    have e : signed d true = 45 :: d := rfl
    rw [e, Lib.parseIntB_minus, e63] at h
    unfold Lib.parseUintB at h
    split at h
    · simp [Lib.signedC] at h
    · rename_i hne
      cases hp : Lib.parseUintM (2 ^ 64 - 1) 0 d with
      | ok u =>
        rw [hp] at h
        simp only [Lib.signedC] at h
        obtain ⟨h1, rfl⟩ := uint_ok d 0 u hp
        split at h
        · cases h
        · injection h with h
          exact ⟨hne, h1, by simpa using h.symm, by simp; omega⟩
      | _ => rw [hp] at h; cases h
  | false =>
    have e : signed d false = d := rfl
    rw [e] at h
    cases d with
    | nil => cases h
    | cons c r =>
      have hc : wpB c = true := by simp at hw; exact hw.1
      have h43 : c.toNat ≠ 43 := by intro e; rcases wp_iff.1 hc with h | h <;> first | (rw [let_iff] at h; omega) | (rw [dig_iff] at h; omega)
      have h45 : c.toNat ≠ 45 := by intro e; rcases wp_iff.1 hc with h | h <;> first | (rw [let_iff] at h; omega) | (rw [dig_iff] at h; omega)
      rw [Lib.parseIntB_plain 64 c r h43 h45, e63] at h
      unfold Lib.parseUintB at h
      rw [if_neg (by simp)] at h
      cases hp : Lib.parseUintM (2 ^ 64 - 1) 0 (c :: r) with
      | ok u =>
        rw [hp] at h
        simp only [Lib.signlessC] at h
        obtain ⟨h1, rfl⟩ := uint_ok _ 0 u hp
        split at h
        · cases h
        · injection h with h
          exact ⟨by simp, h1, by simpa using h.symm, by simp; omega⟩
      | _ => rw [hp] at h; cases h
theorem parse_in {d : List UInt8} {neg : Bool} {n : Int} (h : numB d neg = some n) : Lib.parseIntB 64 (signed d neg) = .ok n := by
  have e63 : (2 : Nat) ^ (64 - 1) = 9223372036854775808 := by decide
  obtain ⟨h1, h2, h3, _, _, h6⟩ := numB_some h
  cases neg with
  | true =>
    simp at h3 h6
    have e : signed d true = 45 :: d := rfl
    rw [e, Lib.parseIntB_minus, e63]
    unfold Lib.parseUintB
    rw [if_neg h1, ok_uint d 0 h2 (by omega)]
    simp only [Lib.signedC]
    rw [if_neg (by omega), h3]
  | false =>
    simp at h3 h6
    have e : signed d false = d := rfl
    rw [e]
    cases d with
    | nil => exact absurd rfl h1
    | cons c r =>
      have hc : digB c = true := by simp at h2; exact h2.1
      have hc' := dig_iff.1 hc
      rw [Lib.parseIntB_plain 64 c r (by omega) (by omega), e63]
      unfold Lib.parseUintB
      rw [if_neg h1, ok_uint _ 0 h2 (by omega)]
      simp only [Lib.signlessC]
      rw [if_neg (by omega), h3]
/-- A parsed number whose text is again what was parsed. -/
theorem parse_same {d : List UInt8} {neg : Bool} {n : Int} (hw : d.all wpB = true) (h : Lib.parseIntB 64 (signed d neg) = .ok n) (hd : decL n = (if neg then hiM else []) ++ d) : numB d neg = some n := by
  obtain ⟨h1, h2, h3, h4⟩ := parse_out hw h
  cases neg with
  | false =>
    simp at h3 h4 hd
    subst h3
    unfold decL at hd
    rw [if_neg (by omega), show ((valF 0 d : Nat) : Int).toNat = valF 0 d by omega] at hd
    rw [← hd, digits_val] at *
    exact numB_pos _ (by omega)
  | true =>
    simp at h3 h4 hd
    subst h3
    unfold decL at hd
    by_cases h0 : valF 0 d = 0
    · rw [h0] at hd
      rw [if_neg (by omega), show (-((0 : Nat) : Int)).toNat = 0 by omega, Lib.decDigits_one (by omega)] at hd
      have e2 := congrArg List.length hd
      simp [hiM] at e2
    · rw [if_pos (by omega), show (-((valF 0 d : Nat) : Int)).natAbs = valF 0 d by omega] at hd
      have hd' : Lib.decDigits (valF 0 d) = d := List.append_cancel_left hd
      rw [← hd', digits_val] at *
      exact numB_neg _ (by omega) (by omega)
theorem parse_not {d : List UInt8} {neg : Bool} (hw : d.all wpB = true) (h : numB d neg = none) : ∀ n, Lib.parseIntB 64 (signed d neg) = .ok n → decL n ≠ (if neg then hiM else []) ++ d := by
  intro n h1 h2
  have := parse_same hw h1 h2
  rw [h] at this
  cases this
end Go.Proofs.YthgojbaindejjaaGreatDoor.lx

/- Tokens of a text: the list of tokens, and what texts behind one another have. -/
namespace Go.Proofs.YthgojbaindejjaaGreatDoor.lx
set_option linter.unusedVariables false
set_option linter.unusedSimpArgs false

structure Tk where
  k : Int
  t : List UInt8
  n : Int
  deriving DecidableEq

def wordL (l : List UInt8) : List UInt8 := if (l.takeWhile wpB).takeWhile digB = [] then l.takeWhile wpB else []
def negB (l : List UInt8) : Bool := hiM.isPrefixOf l
def preL (l : List UInt8) : List UInt8 := if negB l then hiM else []
def digL (l : List UInt8) : List UInt8 := (l.drop (preL l).length).takeWhile wpB
def gls : List (List UInt8) := [[226, 134, 145], [226, 134, 147], [226, 140, 189], [226, 141, 137], [226, 141, 180], [226, 141, 172], [226, 134, 144], [44], [40], [41], [91], [93]]
def glyL (l : List UInt8) : List UInt8 := (gls.find? fun g => g.isPrefixOf l).getD []
/-- The token that a text begins with. -/
def fir (l : List UInt8) : Option Tk :=
  if wordL l ≠ [] then some ⟨1, wordL l, 0⟩ else
    match numB (digL l) (negB l) with
    | some n => some ⟨2, preL l ++ digL l, n⟩
    | none => if glyL l ≠ [] then some ⟨3, glyL l, 0⟩ else none
def tokF : Nat → List UInt8 → Option (List Tk)
  | 0, _ => some []
  | _ + 1, [] => some []
  | n + 1, c :: r => if blB c then tokF n r else
    match fir (c :: r) with
    | none => none
    | some t => (tokF n ((c :: r).drop t.t.length)).map (t :: ·)
/-- The tokens of a text. -/
def tok (l : List UInt8) : Option (List Tk) := tokF l.length l

/-! ### Prefixes -/
theorem pre_iff {p l : List UInt8} : p.isPrefixOf l = true ↔ ∃ r, l = p ++ r := by
  rw [List.isPrefixOf_iff_prefix]
  constructor
  · rintro ⟨r, h⟩; exact ⟨r, h.symm⟩
  · rintro ⟨r, h⟩; exact ⟨r, h.symm⟩
theorem tw_pre (p : UInt8 → Bool) (l : List UInt8) : ∃ r, l = l.takeWhile p ++ r := ⟨l.dropWhile p, List.takeWhile_append_dropWhile.symm⟩
theorem tw_len (p : UInt8 → Bool) (l : List UInt8) : (l.takeWhile p).length ≤ l.length := by
  obtain ⟨r, h⟩ := tw_pre p l
  have := congrArg List.length h
  rw [List.length_append] at this
  omega
theorem tw_all (p : UInt8 → Bool) (l : List UInt8) : (l.takeWhile p).all p = true := by
  induction l with
  | nil => rfl
  | cons c r ih =>
    cases hc : p c
    · simp [List.takeWhile_cons, hc]
    · simp only [List.takeWhile_cons, hc, if_true, List.all_cons, ih, Bool.and_self]
theorem tw_take (p : UInt8 → Bool) (l : List UInt8) : l.take (l.takeWhile p).length = l.takeWhile p := by
  obtain ⟨r, h⟩ := tw_pre p l
  generalize l.takeWhile p = a at *
  subst h
  simp
theorem pre_pre (l : List UInt8) : ∃ r, l = preL l ++ r := by
  unfold preL
  cases h : negB l
  · exact ⟨l, by simp⟩
  · obtain ⟨r, h⟩ := pre_iff.1 h; exact ⟨r, by simpa using h⟩
theorem pre_len (l : List UInt8) : (preL l).length ≤ l.length := by
  obtain ⟨r, h⟩ := pre_pre l
  have := congrArg List.length h
  rw [List.length_append] at this
  omega
theorem num_pre (l : List UInt8) : ∃ r, l = (preL l ++ digL l) ++ r := by
  obtain ⟨r, h⟩ := pre_pre l
  obtain ⟨r', h'⟩ := tw_pre wpB (l.drop (preL l).length)
  refine ⟨r', ?_⟩
  have e : l.drop (preL l).length = r := by
    clear h'
    generalize preL l = a at *
    subst h; simp
  unfold digL
  rw [List.append_assoc, ← h', e]
  exact h
theorem gly_pre (l : List UInt8) : ∃ r, l = glyL l ++ r := by
  unfold glyL
  cases h : gls.find? fun g => g.isPrefixOf l with
  | none => exact ⟨l, rfl⟩
  | some g => exact pre_iff.1 (by simpa using List.find?_some h)
theorem take_pre {a l : List UInt8} (h : ∃ r, l = a ++ r) : l.take a.length = a := by
  obtain ⟨r, h⟩ := h; subst h; simp
theorem word_pre (l : List UInt8) : ∃ r, l = wordL l ++ r := by
  unfold wordL
  split
  · exact tw_pre wpB l
  · exact ⟨l, rfl⟩
theorem fir_pre {l : List UInt8} {t : Tk} (h : fir l = some t) : t.t ≠ [] ∧ (∃ r, l = t.t ++ r) ∧ -9223372036854775808 ≤ t.n ∧ t.n ≤ 9223372036854775807 ∧ 1 ≤ t.k ∧ t.k ≤ 3 := by
  unfold fir at h
  by_cases hw : wordL l ≠ []
  · rw [if_pos hw] at h
    injection h with h
    subst h
    exact ⟨hw, word_pre l, by show (-9223372036854775808 : Int) ≤ 0; decide, by show (0 : Int) ≤ 9223372036854775807; decide, by show (1 : Int) ≤ 1; decide, by show (1 : Int) ≤ 3; decide⟩
  · rw [if_neg hw] at h
    cases hn : numB (digL l) (negB l) with
    | some n =>
      rw [hn] at h
      injection h with h
      subst h
      exact ⟨fun e => (numB_some hn).1 (List.append_eq_nil_iff.1 e).2, num_pre l, (numB_bounds hn).1, (numB_bounds hn).2, by show (1 : Int) ≤ 2; decide, by show (2 : Int) ≤ 3; decide⟩
    | none =>
      rw [hn] at h
      by_cases hg : glyL l ≠ []
      · have h' : (if glyL l ≠ [] then some (⟨3, glyL l, 0⟩ : Tk) else none) = some t := h
        rw [if_pos hg] at h'
        injection h' with h'
        subst h'
        exact ⟨hg, gly_pre l, by show (-9223372036854775808 : Int) ≤ 0; decide, by show (0 : Int) ≤ 9223372036854775807; decide, by show (1 : Int) ≤ 3; decide, by show (3 : Int) ≤ 3; decide⟩
      · have h' : (if glyL l ≠ [] then some (⟨3, glyL l, 0⟩ : Tk) else none) = some t := h
        rw [if_neg hg] at h'
        cases h'
theorem fir_len {l : List UInt8} {t : Tk} (h : fir l = some t) : 1 ≤ t.t.length ∧ t.t.length ≤ l.length := by
  obtain ⟨h1, ⟨r, h2⟩, _⟩ := fir_pre h
  have := congrArg List.length h2
  rw [List.length_append] at this
  have : t.t.length ≠ 0 := fun e => h1 (List.eq_nil_of_length_eq_zero e)
  omega

/-! ### The list of tokens -/
theorem tokF_eq : ∀ (n : Nat) (l : List UInt8), l.length ≤ n → ∀ m, l.length ≤ m → tokF n l = tokF m l
  | 0, l, h, m, hm => by
    obtain rfl := List.eq_nil_of_length_eq_zero (by omega : l.length = 0)
    cases m <;> rfl
  | n + 1, [], h, m, hm => by cases m <;> rfl
  | n + 1, c :: r, h, 0, hm => by simp at hm
  | n + 1, c :: r, h, m + 1, hm => by
    simp only [List.length_cons] at h hm
    simp only [tokF]
    cases hb : blB c
    · simp only [Bool.false_eq_true, if_false]
      cases hf : fir (c :: r) with
      | none => rfl
      | some t =>
        have hl := fir_len hf
        simp only [List.length_cons] at hl
        have hd : ((c :: r).drop t.t.length).length ≤ r.length := by rw [List.length_drop, List.length_cons]; omega
        simp only []
        rw [tokF_eq n _ (by omega) m (by omega)]
    · simp only [if_true]
      exact tokF_eq n r (by omega) m (by omega)
theorem tok_nil : tok [] = some [] := rfl
theorem tok_bl {c : UInt8} {r : List UInt8} (h : blB c = true) : tok (c :: r) = tok r := by
  unfold tok
  simp only [List.length_cons, tokF, h, if_true]
theorem tok_none {c : UInt8} {r : List UInt8} (h : blB c = false) (hf : fir (c :: r) = none) : tok (c :: r) = none := by
  unfold tok
  simp only [List.length_cons, tokF, h, hf]
  rfl
theorem tok_some {c : UInt8} {r : List UInt8} {t : Tk} (h : blB c = false) (hf : fir (c :: r) = some t) : tok (c :: r) = (tok ((c :: r).drop t.t.length)).map (t :: ·) := by
  have hl := fir_len hf
  simp only [List.length_cons] at hl
  unfold tok
  simp only [List.length_cons, tokF, h, hf]
  rw [tokF_eq r.length _ (by rw [List.length_drop, List.length_cons]; omega) ((c :: r).drop t.t.length).length (Nat.le_refl _)]
  rfl
theorem tok_skip : ∀ l : List UInt8, tok (l.dropWhile blB) = tok l
  | [] => rfl
  | c :: r => by
    cases h : blB c
    · simp [List.dropWhile_cons, h]
    · rw [tok_bl h, List.dropWhile_cons, if_pos h]; exact tok_skip r
theorem tok_len : ∀ (n : Nat) (l : List UInt8) (L : List Tk), l.length ≤ n → tok l = some L → L.length ≤ l.length ∧ ∀ t ∈ L, -9223372036854775808 ≤ t.n ∧ t.n ≤ 9223372036854775807 ∧ 1 ≤ t.k ∧ t.k ≤ 3 ∧ t.t.length ≤ l.length
  | n, [], L, _, h => by rw [tok_nil] at h; injection h with h; subst h; exact ⟨Nat.le_refl _, fun t ht => by cases ht⟩
  | 0, c :: r, L, hn, h => by simp at hn
  | n + 1, c :: r, L, hn, h => by
    simp only [List.length_cons] at hn
    cases hb : blB c
    · cases hf : fir (c :: r) with
      | none => rw [tok_none hb hf] at h; cases h
      | some t =>
        rw [tok_some hb hf] at h
        have hl := fir_len hf
        simp only [List.length_cons] at hl
        cases hd : tok ((c :: r).drop t.t.length) with
        | none => rw [hd] at h; cases h
        | some M =>
          rw [hd] at h
          injection h with h
          subst h
          have hdl : ((c :: r).drop t.t.length).length = r.length + 1 - t.t.length := by rw [List.length_drop, List.length_cons]
          have ih := tok_len n _ M (by omega) hd
          refine ⟨by simp only [List.length_cons]; omega, fun u hu => ?_⟩
          rcases List.mem_cons.1 hu with rfl | hu
          · have := fir_pre hf
            exact ⟨this.2.2.1, this.2.2.2.1, this.2.2.2.2.1, this.2.2.2.2.2, by simp only [List.length_cons]; omega⟩
          · have := ih.2 u hu
            simp only [List.length_cons]
            exact ⟨this.1, this.2.1, this.2.2.1, this.2.2.2.1, by omega⟩
    · rw [tok_bl hb] at h
      have ih := tok_len n r L (by omega) h
      simp only [List.length_cons]
      exact ⟨by omega, fun u hu => by have := ih.2 u hu; exact ⟨this.1, this.2.1, this.2.2.1, this.2.2.2.1, by omega⟩⟩

/-! ### The reference's way -/
theorem hi_wp {r : List UInt8} : wordL (194 :: r) = [] := by
  have : wpB 194 = false := by decide
  unfold wordL
  simp [List.takeWhile_cons, this]
theorem word_let {c : UInt8} {r : List UInt8} (h : letB c = true) : wordL (c :: r) = (c :: r).takeWhile wpB ∧ (c :: r).takeWhile wpB ≠ [] := by
  have hw : wpB c = true := wp_iff.2 (.inl h)
  have hd : digB c = false := by cases hd : digB c; rfl; rw [dig_let hd] at h; cases h
  unfold wordL
  simp [List.takeWhile_cons, hw, hd]
theorem word_not {c : UInt8} {r : List UInt8} (h : letB c = false) : wordL (c :: r) = [] := by
  unfold wordL
  cases hd : digB c
  · have : wpB c = false := by simp [wpB, h, hd]
    simp [List.takeWhile_cons, this]
  · have : wpB c = true := by simp [wpB, h, hd]
    simp [List.takeWhile_cons, this, hd]
theorem fir_let {c : UInt8} {r : List UInt8} (h : letB c = true) : fir (c :: r) = some ⟨1, (c :: r).takeWhile wpB, 0⟩ := by
  obtain ⟨h1, h2⟩ := word_let (r := r) h
  unfold fir
  rw [h1, if_pos h2]
theorem gly_num {c : UInt8} {r : List UInt8} (hd : digL (c :: r) ≠ []) : glyL (c :: r) = [] := by
  unfold glyL
  cases h : gls.find? fun g => g.isPrefixOf (c :: r) with
  | none => rfl
  | some g =>
    exfalso
    have hm := List.mem_of_find?_eq_some h
    obtain ⟨q, hq⟩ := pre_iff.1 (by simpa using List.find?_some h : g.isPrefixOf (c :: r) = true)
    have hne : negB (c :: r) = false := by
      cases hn : negB (c :: r)
      · rfl
      · obtain ⟨q', hq'⟩ := pre_iff.1 hn
        have e : c = 194 := by rw [hiM] at hq'; injection hq'
        subst e
        have : ∀ g ∈ gls, g.headD 0 ≠ 194 := by decide
        have h2 := this g hm
        cases g with
        | nil => have : [] ∉ gls := by decide
                 exact absurd hm this
        | cons x y => injection hq with e1 e2; exact absurd e1.symm h2
    have hc : wpB c = true := by
      cases hc : wpB c
      · exfalso; apply hd; unfold digL preL; rw [hne]; simp [List.takeWhile_cons, hc]
      · rfl
    have : ∀ g ∈ gls, wpB (g.headD 0) = false := by decide
    have h2 := this g hm
    cases g with
    | nil => have : [] ∉ gls := by decide
             exact absurd hm this
    | cons x y => injection hq with e1 e2; subst e1; simp only [List.headD_cons] at h2; rw [hc] at h2; cases h2
theorem fir_num {c : UInt8} {r : List UInt8} (h : letB c = false) (hd : digL (c :: r) ≠ []) : fir (c :: r) = (numB (digL (c :: r)) (negB (c :: r))).map fun n => ⟨2, preL (c :: r) ++ digL (c :: r), n⟩ := by
  unfold fir
  rw [word_not h, if_neg (by simp), gly_num hd]
  cases numB (digL (c :: r)) (negB (c :: r)) <;> simp
theorem fir_gly {c : UInt8} {r : List UInt8} (h : letB c = false) (hd : digL (c :: r) = []) : fir (c :: r) = if glyL (c :: r) = [] then none else some ⟨3, glyL (c :: r), 0⟩ := by
  unfold fir
  rw [word_not h, if_neg (by simp), hd]
  have : numB [] (negB (c :: r)) = none := by unfold numB; rw [if_neg (by simp)]
  rw [this]
  by_cases hg : glyL (c :: r) = [] <;> simp [hg]

/-- The last glyph that a text begins with. -/
def lastG (l : List UInt8) (gs : List (List UInt8)) : List UInt8 := gs.foldl (fun f g => if g.isPrefixOf l then g else f) []
theorem fold_one {α : Type} (p : α → Bool) (x : α) : ∀ gs : List α, (∀ g ∈ gs, p g = true → g = x) → gs.foldl (fun f g => if p g then g else f) x = x
  | [], _ => rfl
  | g :: r, h => by
    simp only [List.foldl_cons]
    cases hp : p g
    · simp; exact fold_one p x r fun y hy => h y (List.mem_cons_of_mem _ hy)
    · rw [h g List.mem_cons_self hp]; simp; exact fold_one p x r fun y hy => h y (List.mem_cons_of_mem _ hy)
theorem fold_find {α : Type} (p : α → Bool) (z : α) : ∀ gs : List α, (∀ a ∈ gs, ∀ b ∈ gs, p a = true → p b = true → a = b) → gs.foldl (fun f g => if p g then g else f) z = (gs.find? p).getD z
  | [], _ => rfl
  | g :: r, h => by
    simp only [List.foldl_cons, List.find?_cons]
    cases hp : p g
    · simp; exact fold_find p z r fun a ha b hb => h a (List.mem_cons_of_mem _ ha) b (List.mem_cons_of_mem _ hb)
    · simp; exact fold_one p g r fun y hy hpy => h y (List.mem_cons_of_mem _ hy) g List.mem_cons_self hpy hp
theorem two_pre {a b l : List UInt8} (h1 : a.isPrefixOf l = true) (h2 : b.isPrefixOf l = true) : a.isPrefixOf b = true ∨ b.isPrefixOf a = true := by
  simp only [List.isPrefixOf_iff_prefix] at *
  exact List.prefix_or_prefix_of_prefix h1 h2
theorem last_gly (l : List UInt8) : lastG l gls = glyL l := by
  refine fold_find (fun g => g.isPrefixOf l) [] gls fun a ha b hb h1 h2 => ?_
  have hall : ∀ a ∈ gls, ∀ b ∈ gls, a.isPrefixOf b = true → a = b := by decide
  rcases two_pre h1 h2 with h | h
  · exact hall a ha b hb h
  · exact (hall b hb a ha h).symm

/-! ### Texts behind one another -/
theorem tw_sep (x : List UInt8) {c : UInt8} {b : List UInt8} (hc : wpB c = false) : (x ++ c :: b).takeWhile wpB = x.takeWhile wpB := by
  induction x with
  | nil => simp [List.takeWhile_cons, hc]
  | cons a r ih =>
    cases ha : wpB a
    · simp [List.takeWhile_cons, ha]
    · simp only [List.cons_append, List.takeWhile_cons, ha, if_true, ih]
theorem tail_sep {c : UInt8} {b : List UInt8} (hc : c.toNat < 128) : ∀ (p x : List UInt8), p.all (fun u => decide (128 ≤ u.toNat)) = true → p.isPrefixOf (x ++ c :: b) = p.isPrefixOf x
  | [], _, _ => rfl
  | q :: p, [], h => by
    simp only [List.all_cons, Bool.and_eq_true, decide_eq_true_eq] at h
    have : (q == c) = false := beq_eq_false_iff_ne.2 fun e => by subst e; omega
    simp only [List.nil_append, List.isPrefixOf, this, Bool.false_and]
  | q :: p, a :: x, h => by
    simp only [List.all_cons, Bool.and_eq_true] at h
    simp only [List.cons_append, List.isPrefixOf, tail_sep hc p x h.2]
theorem pre_sep {c : UInt8} {b : List UInt8} (hc : c.toNat < 128) {p x : List UInt8} (hx : x ≠ []) (h : p.tail.all (fun u => decide (128 ≤ u.toNat)) = true) : p.isPrefixOf (x ++ c :: b) = p.isPrefixOf x := by
  cases p with
  | nil => rfl
  | cons q p =>
    cases x with
    | nil => exact absurd rfl hx
    | cons a x =>
      simp only [List.cons_append, List.isPrefixOf]
      rw [tail_sep hc p x h]
theorem fir_sep {c : UInt8} {b x : List UInt8} (hc : c.toNat < 128) (hw : wpB c = false) (hx : x ≠ []) : fir (x ++ c :: b) = fir x := by
  have e1 : wordL (x ++ c :: b) = wordL x := by unfold wordL; rw [tw_sep x hw]
  have e2 : negB (x ++ c :: b) = negB x := pre_sep hc hx (by decide)
  have e3 : preL (x ++ c :: b) = preL x := by unfold preL; rw [e2]
  have e4 : digL (x ++ c :: b) = digL x := by
    unfold digL
    rw [e3, List.drop_append_of_le_length (pre_len x), tw_sep _ hw]
  have e5 : glyL (x ++ c :: b) = glyL x := by
    unfold glyL
    congr 1
    have hall : ∀ g ∈ gls, g.tail.all (fun u => decide (128 ≤ u.toNat)) = true := by decide
    have : ∀ gs : List (List UInt8), (∀ g ∈ gs, g.tail.all (fun u => decide (128 ≤ u.toNat)) = true) → gs.find? (fun g => g.isPrefixOf (x ++ c :: b)) = gs.find? (fun g => g.isPrefixOf x) := by
      intro gs
      induction gs with
      | nil => intro _; rfl
      | cons g r ih =>
        intro h
        simp only [List.find?_cons]
        rw [pre_sep hc hx (h g List.mem_cons_self), ih fun y hy => h y (List.mem_cons_of_mem _ hy)]
    exact this gls hall
  unfold fir
  rw [e1, e2, e3, e4, e5]
theorem tok_sep {c : UInt8} {b : List UInt8} (hc : c.toNat < 128) (hw : wpB c = false) : ∀ (n : Nat) (x : List UInt8), x.length ≤ n → tok (x ++ c :: b) = (tok x).bind fun l => (tok (c :: b)).map (l ++ ·)
  | n, [], _ => by
    rw [tok_nil, List.nil_append]
    simp only [Option.bind_some]
    cases tok (c :: b) <;> rfl
  | 0, a :: r, h => by simp at h
  | n + 1, a :: r, h => by
    simp only [List.length_cons] at h
    cases hb : blB a
    · have hfs := fir_sep (b := b) (x := a :: r) hc hw (by simp)
      cases hf : fir (a :: r) with
      | none =>
        rw [hf, List.cons_append] at hfs
        rw [tok_none hb hf, List.cons_append, tok_none hb hfs]; rfl
      | some t =>
        rw [hf, List.cons_append] at hfs
        have hl := fir_len hf
        simp only [List.length_cons] at hl
        rw [tok_some hb hf, List.cons_append, tok_some hb hfs]
        have e : (a :: (r ++ c :: b)).drop t.t.length = (a :: r).drop t.t.length ++ c :: b := by
          rw [← List.cons_append, List.drop_append_of_le_length (by simp only [List.length_cons]; omega)]
        rw [e, tok_sep hc hw n _ (by rw [List.length_drop, List.length_cons]; omega)]
        cases tok ((a :: r).drop t.t.length) with
        | none => rfl
        | some l => cases tok (c :: b) <;> rfl
    · rw [tok_bl hb, List.cons_append, tok_bl hb]
      exact tok_sep hc hw n r (by omega)
end Go.Proofs.YthgojbaindejjaaGreatDoor.lx
