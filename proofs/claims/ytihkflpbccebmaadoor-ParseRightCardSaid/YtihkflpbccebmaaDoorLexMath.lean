/- Tokens of a text: plain mathematics over lists of bytes. -/
import Derived.Lib.ItoaMem
import Derived.Lib.ParseIntBCases
import Derived.Lib.Hide
namespace Go.Proofs.YtihkflpbccebmaaDoor.lx
set_option linter.unusedVariables false

def digB (c : UInt8) : Bool := decide (48 ≤ c.toNat ∧ c.toNat ≤ 57)
def letB (c : UInt8) : Bool := decide ((65 ≤ c.toNat ∧ c.toNat ≤ 90) ∨ (97 ≤ c.toNat ∧ c.toNat ≤ 122) ∨ c.toNat = 95)
def wpB (c : UInt8) : Bool := letB c || digB c
def blB (c : UInt8) : Bool := decide (c.toNat = 32 ∨ c.toNat = 9 ∨ c.toNat = 13)
theorem dig_iff {c : UInt8} : digB c = true ↔ 48 ≤ c.toNat ∧ c.toNat ≤ 57 := by simp [digB]
theorem let_iff {c : UInt8} : letB c = true ↔ (65 ≤ c.toNat ∧ c.toNat ≤ 90) ∨ (97 ≤ c.toNat ∧ c.toNat ≤ 122) ∨ c.toNat = 95 := by simp [letB]
theorem wp_iff {c : UInt8} : wpB c = true ↔ letB c = true ∨ digB c = true := by simp [wpB]
theorem bl_iff {c : UInt8} : blB c = true ↔ c.toNat = 32 ∨ c.toNat = 9 ∨ c.toNat = 13 := by simp [blB]
theorem dig_wp {c : UInt8} (h : digB c = true) : wpB c = true := wp_iff.2 (.inr h)
theorem dig_let {c : UInt8} (h : digB c = true) : letB c = false := by
  rw [Bool.eq_false_iff]; intro h'; rw [dig_iff] at h; rw [let_iff] at h'; omega

/-! ### Numerals -/
def valF (acc : Nat) : List UInt8 → Nat
  | [] => acc
  | c :: r => valF (acc * 10 + (c.toNat - 48)) r
theorem valF_append : ∀ (a b : List UInt8) (acc : Nat), valF acc (a ++ b) = valF (valF acc a) b
  | [], _, _ => rfl
  | c :: r, b, acc => valF_append r b _
theorem valF_ge : ∀ (l : List UInt8) (acc : Nat), acc ≤ valF acc l
  | [], _ => Nat.le_refl _
  | c :: r, acc => Nat.le_trans (by omega) (valF_ge r (acc * 10 + (c.toNat - 48)))
theorem valF_snoc (a : List UInt8) (c : UInt8) (acc : Nat) : valF acc (a ++ [c]) = valF acc a * 10 + (c.toNat - 48) := by rw [valF_append]; rfl
theorem valF_take_le (l : List UInt8) (k : Nat) : valF 0 (l.take k) ≤ valF 0 l := by
  conv => rhs; rw [← List.take_append_drop k l, valF_append]
  exact valF_ge _ _

/-- The number that digits with a sign spell. -/
def numB (d : List UInt8) (neg : Bool) : Option Int :=
  if d ≠ [] ∧ d.all digB = true ∧ (d.headD 0 = 48 → d.length = 1 ∧ neg = false) ∧ valF 0 d ≤ (if neg then 9223372036854775808 else 9223372036854775807) then some (if neg then -(valF 0 d : Int) else (valF 0 d : Int)) else none

theorem digits_ne (u : Nat) : Lib.decDigits u ≠ [] := by
  intro h
  have := congrArg List.length h
  rw [Lib.decDigits_length, List.length_nil] at this
  have := Lib.nDigits_pos u
  omega
theorem ofNat_toNat {k : Nat} (h : k < 256) : (UInt8.ofNat k).toNat = k := by
  rw [UInt8.toNat_ofNat']; exact Nat.mod_eq_of_lt h
theorem digits_dig (u : Nat) : (Lib.decDigits u).all digB = true := by
  induction u using Nat.strongRecOn with
  | _ u ih =>
    by_cases h : u < 10
    · rw [Lib.decDigits_one h]
      simp only [List.all_cons, List.all_nil, Bool.and_true]
      rw [dig_iff, ofNat_toNat (by omega)]; omega
    · rw [Lib.decDigits, dif_neg h, List.all_append, ih (u / 10) (by omega)]
      simp only [List.all_cons, List.all_nil, Bool.and_true, Bool.true_and]
      rw [dig_iff, ofNat_toNat (by omega)]; omega
theorem digits_val (u : Nat) : valF 0 (Lib.decDigits u) = u := by
  induction u using Nat.strongRecOn with
  | _ u ih =>
    by_cases h : u < 10
    · refine (congrArg (valF 0) (Lib.decDigits_one h)).trans ?_
      have e : valF 0 [UInt8.ofNat (48 + u)] = 0 * 10 + ((UInt8.ofNat (48 + u)).toNat - 48) := rfl
      refine e.trans ?_
      rw [ofNat_toNat (by omega)]; omega
    · rw [Lib.decDigits, dif_neg h, valF_snoc, ih (u / 10) (by omega), ofNat_toNat (by omega)]; omega
theorem head_append {α : Type} {a b : List α} (z : α) (h : a ≠ []) : (a ++ b).headD z = a.headD z := by
  cases a with
  | nil => exact absurd rfl h
  | cons x r => rfl
theorem digits_head (u : Nat) (h : 1 ≤ u) : (Lib.decDigits u).headD 0 ≠ 48 := by
  induction u using Nat.strongRecOn with
  | _ u ih =>
    by_cases h' : u < 10
    · rw [Lib.decDigits_one h']
      intro e
      have e2 : (UInt8.ofNat (48 + u)).toNat = (48 : UInt8).toNat := congrArg UInt8.toNat e
      rw [ofNat_toNat (by omega), show (48 : UInt8).toNat = 48 from rfl] at e2
      omega
    · rw [Lib.decDigits, dif_neg h', head_append _ (digits_ne _)]
      exact ih (u / 10) (by omega) (by omega)
theorem val_pos : ∀ {d : List UInt8}, d ≠ [] → d.all digB = true → d.headD 0 ≠ 48 → 1 ≤ valF 0 d
  | [], h, _, _ => absurd rfl h
  | c :: r, _, h1, h2 => by
    have hc : digB c = true := by simp at h1; exact h1.1
    have hc' := dig_iff.1 hc
    have hn : c.toNat ≠ 48 := fun e => h2 (UInt8.toNat_inj.1 (by simpa using e))
    refine Nat.le_trans ?_ (valF_ge r _)
    omega
theorem val_digits : ∀ (n : Nat) (d : List UInt8), d.length = n → d ≠ [] → d.all digB = true → (d.headD 0 = 48 → d.length = 1) → Lib.decDigits (valF 0 d) = d
  | 0, d, h0, hne, _, _ => absurd (List.eq_nil_of_length_eq_zero h0) hne
  | n + 1, d, h0, hne, hd, hz => by
    obtain ⟨a, c, rfl⟩ : ∃ a c, d = a ++ [c] := ⟨d.dropLast, d.getLast hne, (List.dropLast_concat_getLast hne).symm⟩
    rw [List.length_append] at h0
    simp only [List.length_cons, List.length_nil] at h0
    rw [List.all_append, Bool.and_eq_true] at hd
    have hc : digB c = true := by have := hd.2; simpa using this
    have hc' := dig_iff.1 hc
    rw [valF_snoc]
    by_cases ha : a = []
    · subst ha
      have e1 : valF 0 [] * 10 + (c.toNat - 48) = c.toNat - 48 := by have : valF 0 [] = 0 := rfl; omega
      refine (congrArg Lib.decDigits e1).trans ((Lib.decDigits_one (by omega)).trans ?_)
      have e2 : 48 + (c.toNat - 48) = c.toNat := by omega
      rw [e2]
      exact congrArg (fun x => [x]) (UInt8.toNat_inj.1 (ofNat_toNat (by omega)))
    · have hh : a.headD 0 ≠ 48 := by
        intro e
        have := hz (by rw [head_append _ ha]; exact e)
        rw [List.length_append] at this
        simp only [List.length_cons, List.length_nil] at this
        exact ha (List.eq_nil_of_length_eq_zero (by omega))
      have hp := val_pos ha hd.1 hh
      have ih := val_digits n a (by omega) ha hd.1 (fun e => absurd e hh)
      rw [Lib.decDigits, dif_neg (by omega), show (valF 0 a * 10 + (c.toNat - 48)) / 10 = valF 0 a by omega, ih, show 48 + (valF 0 a * 10 + (c.toNat - 48)) % 10 = c.toNat by omega]
      simp

def hiM : List UInt8 := [194, 175]
/-- The text of a number. -/
def decL (n : Int) : List UInt8 := if n < 0 then hiM ++ Lib.decDigits n.natAbs else Lib.decDigits n.toNat

theorem numB_pos (u : Nat) (h : u ≤ 9223372036854775807) : numB (Lib.decDigits u) false = some (u : Int) := by
  unfold numB
  have hc : Lib.decDigits u ≠ [] ∧ (Lib.decDigits u).all digB = true ∧ ((Lib.decDigits u).headD 0 = 48 → (Lib.decDigits u).length = 1 ∧ false = false) ∧ valF 0 (Lib.decDigits u) ≤ (if false = true then 9223372036854775808 else 9223372036854775807) := by
    refine ⟨digits_ne u, digits_dig u, ?_, by rw [digits_val]; simpa using h⟩
    intro e
    rcases Nat.eq_zero_or_pos u with rfl | h0
    · exact ⟨by rw [Lib.decDigits_one (by omega)]; rfl, rfl⟩
    · exact absurd e (digits_head u h0)
  rw [if_pos hc, digits_val]; rfl
theorem numB_neg (u : Nat) (h1 : 1 ≤ u) (h : u ≤ 9223372036854775808) : numB (Lib.decDigits u) true = some (-(u : Int)) := by
  unfold numB
  have hc : Lib.decDigits u ≠ [] ∧ (Lib.decDigits u).all digB = true ∧ ((Lib.decDigits u).headD 0 = 48 → (Lib.decDigits u).length = 1 ∧ true = false) ∧ valF 0 (Lib.decDigits u) ≤ (if true = true then 9223372036854775808 else 9223372036854775807) :=
    ⟨digits_ne u, digits_dig u, fun e => absurd e (digits_head u h1), by rw [digits_val]; simpa using h⟩
  rw [if_pos hc, digits_val]; rfl
theorem numB_some {d : List UInt8} {neg : Bool} {n : Int} (h : numB d neg = some n) : d ≠ [] ∧ d.all digB = true ∧ n = (if neg then -(valF 0 d : Int) else (valF 0 d : Int)) ∧ d = Lib.decDigits (valF 0 d) ∧ (neg = true → 1 ≤ valF 0 d) ∧ valF 0 d ≤ (if neg then 9223372036854775808 else 9223372036854775807) := by
  unfold numB at h
  by_cases hc : d ≠ [] ∧ d.all digB = true ∧ (d.headD 0 = 48 → d.length = 1 ∧ neg = false) ∧ valF 0 d ≤ (if neg then 9223372036854775808 else 9223372036854775807)
  · rw [if_pos hc] at h
    obtain ⟨h1, h2, h3, h4⟩ := hc
    injection h with h
    refine ⟨h1, h2, h.symm, (val_digits _ d rfl h1 h2 fun e => (h3 e).1).symm, fun hn => val_pos h1 h2 fun e => ?_, h4⟩
    have := (h3 e).2
    rw [hn] at this
    cases this
  · rw [if_neg hc] at h; cases h
theorem numB_bounds {d : List UInt8} {neg : Bool} {n : Int} (h : numB d neg = some n) : -9223372036854775808 ≤ n ∧ n ≤ 9223372036854775807 := by
  obtain ⟨_, _, h3, _, _, h6⟩ := numB_some h
  cases neg <;> simp at h3 h6 <;> omega
theorem numB_decL {d : List UInt8} {neg : Bool} {n : Int} (h : numB d neg = some n) : decL n = (if neg then hiM else []) ++ d := by
  obtain ⟨_, _, h3, h4, h5, _⟩ := numB_some h
  cases neg with
  | false =>
    simp at h3
    subst h3
    unfold decL
    rw [if_neg (by omega)]
    simpa using h4.symm
  | true =>
    simp at h3
    have := h5 rfl
    subst h3
    unfold decL
    rw [if_pos (by omega)]
    simpa using h4.symm

/-! ### strconv.ParseInt's words -/
theorem uint_ok : ∀ (l : List UInt8) (acc u : Nat), Lib.parseUintM (2 ^ 64 - 1) acc l = .ok u → l.all digB = true ∧ u = valF acc l
  | [], acc, u, h => by simp only [Lib.parseUintM] at h; injection h with h; exact ⟨rfl, h.symm⟩
  | c :: r, acc, u, h => by
    simp only [Lib.parseUintM] at h
    split at h
    · rename_i hd
      split at h
      · cases h
      · split at h
        · cases h
        · obtain ⟨h1, h2⟩ := uint_ok r _ u h
          exact ⟨by simp only [List.all_cons, h1, Bool.and_true]; exact dig_iff.2 hd, h2⟩
    · cases h
theorem ok_uint : ∀ (l : List UInt8) (acc : Nat), l.all digB = true → valF acc l ≤ 18446744073709551615 → Lib.parseUintM (2 ^ 64 - 1) acc l = .ok (valF acc l)
  | [], acc, _, _ => rfl
  | c :: r, acc, h1, h2 => by
    simp only [List.all_cons, Bool.and_eq_true] at h1
    have hd := dig_iff.1 h1.1
    have hg := valF_ge r (acc * 10 + (c.toNat - 48))
    have h2' : valF (acc * 10 + (c.toNat - 48)) r ≤ 18446744073709551615 := h2
    simp only [Lib.parseUintM]
    rw [if_pos hd, if_neg (by omega), if_neg (by omega)]
    exact ok_uint r _ h1.2 h2'
def signed (d : List UInt8) (neg : Bool) : List UInt8 := if neg then 45 :: d else d
theorem parse_out {d : List UInt8} {neg : Bool} {n : Int} (hw : d.all wpB = true) (h : Lib.parseIntB 64 (signed d neg) = .ok n) :
    d ≠ [] ∧ d.all digB = true ∧ n = (if neg then -(valF 0 d : Int) else (valF 0 d : Int)) ∧ valF 0 d ≤ (if neg then 9223372036854775808 else 9223372036854775807) := by
  have e63 : (2 : Nat) ^ (64 - 1) = 9223372036854775808 := by decide
  cases neg with
  | true =>
    have e : signed d true = 45 :: d := rfl
    rw [e, Lib.parseIntB_minus, e63] at h
    unfold Lib.parseUintB at h
    split at h
    · simp [Lib.signedC] at h
    · rename_i hne
      cases hp : Lib.parseUintM (2 ^ 64 - 1) 0 d with
      | ok u =>
        rw [hp] at h
        simp only [Lib.signedC] at h
        obtain ⟨h1, rfl⟩ := uint_ok d 0 u hp
        split at h
        · cases h
        · injection h with h
          exact ⟨hne, h1, by simpa using h.symm, by simp; omega⟩
      | _ => rw [hp] at h; cases h
  | false =>
    have e : signed d false = d := rfl
    rw [e] at h
    cases d with
    | nil => cases h
    | cons c r =>
      have hc : wpB c = true := by simp at hw; exact hw.1
      have h43 : c.toNat ≠ 43 := by intro e; rcases wp_iff.1 hc with h | h <;> first | (rw [let_iff] at h; omega) | (rw [dig_iff] at h; omega)
      have h45 : c.toNat ≠ 45 := by intro e; rcases wp_iff.1 hc with h | h <;> first | (rw [let_iff] at h; omega) | (rw [dig_iff] at h; omega)
      rw [Lib.parseIntB_plain 64 c r h43 h45, e63] at h
      unfold Lib.parseUintB at h
      rw [if_neg (by simp)] at h
      cases hp : Lib.parseUintM (2 ^ 64 - 1) 0 (c :: r) with
      | ok u =>
        rw [hp] at h
        simp only [Lib.signlessC] at h
        obtain ⟨h1, rfl⟩ := uint_ok _ 0 u hp
        split at h
        · cases h
        · injection h with h
          exact ⟨by simp, h1, by simpa using h.symm, by simp; omega⟩
      | _ => rw [hp] at h; cases h
theorem parse_in {d : List UInt8} {neg : Bool} {n : Int} (h : numB d neg = some n) : Lib.parseIntB 64 (signed d neg) = .ok n := by
  have e63 : (2 : Nat) ^ (64 - 1) = 9223372036854775808 := by decide
  obtain ⟨h1, h2, h3, _, _, h6⟩ := numB_some h
  cases neg with
  | true =>
    simp at h3 h6
    have e : signed d true = 45 :: d := rfl
    rw [e, Lib.parseIntB_minus, e63]
    unfold Lib.parseUintB
    rw [if_neg h1, ok_uint d 0 h2 (by omega)]
    simp only [Lib.signedC]
    rw [if_neg (by omega), h3]
  | false =>
    simp at h3 h6
    have e : signed d false = d := rfl
    rw [e]
    cases d with
    | nil => exact absurd rfl h1
    | cons c r =>
      have hc : digB c = true := by simp at h2; exact h2.1
      have hc' := dig_iff.1 hc
      rw [Lib.parseIntB_plain 64 c r (by omega) (by omega), e63]
      unfold Lib.parseUintB
      rw [if_neg h1, ok_uint _ 0 h2 (by omega)]
      simp only [Lib.signlessC]
      rw [if_neg (by omega), h3]
/-- A parsed number whose text is again what was parsed. -/
theorem parse_same {d : List UInt8} {neg : Bool} {n : Int} (hw : d.all wpB = true) (h : Lib.parseIntB 64 (signed d neg) = .ok n) (hd : decL n = (if neg then hiM else []) ++ d) : numB d neg = some n := by
  obtain ⟨h1, h2, h3, h4⟩ := parse_out hw h
  cases neg with
  | false =>
    simp at h3 h4 hd
    subst h3
    unfold decL at hd
    rw [if_neg (by omega), show ((valF 0 d : Nat) : Int).toNat = valF 0 d by omega] at hd
    rw [← hd, digits_val] at *
    exact numB_pos _ (by omega)
  | true =>
    simp at h3 h4 hd
    subst h3
    unfold decL at hd
    by_cases h0 : valF 0 d = 0
    · rw [h0] at hd
      rw [if_neg (by omega), show (-((0 : Nat) : Int)).toNat = 0 by omega, Lib.decDigits_one (by omega)] at hd
      have e2 := congrArg List.length hd
      simp [hiM] at e2
    · rw [if_pos (by omega), show (-((valF 0 d : Nat) : Int)).natAbs = valF 0 d by omega] at hd
      have hd' : Lib.decDigits (valF 0 d) = d := List.append_cancel_left hd
      rw [← hd', digits_val] at *
      exact numB_neg _ (by omega) (by omega)
theorem parse_not {d : List UInt8} {neg : Bool} (hw : d.all wpB = true) (h : numB d neg = none) : ∀ n, Lib.parseIntB 64 (signed d neg) = .ok n → decL n ≠ (if neg then hiM else []) ++ d := by
  intro n h1 h2
  have := parse_same hw h1 h2
  rw [h] at this
  cases this
end Go.Proofs.YtihkflpbccebmaaDoor.lx
