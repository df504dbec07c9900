/- The texts of two lists of numbers are the same exactly if the lists are. -/
import Derived.Test.YtbjfflflegbfaaaDoorText
namespace Go.Proofs.YtbjfflflegbfaaaDoor.txt
open Go.Proofs.YtbjfflflegbfaaaDoor.mem

/-- The number that digits spell. -/
def spell (l : List UInt8) : Nat := l.foldl (fun s c => s * 10 + (c.toNat - 48)) 0
theorem digit_val (d : Nat) (h : d < 10) : (UInt8.ofNat (48 + d)).toNat - 48 = d := by simp; omega
theorem spell_digits (u : Nat) : spell (Lib.decDigits u) = u := by
  induction u using Nat.strongRecOn with
  | _ u ih =>
    by_cases h : u < 10
    · rw [Lib.decDigits_one h]
      have := digit_val u h
      simp only [spell, List.foldl_cons, List.foldl_nil]
      omega
    · rw [Lib.decDigits, dif_neg h]
      have h1 := ih (u / 10) (by omega)
      have h2 := digit_val (u % 10) (by omega)
      unfold spell at h1 ⊢
      rw [List.foldl_append, h1, List.foldl_cons, List.foldl_nil, h2]
      omega
theorem digits_range (u : Nat) : ∀ c ∈ Lib.decDigits u, 48 ≤ c.toNat ∧ c.toNat ≤ 57 := by
  induction u using Nat.strongRecOn with
  | _ u ih =>
    intro c hc
    by_cases h : u < 10
    · rw [Lib.decDigits_one h] at hc
      rw [List.mem_singleton.1 hc]
      simp; omega
    · rw [Lib.decDigits, dif_neg h] at hc
      rcases List.mem_append.1 hc with hc | hc
      · exact ih (u / 10) (by omega) c hc
      · rw [List.mem_singleton.1 hc]
        simp; omega
theorem digits_some (u : Nat) : Lib.decDigits u ≠ [] := by
  intro h
  by_cases hu : u < 10
  · rw [Lib.decDigits_one hu] at h; cases h
  · rw [Lib.decDigits, dif_neg hu] at h; simp at h
theorem itoa_some (x : Int) : Lib.itoa x ≠ [] := by
  unfold Lib.itoa
  split
  · simp
  · exact digits_some _
theorem itoa_no_blank (x : Int) : ∀ c ∈ Lib.itoa x, c ≠ 32 := by
  intro c hc e
  subst e
  unfold Lib.itoa at hc
  split at hc
  · rcases List.mem_cons.1 hc with h | h
    · exact absurd h (by decide)
    · have := digits_range _ _ h; simp at this
  · have := digits_range _ _ hc; simp at this
theorem itoa_inj {x y : Int} (h : Lib.itoa x = Lib.itoa y) : x = y := by
  unfold Lib.itoa at h
  have head : ∀ u v : Nat, 45 :: Lib.decDigits u ≠ Lib.decDigits v := fun u v e => by
    have := digits_range v 45 (by rw [← e]; simp)
    simp at this
  split at h <;> split at h
  · injection h with _ h
    have := congrArg spell h
    rw [spell_digits, spell_digits] at this
    omega
  · exact absurd h (head _ _)
  · exact absurd h.symm (head _ _)
  · have := congrArg spell h
    rw [spell_digits, spell_digits] at this
    omega

theorem split_at {a b s t : List UInt8} (ha : ∀ c ∈ a, c ≠ 32) (hb : ∀ c ∈ b, c ≠ 32) (hs : s = [] ∨ ∃ r, s = 32 :: r) (ht : t = [] ∨ ∃ r, t = 32 :: r) (h : a ++ s = b ++ t) : a = b ∧ s = t := by
  induction a generalizing b with
  | nil =>
    cases b with
    | nil => exact ⟨rfl, h⟩
    | cons y b =>
      exfalso
      rcases hs with rfl | ⟨r, rfl⟩
      · simp at h
      · simp only [List.nil_append, List.cons_append, List.cons.injEq] at h
        exact hb y (by simp) h.1.symm
  | cons x a ih =>
    cases b with
    | nil =>
      exfalso
      rcases ht with rfl | ⟨r, rfl⟩
      · simp at h
      · simp only [List.nil_append, List.cons_append, List.cons.injEq] at h
        exact ha x (by simp) h.1
    | cons y b =>
      simp only [List.cons_append, List.cons.injEq] at h
      obtain ⟨rfl, h⟩ := h
      have h2 := ih (fun c hc => ha c (by simp [hc])) (fun c hc => hb c (by simp [hc])) h
      exact ⟨by rw [h2.1], h2.2⟩
theorem tail_form (l : List (List UInt8)) : Lib.joinTail [32] l = [] ∨ ∃ r, Lib.joinTail [32] l = 32 :: r := by
  cases l with
  | nil => exact .inl rfl
  | cons y l => exact .inr ⟨_, rfl⟩
theorem tail_inj : ∀ {xs ys : List Int}, Lib.joinTail [32] (xs.map Lib.itoa) = Lib.joinTail [32] (ys.map Lib.itoa) → xs = ys
  | [], [], _ => rfl
  | [], y :: ys, h => by simp [Lib.joinTail] at h
  | x :: xs, [], h => by simp [Lib.joinTail] at h
  | x :: xs, y :: ys, h => by
    have h' : 32 :: (Lib.itoa x ++ Lib.joinTail [32] (xs.map Lib.itoa)) = 32 :: (Lib.itoa y ++ Lib.joinTail [32] (ys.map Lib.itoa)) := by simpa [Lib.joinTail] using h
    injection h' with _ h'
    obtain ⟨h1, h2⟩ := split_at (itoa_no_blank x) (itoa_no_blank y) (tail_form _) (tail_form _) h'
    rw [itoa_inj h1, tail_inj h2]
theorem text_inj {xs ys : List Int} (h : textL xs = textL ys) : xs = ys := by
  unfold textL at h
  cases xs with
  | nil =>
    cases ys with
    | nil => rfl
    | cons y ys =>
      rw [List.map_cons, Lib.join_cons, List.map_nil, Lib.join_nil] at h
      exact absurd (List.append_eq_nil_iff.1 h.symm).1 (itoa_some y)
  | cons x xs =>
    cases ys with
    | nil =>
      rw [List.map_cons, Lib.join_cons, List.map_nil, Lib.join_nil] at h
      exact absurd (List.append_eq_nil_iff.1 h).1 (itoa_some x)
    | cons y ys =>
      rw [List.map_cons, List.map_cons, Lib.join_cons, Lib.join_cons] at h
      obtain ⟨h1, h2⟩ := split_at (itoa_no_blank x) (itoa_no_blank y) (tail_form _) (tail_form _) h
      rw [itoa_inj h1, tail_inj h2]
theorem strOf_inj {a b : List UInt8} (h : strOf a = strOf b) : a = b := by
  have := congrArg (fun s : ByteArray => s.data.toList) h
  simpa [strOf] using this
end Go.Proofs.YtbjfflflegbfaaaDoor.txt
