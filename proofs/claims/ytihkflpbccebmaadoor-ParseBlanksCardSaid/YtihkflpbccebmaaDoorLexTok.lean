/- Tokens of a text: the list of tokens, and what texts behind one another have. -/
import Derived.Test.YtihkflpbccebmaaDoorLexMath
namespace Go.Proofs.YtihkflpbccebmaaDoor.lx
set_option linter.unusedVariables false
set_option linter.unusedSimpArgs false

structure Tk where
  k : Int
  t : List UInt8
  n : Int
  deriving DecidableEq

def wordL (l : List UInt8) : List UInt8 := if (l.takeWhile wpB).takeWhile digB = [] then l.takeWhile wpB else []
def negB (l : List UInt8) : Bool := hiM.isPrefixOf l
def preL (l : List UInt8) : List UInt8 := if negB l then hiM else []
def digL (l : List UInt8) : List UInt8 := (l.drop (preL l).length).takeWhile wpB
def gls : List (List UInt8) := [[226, 134, 145], [226, 134, 147], [226, 140, 189], [226, 141, 137], [226, 141, 180], [226, 141, 172], [226, 134, 144], [44], [40], [41], [91], [93]]
def glyL (l : List UInt8) : List UInt8 := (gls.find? fun g => g.isPrefixOf l).getD []
/-- The token that a text begins with. -/
def fir (l : List UInt8) : Option Tk :=
  if wordL l ≠ [] then some ⟨1, wordL l, 0⟩ else
    match numB (digL l) (negB l) with
    | some n => some ⟨2, preL l ++ digL l, n⟩
    | none => if glyL l ≠ [] then some ⟨3, glyL l, 0⟩ else none
def tokF : Nat → List UInt8 → Option (List Tk)
  | 0, _ => some []
  | _ + 1, [] => some []
  | n + 1, c :: r => if blB c then tokF n r else
    match fir (c :: r) with
    | none => none
    | some t => (tokF n ((c :: r).drop t.t.length)).map (t :: ·)
/-- The tokens of a text. -/
def tok (l : List UInt8) : Option (List Tk) := tokF l.length l

/-! ### Prefixes -/
theorem pre_iff {p l : List UInt8} : p.isPrefixOf l = true ↔ ∃ r, l = p ++ r := by
  rw [List.isPrefixOf_iff_prefix]
  constructor
  · rintro ⟨r, h⟩; exact ⟨r, h.symm⟩
  · rintro ⟨r, h⟩; exact ⟨r, h.symm⟩
theorem tw_pre (p : UInt8 → Bool) (l : List UInt8) : ∃ r, l = l.takeWhile p ++ r := ⟨l.dropWhile p, List.takeWhile_append_dropWhile.symm⟩
theorem tw_len (p : UInt8 → Bool) (l : List UInt8) : (l.takeWhile p).length ≤ l.length := by
  obtain ⟨r, h⟩ := tw_pre p l
  have := congrArg List.length h
  rw [List.length_append] at this
  omega
theorem tw_all (p : UInt8 → Bool) (l : List UInt8) : (l.takeWhile p).all p = true := by
  induction l with
  | nil => rfl
  | cons c r ih =>
    cases hc : p c
    · simp [List.takeWhile_cons, hc]
    · simp only [List.takeWhile_cons, hc, if_true, List.all_cons, ih, Bool.and_self]
theorem tw_take (p : UInt8 → Bool) (l : List UInt8) : l.take (l.takeWhile p).length = l.takeWhile p := by
  obtain ⟨r, h⟩ := tw_pre p l
  generalize l.takeWhile p = a at *
  subst h
  simp
theorem pre_pre (l : List UInt8) : ∃ r, l = preL l ++ r := by
  unfold preL
  cases h : negB l
  · exact ⟨l, by simp⟩
  · obtain ⟨r, h⟩ := pre_iff.1 h; exact ⟨r, by simpa using h⟩
theorem pre_len (l : List UInt8) : (preL l).length ≤ l.length := by
  obtain ⟨r, h⟩ := pre_pre l
  have := congrArg List.length h
  rw [List.length_append] at this
  omega
theorem num_pre (l : List UInt8) : ∃ r, l = (preL l ++ digL l) ++ r := by
  obtain ⟨r, h⟩ := pre_pre l
  obtain ⟨r', h'⟩ := tw_pre wpB (l.drop (preL l).length)
  refine ⟨r', ?_⟩
  have e : l.drop (preL l).length = r := by
    clear h'
    generalize preL l = a at *
    subst h; simp
  unfold digL
  rw [List.append_assoc, ← h', e]
  exact h
theorem gly_pre (l : List UInt8) : ∃ r, l = glyL l ++ r := by
  unfold glyL
  cases h : gls.find? fun g => g.isPrefixOf l with
  | none => exact ⟨l, rfl⟩
  | some g => exact pre_iff.1 (by simpa using List.find?_some h)
theorem take_pre {a l : List UInt8} (h : ∃ r, l = a ++ r) : l.take a.length = a := by
  obtain ⟨r, h⟩ := h; subst h; simp
theorem word_pre (l : List UInt8) : ∃ r, l = wordL l ++ r := by
  unfold wordL
  split
  · exact tw_pre wpB l
  · exact ⟨l, rfl⟩
theorem fir_pre {l : List UInt8} {t : Tk} (h : fir l = some t) : t.t ≠ [] ∧ (∃ r, l = t.t ++ r) ∧ -9223372036854775808 ≤ t.n ∧ t.n ≤ 9223372036854775807 ∧ 1 ≤ t.k ∧ t.k ≤ 3 := by
  unfold fir at h
  by_cases hw : wordL l ≠ []
  · rw [if_pos hw] at h
    injection h with h
    subst h
    exact ⟨hw, word_pre l, by show (-9223372036854775808 : Int) ≤ 0; decide, by show (0 : Int) ≤ 9223372036854775807; decide, by show (1 : Int) ≤ 1; decide, by show (1 : Int) ≤ 3; decide⟩
  · rw [if_neg hw] at h
    cases hn : numB (digL l) (negB l) with
    | some n =>
      rw [hn] at h
      injection h with h
      subst h
      exact ⟨fun e => (numB_some hn).1 (List.append_eq_nil_iff.1 e).2, num_pre l, (numB_bounds hn).1, (numB_bounds hn).2, by show (1 : Int) ≤ 2; decide, by show (2 : Int) ≤ 3; decide⟩
    | none =>
      rw [hn] at h
      by_cases hg : glyL l ≠ []
      · have h' : (if glyL l ≠ [] then some (⟨3, glyL l, 0⟩ : Tk) else none) = some t := h
        rw [if_pos hg] at h'
        injection h' with h'
        subst h'
        exact ⟨hg, gly_pre l, by show (-9223372036854775808 : Int) ≤ 0; decide, by show (0 : Int) ≤ 9223372036854775807; decide, by show (1 : Int) ≤ 3; decide, by show (3 : Int) ≤ 3; decide⟩
      · have h' : (if glyL l ≠ [] then some (⟨3, glyL l, 0⟩ : Tk) else none) = some t := h
        rw [if_neg hg] at h'
        cases h'
theorem fir_len {l : List UInt8} {t : Tk} (h : fir l = some t) : 1 ≤ t.t.length ∧ t.t.length ≤ l.length := by
  obtain ⟨h1, ⟨r, h2⟩, _⟩ := fir_pre h
  have := congrArg List.length h2
  rw [List.length_append] at this
  have : t.t.length ≠ 0 := fun e => h1 (List.eq_nil_of_length_eq_zero e)
  omega

/-! ### The list of tokens -/
theorem tokF_eq : ∀ (n : Nat) (l : List UInt8), l.length ≤ n → ∀ m, l.length ≤ m → tokF n l = tokF m l
  | 0, l, h, m, hm => by
    obtain rfl := List.eq_nil_of_length_eq_zero (by omega : l.length = 0)
    cases m <;> rfl
  | n + 1, [], h, m, hm => by cases m <;> rfl
  | n + 1, c :: r, h, 0, hm => by simp at hm
  | n + 1, c :: r, h, m + 1, hm => by
    simp only [List.length_cons] at h hm
    simp only [tokF]
    cases hb : blB c
    · simp only [Bool.false_eq_true, if_false]
      cases hf : fir (c :: r) with
      | none => rfl
      | some t =>
        have hl := fir_len hf
        simp only [List.length_cons] at hl
        have hd : ((c :: r).drop t.t.length).length ≤ r.length := by rw [List.length_drop, List.length_cons]; omega
        simp only []
        rw [tokF_eq n _ (by omega) m (by omega)]
    · simp only [if_true]
      exact tokF_eq n r (by omega) m (by omega)
theorem tok_nil : tok [] = some [] := rfl
theorem tok_bl {c : UInt8} {r : List UInt8} (h : blB c = true) : tok (c :: r) = tok r := by
  unfold tok
  simp only [List.length_cons, tokF, h, if_true]
theorem tok_none {c : UInt8} {r : List UInt8} (h : blB c = false) (hf : fir (c :: r) = none) : tok (c :: r) = none := by
  unfold tok
  simp only [List.length_cons, tokF, h, hf]
  rfl
theorem tok_some {c : UInt8} {r : List UInt8} {t : Tk} (h : blB c = false) (hf : fir (c :: r) = some t) : tok (c :: r) = (tok ((c :: r).drop t.t.length)).map (t :: ·) := by
  have hl := fir_len hf
  simp only [List.length_cons] at hl
  unfold tok
  simp only [List.length_cons, tokF, h, hf]
  rw [tokF_eq r.length _ (by rw [List.length_drop, List.length_cons]; omega) ((c :: r).drop t.t.length).length (Nat.le_refl _)]
  rfl
theorem tok_skip : ∀ l : List UInt8, tok (l.dropWhile blB) = tok l
  | [] => rfl
  | c :: r => by
    cases h : blB c
    · simp [List.dropWhile_cons, h]
    · rw [tok_bl h, List.dropWhile_cons, if_pos h]; exact tok_skip r
theorem tok_len : ∀ (n : Nat) (l : List UInt8) (L : List Tk), l.length ≤ n → tok l = some L → L.length ≤ l.length ∧ ∀ t ∈ L, -9223372036854775808 ≤ t.n ∧ t.n ≤ 9223372036854775807 ∧ 1 ≤ t.k ∧ t.k ≤ 3 ∧ t.t.length ≤ l.length
  | n, [], L, _, h => by rw [tok_nil] at h; injection h with h; subst h; exact ⟨Nat.le_refl _, fun t ht => by cases ht⟩
  | 0, c :: r, L, hn, h => by simp at hn
  | n + 1, c :: r, L, hn, h => by
    simp only [List.length_cons] at hn
    cases hb : blB c
    · cases hf : fir (c :: r) with
      | none => rw [tok_none hb hf] at h; cases h
      | some t =>
        rw [tok_some hb hf] at h
        have hl := fir_len hf
        simp only [List.length_cons] at hl
        cases hd : tok ((c :: r).drop t.t.length) with
        | none => rw [hd] at h; cases h
        | some M =>
          rw [hd] at h
          injection h with h
          subst h
          have hdl : ((c :: r).drop t.t.length).length = r.length + 1 - t.t.length := by rw [List.length_drop, List.length_cons]
          have ih := tok_len n _ M (by omega) hd
          refine ⟨by simp only [List.length_cons]; omega, fun u hu => ?_⟩
          rcases List.mem_cons.1 hu with rfl | hu
          · have := fir_pre hf
            exact ⟨this.2.2.1, this.2.2.2.1, this.2.2.2.2.1, this.2.2.2.2.2, by simp only [List.length_cons]; omega⟩
          · have := ih.2 u hu
            simp only [List.length_cons]
            exact ⟨this.1, this.2.1, this.2.2.1, this.2.2.2.1, by omega⟩
    · rw [tok_bl hb] at h
      have ih := tok_len n r L (by omega) h
      simp only [List.length_cons]
      exact ⟨by omega, fun u hu => by have := ih.2 u hu; exact ⟨this.1, this.2.1, this.2.2.1, this.2.2.2.1, by omega⟩⟩

/-! ### The reference's way -/
theorem hi_wp {r : List UInt8} : wordL (194 :: r) = [] := by
  have : wpB 194 = false := by decide
  unfold wordL
  simp [List.takeWhile_cons, this]
theorem word_let {c : UInt8} {r : List UInt8} (h : letB c = true) : wordL (c :: r) = (c :: r).takeWhile wpB ∧ (c :: r).takeWhile wpB ≠ [] := by
  have hw : wpB c = true := wp_iff.2 (.inl h)
  have hd : digB c = false := by cases hd : digB c; rfl; rw [dig_let hd] at h; cases h
  unfold wordL
  simp [List.takeWhile_cons, hw, hd]
theorem word_not {c : UInt8} {r : List UInt8} (h : letB c = false) : wordL (c :: r) = [] := by
  unfold wordL
  cases hd : digB c
  · have : wpB c = false := by simp [wpB, h, hd]
    simp [List.takeWhile_cons, this]
  · have : wpB c = true := by simp [wpB, h, hd]
    simp [List.takeWhile_cons, this, hd]
theorem fir_let {c : UInt8} {r : List UInt8} (h : letB c = true) : fir (c :: r) = some ⟨1, (c :: r).takeWhile wpB, 0⟩ := by
  obtain ⟨h1, h2⟩ := word_let (r := r) h
  unfold fir
  rw [h1, if_pos h2]
theorem gly_num {c : UInt8} {r : List UInt8} (hd : digL (c :: r) ≠ []) : glyL (c :: r) = [] := by
  unfold glyL
  cases h : gls.find? fun g => g.isPrefixOf (c :: r) with
  | none => rfl
  | some g =>
    exfalso
    have hm := List.mem_of_find?_eq_some h
    obtain ⟨q, hq⟩ := pre_iff.1 (by simpa using List.find?_some h : g.isPrefixOf (c :: r) = true)
    have hne : negB (c :: r) = false := by
      cases hn : negB (c :: r)
      · rfl
      · obtain ⟨q', hq'⟩ := pre_iff.1 hn
        have e : c = 194 := by rw [hiM] at hq'; injection hq'
        subst e
        have : ∀ g ∈ gls, g.headD 0 ≠ 194 := by decide
        have h2 := this g hm
        cases g with
        | nil => have : [] ∉ gls := by decide
                 exact absurd hm this
        | cons x y => injection hq with e1 e2; exact absurd e1.symm h2
    have hc : wpB c = true := by
      cases hc : wpB c
      · exfalso; apply hd; unfold digL preL; rw [hne]; simp [List.takeWhile_cons, hc]
      · rfl
    have : ∀ g ∈ gls, wpB (g.headD 0) = false := by decide
    have h2 := this g hm
    cases g with
    | nil => have : [] ∉ gls := by decide
             exact absurd hm this
    | cons x y => injection hq with e1 e2; subst e1; simp only [List.headD_cons] at h2; rw [hc] at h2; cases h2
theorem fir_num {c : UInt8} {r : List UInt8} (h : letB c = false) (hd : digL (c :: r) ≠ []) : fir (c :: r) = (numB (digL (c :: r)) (negB (c :: r))).map fun n => ⟨2, preL (c :: r) ++ digL (c :: r), n⟩ := by
  unfold fir
  rw [word_not h, if_neg (by simp), gly_num hd]
  cases numB (digL (c :: r)) (negB (c :: r)) <;> simp
theorem fir_gly {c : UInt8} {r : List UInt8} (h : letB c = false) (hd : digL (c :: r) = []) : fir (c :: r) = if glyL (c :: r) = [] then none else some ⟨3, glyL (c :: r), 0⟩ := by
  unfold fir
  rw [word_not h, if_neg (by simp), hd]
  have : numB [] (negB (c :: r)) = none := by unfold numB; rw [if_neg (by simp)]
  rw [this]
  by_cases hg : glyL (c :: r) = [] <;> simp [hg]

/-- The last glyph that a text begins with. -/
def lastG (l : List UInt8) (gs : List (List UInt8)) : List UInt8 := gs.foldl (fun f g => if g.isPrefixOf l then g else f) []
theorem fold_one {α : Type} (p : α → Bool) (x : α) : ∀ gs : List α, (∀ g ∈ gs, p g = true → g = x) → gs.foldl (fun f g => if p g then g else f) x = x
  | [], _ => rfl
  | g :: r, h => by
    simp only [List.foldl_cons]
    cases hp : p g
    · simp; exact fold_one p x r fun y hy => h y (List.mem_cons_of_mem _ hy)
    · rw [h g List.mem_cons_self hp]; simp; exact fold_one p x r fun y hy => h y (List.mem_cons_of_mem _ hy)
theorem fold_find {α : Type} (p : α → Bool) (z : α) : ∀ gs : List α, (∀ a ∈ gs, ∀ b ∈ gs, p a = true → p b = true → a = b) → gs.foldl (fun f g => if p g then g else f) z = (gs.find? p).getD z
  | [], _ => rfl
  | g :: r, h => by
    simp only [List.foldl_cons, List.find?_cons]
    cases hp : p g
    · simp; exact fold_find p z r fun a ha b hb => h a (List.mem_cons_of_mem _ ha) b (List.mem_cons_of_mem _ hb)
    · simp; exact fold_one p g r fun y hy hpy => h y (List.mem_cons_of_mem _ hy) g List.mem_cons_self hpy hp
theorem two_pre {a b l : List UInt8} (h1 : a.isPrefixOf l = true) (h2 : b.isPrefixOf l = true) : a.isPrefixOf b = true ∨ b.isPrefixOf a = true := by
  simp only [List.isPrefixOf_iff_prefix] at *
  exact List.prefix_or_prefix_of_prefix h1 h2
theorem last_gly (l : List UInt8) : lastG l gls = glyL l := by
  refine fold_find (fun g => g.isPrefixOf l) [] gls fun a ha b hb h1 h2 => ?_
  have hall : ∀ a ∈ gls, ∀ b ∈ gls, a.isPrefixOf b = true → a = b := by decide
  rcases two_pre h1 h2 with h | h
  · exact hall a ha b hb h
  · exact (hall b hb a ha h).symm

/-! ### Texts behind one another -/
theorem tw_sep (x : List UInt8) {c : UInt8} {b : List UInt8} (hc : wpB c = false) : (x ++ c :: b).takeWhile wpB = x.takeWhile wpB := by
  induction x with
  | nil => simp [List.takeWhile_cons, hc]
  | cons a r ih =>
    cases ha : wpB a
    · simp [List.takeWhile_cons, ha]
    · simp only [List.cons_append, List.takeWhile_cons, ha, if_true, ih]
theorem tail_sep {c : UInt8} {b : List UInt8} (hc : c.toNat < 128) : ∀ (p x : List UInt8), p.all (fun u => decide (128 ≤ u.toNat)) = true → p.isPrefixOf (x ++ c :: b) = p.isPrefixOf x
  | [], _, _ => rfl
  | q :: p, [], h => by
    simp only [List.all_cons, Bool.and_eq_true, decide_eq_true_eq] at h
    have : (q == c) = false := beq_eq_false_iff_ne.2 fun e => by subst e; omega
    simp only [List.nil_append, List.isPrefixOf, this, Bool.false_and]
  | q :: p, a :: x, h => by
    simp only [List.all_cons, Bool.and_eq_true] at h
    simp only [List.cons_append, List.isPrefixOf, tail_sep hc p x h.2]
theorem pre_sep {c : UInt8} {b : List UInt8} (hc : c.toNat < 128) {p x : List UInt8} (hx : x ≠ []) (h : p.tail.all (fun u => decide (128 ≤ u.toNat)) = true) : p.isPrefixOf (x ++ c :: b) = p.isPrefixOf x := by
  cases p with
  | nil => rfl
  | cons q p =>
    cases x with
    | nil => exact absurd rfl hx
    | cons a x =>
      simp only [List.cons_append, List.isPrefixOf]
      rw [tail_sep hc p x h]
theorem fir_sep {c : UInt8} {b x : List UInt8} (hc : c.toNat < 128) (hw : wpB c = false) (hx : x ≠ []) : fir (x ++ c :: b) = fir x := by
  have e1 : wordL (x ++ c :: b) = wordL x := by unfold wordL; rw [tw_sep x hw]
  have e2 : negB (x ++ c :: b) = negB x := pre_sep hc hx (by decide)
  have e3 : preL (x ++ c :: b) = preL x := by unfold preL; rw [e2]
  have e4 : digL (x ++ c :: b) = digL x := by
    unfold digL
    rw [e3, List.drop_append_of_le_length (pre_len x), tw_sep _ hw]
  have e5 : glyL (x ++ c :: b) = glyL x := by
    unfold glyL
    congr 1
    have hall : ∀ g ∈ gls, g.tail.all (fun u => decide (128 ≤ u.toNat)) = true := by decide
    have : ∀ gs : List (List UInt8), (∀ g ∈ gs, g.tail.all (fun u => decide (128 ≤ u.toNat)) = true) → gs.find? (fun g => g.isPrefixOf (x ++ c :: b)) = gs.find? (fun g => g.isPrefixOf x) := by
      intro gs
      induction gs with
      | nil => intro _; rfl
      | cons g r ih =>
        intro h
        simp only [List.find?_cons]
        rw [pre_sep hc hx (h g List.mem_cons_self), ih fun y hy => h y (List.mem_cons_of_mem _ hy)]
    exact this gls hall
  unfold fir
  rw [e1, e2, e3, e4, e5]
theorem tok_sep {c : UInt8} {b : List UInt8} (hc : c.toNat < 128) (hw : wpB c = false) : ∀ (n : Nat) (x : List UInt8), x.length ≤ n → tok (x ++ c :: b) = (tok x).bind fun l => (tok (c :: b)).map (l ++ ·)
  | n, [], _ => by
    rw [tok_nil, List.nil_append]
    simp only [Option.bind_some]
    cases tok (c :: b) <;> rfl
  | 0, a :: r, h => by simp at h
  | n + 1, a :: r, h => by
    simp only [List.length_cons] at h
    cases hb : blB a
    · have hfs := fir_sep (b := b) (x := a :: r) hc hw (by simp)
      cases hf : fir (a :: r) with
      | none =>
        rw [hf, List.cons_append] at hfs
        rw [tok_none hb hf, List.cons_append, tok_none hb hfs]; rfl
      | some t =>
        rw [hf, List.cons_append] at hfs
        have hl := fir_len hf
        simp only [List.length_cons] at hl
        rw [tok_some hb hf, List.cons_append, tok_some hb hfs]
        have e : (a :: (r ++ c :: b)).drop t.t.length = (a :: r).drop t.t.length ++ c :: b := by
          rw [← List.cons_append, List.drop_append_of_le_length (by simp only [List.length_cons]; omega)]
        rw [e, tok_sep hc hw n _ (by rw [List.length_drop, List.length_cons]; omega)]
        cases tok ((a :: r).drop t.t.length) with
        | none => rfl
        | some l => cases tok (c :: b) <;> rfl
    · rw [tok_bl hb, List.cons_append, tok_bl hb]
      exact tok_sep hc hw n r (by omega)
end Go.Proofs.YtihkflpbccebmaaDoor.lx
