/- Boxes of indices: which are right, what two have in common, what is left of one without another (plain mathematics). -/
import Derived.Test.YtaegkiangjnmdaaOdoMath
namespace Go.Proofs.Ytaegkiangjnmdaa.bx
open Go.Proofs.Ytaegkiangjnmdaa.mem Go.Proofs.Ytaegkiangjnmdaa.prod Go.Proofs.Ytaegkiangjnmdaa.shp Go.Proofs.Ytaegkiangjnmdaa.strd Go.Proofs.Ytaegkiangjnmdaa.gam Go.Proofs.Ytaegkiangjnmdaa.sml Go.Proofs.Ytaegkiangjnmdaa.all Go.Proofs.Ytaegkiangjnmdaa.odo
set_option linter.unusedVariables false

/-- Whether the ends of all axes are right. -/
def endB : List Int → List Int → Bool
  | a :: la, b :: lb => decide (0 ≤ a ∧ a ≤ b ∧ b ≤ 65536) && endB la lb
  | _, _ => true
/-- Whether a box is right. -/
def rgtB (lo hi : List Int) : Bool := decide (lo.length = hi.length ∧ lo.length ≤ 16) && endB lo hi
theorem end_step {lo hi : List Int} {k : Nat} {a b : Int} (ha : lo[k]? = some a) (hb : hi[k]? = some b) :
    endB (lo.drop k) (hi.drop k) = (decide (0 ≤ a ∧ a ≤ b ∧ b ≤ 65536) && endB (lo.drop (k + 1)) (hi.drop (k + 1))) := by
  rw [drop_at ha, drop_at hb]; rfl
theorem end_end {lo hi : List Int} {k n : Nat} (ha : lo.length = n) (hk : ¬ k < n) : endB (lo.drop k) (hi.drop k) = true := by
  rw [List.drop_of_length_le (by omega)]; rfl
theorem end_at : ∀ {lo hi : List Int} {k : Nat} {a b : Int}, endB lo hi = true → lo[k]? = some a → hi[k]? = some b → 0 ≤ a ∧ a ≤ b ∧ b ≤ 65536
  | [], _, k, a, b, _, h, _ => by simp at h
  | _ :: _, [], k, a, b, _, _, h => by simp at h
  | x :: xs, y :: ys, 0, a, b, h, h1, h2 => by
    simp only [endB, Bool.and_eq_true, decide_eq_true_eq] at h
    simp at h1 h2
    subst h1; subst h2
    exact h.1
  | x :: xs, y :: ys, k + 1, a, b, h, h1, h2 => by
    simp only [endB, Bool.and_eq_true] at h
    exact end_at h.2 (by simpa using h1) (by simpa using h2)
theorem rgt_out {lo hi : List Int} (h : rgtB lo hi = true) : lo.length = hi.length ∧ lo.length ≤ 16 ∧ endB lo hi = true := by
  unfold rgtB at h
  simp only [Bool.and_eq_true, decide_eq_true_eq] at h
  exact ⟨h.1.1, h.1.2, h.2⟩
theorem rgt_of {lo hi : List Int} (h1 : lo.length = hi.length) (h2 : lo.length ≤ 16) (h : endB lo hi = true) : rgtB lo hi = true := by
  unfold rgtB; rw [decide_eq_true ⟨h1, h2⟩, h]; rfl
theorem end_bound : ∀ {lo hi : List Int}, lo.length = hi.length → endB lo hi = true → (∀ x ∈ lo, 0 ≤ x ∧ x ≤ 65536) ∧ (∀ x ∈ hi, 0 ≤ x ∧ x ≤ 65536)
  | [], [], _, _ => ⟨fun x h => by simp at h, fun x h => by simp at h⟩
  | a :: la, b :: lb, hl, h => by
    simp only [endB, Bool.and_eq_true, decide_eq_true_eq] at h
    have ih := end_bound (lo := la) (hi := lb) (by simpa using hl) h.2
    refine ⟨fun x hx => ?_, fun x hx => ?_⟩
    · rcases List.mem_cons.1 hx with rfl | hx
      · omega
      · exact ih.1 x hx
    · rcases List.mem_cons.1 hx with rfl | hx
      · omega
      · exact ih.2 x hx
  | [], _ :: _, hl, _ => by simp at hl
  | _ :: _, [], hl, _ => by simp at hl
theorem wide_of {xs : List Int} (h : ∀ x ∈ xs, 0 ≤ x ∧ x ≤ 65536) : ∀ x ∈ xs, -4294967296 ≤ x ∧ x ≤ 4294967296 := fun x hx => by have := h x hx; omega

theorem ins_self : ∀ {lo hi xs : List Int}, insB lo hi xs = true → insB lo hi lo = true
  | [], [], [], _ => rfl
  | a :: la, b :: lb, x :: xs, h => by
    simp only [insB, Bool.and_eq_true, decide_eq_true_eq] at h ⊢
    exact ⟨by omega, ins_self h.2⟩
  | [], [], _ :: _, h => by simp [insB] at h
  | [], _ :: _, _, h => by simp [insB] at h
  | _ :: _, [], _, h => by simp [insB] at h
  | _ :: _, _ :: _, [], h => by simp [insB] at h

/-- What two boxes have in common. -/
def mxL (a b : List Int) : List Int := List.zipWith max a b
def mnL (a b : List Int) : List Int := List.zipWith min a b
theorem mx_len {a b : List Int} (h : a.length = b.length) : (mxL a b).length = a.length := by simp [mxL, h]
theorem mn_len {a b : List Int} (h : a.length = b.length) : (mnL a b).length = a.length := by simp [mnL, h]
theorem mx_at {a b : List Int} {k : Nat} {x y : Int} (hx : a[k]? = some x) (hy : b[k]? = some y) : (mxL a b)[k]? = some (max x y) := by
  unfold mxL; rw [List.getElem?_zipWith, hx, hy]
theorem mn_at {a b : List Int} {k : Nat} {x y : Int} (hx : a[k]? = some x) (hy : b[k]? = some y) : (mnL a b)[k]? = some (min x y) := by
  unfold mnL; rw [List.getElem?_zipWith, hx, hy]
theorem ins_meet : ∀ {al ah bl bh x : List Int}, al.length = ah.length → bl.length = bh.length → al.length = bl.length → insB (mxL al bl) (mnL ah bh) x = (insB al ah x && insB bl bh x)
  | [], [], [], [], [], _, _, _ => rfl
  | [], [], [], [], _ :: _, _, _, _ => rfl
  | a :: al, h :: ah, b :: bl, i :: bh, [], _, _, _ => rfl
  | a :: al, h :: ah, b :: bl, i :: bh, x :: xs, h1, h2, h3 => by
    have ih := ins_meet (al := al) (ah := ah) (bl := bl) (bh := bh) (x := xs) (by simpa using h1) (by simpa using h2) (by simpa using h3)
    show (decide (max a b ≤ x ∧ x < min h i) && insB (mxL al bl) (mnL ah bh) xs) = _
    rw [ih]
    simp only [insB]
    by_cases c1 : a ≤ x ∧ x < h <;> by_cases c2 : b ≤ x ∧ x < i
    · rw [decide_eq_true c1, decide_eq_true c2, decide_eq_true (by omega)]; simp
    · rw [decide_eq_true c1, decide_eq_false c2, decide_eq_false (by omega)]; simp
    · rw [decide_eq_false c1, decide_eq_true c2, decide_eq_false (by omega)]; simp
    · rw [decide_eq_false c1, decide_eq_false c2, decide_eq_false (by omega)]; simp
  | [], _ :: _, _, _, _, h, _, _ => by simp at h
  | _ :: _, [], _, _, _, h, _, _ => by simp at h
  | _, _, [], _ :: _, _, _, h, _ => by simp at h
  | _, _, _ :: _, [], _, _, h, _ => by simp at h
  | [], _, _ :: _, _, _, _, _, h => by simp at h
  | _ :: _, _, [], _, _, _, _, h => by simp at h

/-- p and q lie within a and h, axis by axis. -/
def Wi : List Int → List Int → List Int → List Int → Prop
  | a :: la, h :: lh, p :: lp, q :: lq => (a ≤ p ∧ q ≤ h) ∧ Wi la lh lp lq
  | [], [], [], [] => True
  | _, _, _, _ => False
theorem wi_len : ∀ {a h p q : List Int}, Wi a h p q → a.length = h.length ∧ a.length = p.length ∧ a.length = q.length
  | [], [], [], [], _ => ⟨rfl, rfl, rfl⟩
  | _ :: la, _ :: lh, _ :: lp, _ :: lq, w => by
    have := wi_len w.2
    simp; omega
  | [], [], [], _ :: _, w => w.elim
  | [], [], _ :: _, _, w => w.elim
  | [], _ :: _, _, _, w => w.elim
  | _ :: _, [], _, _, w => w.elim
  | _ :: _, _ :: _, [], _, w => w.elim
  | _ :: _, _ :: _, _ :: _, [], w => w.elim
theorem wi_refl : ∀ {a h : List Int}, a.length = h.length → Wi a h a h
  | [], [], _ => trivial
  | a :: la, h :: lh, w => ⟨⟨Int.le_refl _, Int.le_refl _⟩, wi_refl (by simpa using w)⟩
  | [], _ :: _, w => by simp at w
  | _ :: _, [], w => by simp at w
theorem wi_meet : ∀ {al ah bl bh : List Int}, al.length = ah.length → bl.length = bh.length → al.length = bl.length → Wi al ah (mxL al bl) (mnL ah bh)
  | [], [], [], [], _, _, _ => trivial
  | a :: al, h :: ah, b :: bl, i :: bh, h1, h2, h3 => ⟨⟨by omega, by omega⟩, wi_meet (by simpa using h1) (by simpa using h2) (by simpa using h3)⟩
  | [], _ :: _, _, _, h, _, _ => by simp at h
  | _ :: _, [], _, _, h, _, _ => by simp at h
  | _, _, [], _ :: _, _, h, _ => by simp at h
  | _, _, _ :: _, [], _, h, _ => by simp at h
  | [], _, _ :: _, _, _, _, h => by simp at h
  | _ :: _, _, [], _, _, _, h => by simp at h
/-- A box within a right one, with its ends in order, is right. -/
theorem wi_end : ∀ {a h p q : List Int}, Wi a h p q → endB a h = true → (∀ (k : Nat) x y, p[k]? = some x → q[k]? = some y → x ≤ y) → endB p q = true
  | [], [], [], [], _, _, _ => rfl
  | a :: la, h :: lh, p :: lp, q :: lq, w, e, o => by
    simp only [endB, Bool.and_eq_true, decide_eq_true_eq] at e ⊢
    have := o 0 p q rfl rfl
    exact ⟨by have := w.1; omega, wi_end w.2 e.2 (fun k x y h1 h2 => o (k + 1) x y (by simpa using h1) (by simpa using h2))⟩
  | [], [], [], _ :: _, w, _, _ => w.elim
  | [], [], _ :: _, _, w, _, _ => w.elim
  | [], _ :: _, _, _, w, _, _ => w.elim
  | _ :: _, [], _, _, w, _, _ => w.elim
  | _ :: _, _ :: _, [], _, w, _, _ => w.elim
  | _ :: _, _ :: _, _ :: _, [], w, _, _ => w.elim
theorem ins_order : ∀ {lo hi xs : List Int}, insB lo hi xs = true → ∀ (k : Nat) x y, lo[k]? = some x → hi[k]? = some y → x ≤ y
  | [], [], [], _, k, x, y, h, _ => by simp at h
  | a :: la, b :: lb, z :: xs, h, k, x, y, h1, h2 => by
    simp only [insB, Bool.and_eq_true, decide_eq_true_eq] at h
    rcases k with _ | k
    · simp at h1 h2; omega
    · exact ins_order h.2 k x y (by simpa using h1) (by simpa using h2)
  | [], [], _ :: _, h, _, _, _, _, _ => by simp [insB] at h
  | [], _ :: _, _, h, _, _, _, _, _ => by simp [insB] at h
  | _ :: _, [], _, h, _, _, _, _, _ => by simp [insB] at h
  | _ :: _, _ :: _, [], h, _, _, _, _, _ => by simp [insB] at h

/-- How many cells of a box are in a box within it. -/
theorem sum_if (n : Nat) : ∀ (a p q : Int) (M : Nat), a ≤ p → q ≤ a + (n : Int) → ((List.range n).map fun k : Nat => if p ≤ a + (k : Int) ∧ a + (k : Int) < q then M else 0).sum = (q - p).toNat * M := by
  induction n with
  | zero =>
    intro a p q M h1 h2
    have : (q - p).toNat = 0 := by omega
    rw [this]; simp
  | succ n ih =>
    intro a p q M h1 h2
    rw [List.range_succ, List.map_append, List.sum_append]
    by_cases hq : q ≤ a + (n : Int)
    · rw [ih a p q M h1 hq]
      simp only [List.map_cons, List.map_nil, List.sum_cons, List.sum_nil]
      rw [if_neg (by omega)]; omega
    · have e : ((List.range n).map fun k : Nat => if p ≤ a + (k : Int) ∧ a + (k : Int) < q then M else 0) = (List.range n).map fun k : Nat => if p ≤ a + (k : Int) ∧ a + (k : Int) < a + (n : Int) then M else 0 := by
        apply List.map_congr_left
        intro k hk
        have := List.mem_range.1 hk
        by_cases c : p ≤ a + (k : Int)
        · rw [if_pos (by omega), if_pos (by omega)]
        · rw [if_neg (by omega), if_neg (by omega)]
      rw [e, ih a p (a + (n : Int)) M h1 (by omega)]
      simp only [List.map_cons, List.map_nil, List.sum_cons, List.sum_nil]
      by_cases c : p ≤ a + (n : Int)
      · rw [if_pos (by omega)]
        have e2 : (q - p).toNat = (a + (n : Int) - p).toNat + 1 := by omega
        rw [e2, Nat.add_mul]; omega
      · rw [if_neg (by omega)]
        have e2 : (q - p).toNat = 0 := by omega
        have e3 : (a + (n : Int) - p).toNat = 0 := by omega
        rw [e2, e3]; omega
theorem cnt_within : ∀ {a h p q : List Int}, Wi a h p q → (rngs a h).countP (insB p q) = (rngs p q).length
  | [], [], [], [], _ => by simp [rngs, insB]
  | a :: la, h :: lh, p :: lp, q :: lq, w => by
    have ih := cnt_within w.2
    show ((List.range (h - a).toNat).flatMap fun k : Nat => (rngs la lh).map fun t => (a + (k : Int)) :: t).countP (insB (p :: lp) (q :: lq)) = ((List.range (q - p).toNat).flatMap fun k : Nat => (rngs lp lq).map fun t => (p + (k : Int)) :: t).length
    rw [List.countP_flatMap, List.length_flatMap]
    have e : (List.range (h - a).toNat).map (List.countP (insB (p :: lp) (q :: lq)) ∘ fun k : Nat => (rngs la lh).map fun t => (a + (k : Int)) :: t) = (List.range (h - a).toNat).map fun k : Nat => if p ≤ a + (k : Int) ∧ a + (k : Int) < q then (rngs lp lq).length else 0 := by
      apply List.map_congr_left
      intro k _
      simp only [Function.comp, List.countP_map]
      by_cases c : p ≤ a + (k : Int) ∧ a + (k : Int) < q
      · rw [if_pos c, ← ih]
        congr 1
        funext t
        simp [insB, c]
      · rw [if_neg c]
        rw [List.countP_eq_zero]
        intro t _
        simp only [Function.comp, insB, decide_eq_false c]
        simp
    rw [e]
    by_cases c : h ≤ a
    · have e0 : (h - a).toNat = 0 := by omega
      have e1 : (q - p).toNat = 0 := by have := w.1; omega
      rw [e0, e1]; simp
    · rw [sum_if _ a p q _ w.1.1 (by have := w.1; omega)]
      simp [List.map_const']
  | [], [], [], _ :: _, w => w.elim
  | [], [], _ :: _, _, w => w.elim
  | [], _ :: _, _, _, w => w.elim
  | _ :: _, [], _, _, w => w.elim
  | _ :: _, _ :: _, [], _, w => w.elim
  | _ :: _, _ :: _, _ :: _, [], w => w.elim
theorem sum_add {β : Type} (f : β → Bool) (g : β → Nat) : ∀ (R : List β), R.countP f + (R.map g).sum = (R.map fun x => g x + if f x = true then 1 else 0).sum
  | [] => rfl
  | x :: R => by
    have ih := sum_add f g R
    simp only [List.map_cons, List.sum_cons, List.countP_cons]
    omega
theorem sum_zero {β : Type} : ∀ (R : List β), (R.map fun _ => 0).sum = 0
  | [] => rfl
  | x :: R => by simp only [List.map_cons, List.sum_cons, sum_zero R]
theorem sum_swap {α β : Type} (f : α → β → Bool) (R : List β) : ∀ (L : List α), (L.map fun p => R.countP (f p)).sum = (R.map fun x => L.countP fun p => f p x).sum
  | [] => (sum_zero R).symm
  | p :: L => by
    rw [List.map_cons, List.sum_cons, sum_swap f R L, sum_add]
    congr 1
    apply List.map_congr_left
    intro x _
    rw [List.countP_cons]

abbrev Bx := List Int × List Int
/-- Whether a box has cells. -/
def neB (p : Bx) : Bool := insB p.1 p.2 p.1
def hasB (x : List Int) (p : Bx) : Bool := insB p.1 p.2 x
/-- What is left of us, hs without cs, ds, behind the axes P, Q. -/
def pcs : List Int → List Int → List Int → List Int → List Int → List Int → List Bx
  | P, Q, a :: us, h :: hs, c :: cs, d :: ds => [(P ++ a :: us, Q ++ c :: hs), (P ++ d :: us, Q ++ h :: hs)].filter neB ++ pcs (P ++ [c]) (Q ++ [d]) us hs cs ds
  | _, _, _, _, _, _ => []
def minL (al ah bl bh : List Int) : List Bx :=
  if al.length = bl.length ∧ insB (mxL al bl) (mnL ah bh) (mxL al bl) = true then pcs [] [] al ah (mxL al bl) (mnL ah bh) else [(al, ah)].filter neB
theorem ins_append : ∀ {P Q X us hs xs : List Int}, P.length = X.length → Q.length = X.length → insB (P ++ us) (Q ++ hs) (X ++ xs) = (insB P Q X && insB us hs xs)
  | [], [], [], us, hs, xs, _, _ => by simp [insB]
  | p :: P, q :: Q, x :: X, us, hs, xs, h1, h2 => by
    have ih := ins_append (P := P) (Q := Q) (X := X) (us := us) (hs := hs) (xs := xs) (by simpa using h1) (by simpa using h2)
    simp only [List.cons_append, insB, ih, Bool.and_assoc]
  | [], _, _ :: _, _, _, _, h, _ => by simp at h
  | _ :: _, _, [], _, _, _, h, _ => by simp at h
  | _, [], _ :: _, _, _, _, _, h => by simp at h
  | _, _ :: _, [], _, _, _, _, h => by simp at h
theorem has_ne {x : List Int} {p : Bx} (h : hasB x p = true) : neB p = true := ins_self h
theorem cnt_filter (x : List Int) (l : List Bx) : (l.filter neB).countP (hasB x) = l.countP (hasB x) := by
  rw [List.countP_filter]
  congr 1
  funext p
  cases h : hasB x p
  · rfl
  · rw [has_ne h]; rfl
theorem pcs_none : ∀ {us hs cs ds P Q X xs : List Int}, P.length = X.length → Q.length = X.length → insB P Q X = false → (pcs P Q us hs cs ds).countP (hasB (X ++ xs)) = 0
  | a :: us, h :: hs, c :: cs, d :: ds, P, Q, X, xs, h1, h2, hf => by
    show ([(P ++ a :: us, Q ++ c :: hs), (P ++ d :: us, Q ++ h :: hs)].filter neB ++ pcs (P ++ [c]) (Q ++ [d]) us hs cs ds).countP (hasB (X ++ xs)) = 0
    rw [List.countP_append, cnt_filter]
    have e1 : hasB (X ++ xs) (P ++ a :: us, Q ++ c :: hs) = false := by unfold hasB; rw [ins_append h1 h2, hf]; rfl
    have e2 : hasB (X ++ xs) (P ++ d :: us, Q ++ h :: hs) = false := by unfold hasB; rw [ins_append h1 h2, hf]; rfl
    simp only [List.countP_cons, List.countP_nil, e1, e2]
    cases xs with
    | nil =>
      have : ∀ {us hs cs ds P Q : List Int}, X.length < P.length → (pcs P Q us hs cs ds).countP (hasB (X ++ [])) = 0 := by
        intro us
        induction us with
        | nil => intro hs cs ds P Q _; simp [pcs]
        | cons a us ih =>
          intro hs cs ds P Q hl
          rcases hs with _ | ⟨h, hs⟩
          · simp [pcs]
          rcases cs with _ | ⟨c, cs⟩
          · simp [pcs]
          rcases ds with _ | ⟨d, ds⟩
          · simp [pcs]
          show ([(P ++ a :: us, Q ++ c :: hs), (P ++ d :: us, Q ++ h :: hs)].filter neB ++ pcs (P ++ [c]) (Q ++ [d]) us hs cs ds).countP (hasB (X ++ [])) = 0
          rw [List.countP_append, cnt_filter, ih (by simp; omega)]
          have e1 : hasB (X ++ []) (P ++ a :: us, Q ++ c :: hs) = false := ins_ne (.inr (by simp; omega))
          have e2 : hasB (X ++ []) (P ++ d :: us, Q ++ h :: hs) = false := ins_ne (.inr (by simp; omega))
          simp only [List.countP_cons, List.countP_nil, e1, e2]
          rfl
      rw [this (by simp; omega)]
      rfl
    | cons x xs =>
      have e : X ++ x :: xs = (X ++ [x]) ++ xs := by simp
      rw [e, pcs_none (by simp; omega) (by simp; omega) (by rw [ins_append h1 h2, hf]; rfl)]
      rfl
  | [], _, _, _, _, _, _, _, _, _, _ => by simp [pcs]
  | _ :: _, [], _, _, _, _, _, _, _, _, _ => by simp [pcs]
  | _ :: _, _ :: _, [], _, _, _, _, _, _, _, _ => by simp [pcs]
  | _ :: _, _ :: _, _ :: _, [], _, _, _, _, _, _, _ => by simp [pcs]
theorem pcs_count : ∀ {us hs cs ds P Q X xs : List Int}, P.length = X.length → Q.length = X.length → insB P Q X = true → insB us hs xs = true → insB cs ds cs = true → cs.length = us.length →
    (pcs P Q us hs cs ds).countP (hasB (X ++ xs)) = if insB cs ds xs = true then 0 else 1
  | [], [], [], [], P, Q, X, [], _, _, _, _, _, _ => by simp [pcs, insB]
  | a :: us, h :: hs, c :: cs, d :: ds, P, Q, X, x :: xs, h1, h2, hp, ha, hc, hl => by
    simp only [insB, Bool.and_eq_true, decide_eq_true_eq] at ha hc
    show ([(P ++ a :: us, Q ++ c :: hs), (P ++ d :: us, Q ++ h :: hs)].filter neB ++ pcs (P ++ [c]) (Q ++ [d]) us hs cs ds).countP (hasB (X ++ x :: xs)) = _
    rw [List.countP_append, cnt_filter]
    have e1 : hasB (X ++ x :: xs) (P ++ a :: us, Q ++ c :: hs) = decide (x < c) := by
      unfold hasB; rw [ins_append h1 h2, hp]
      simp only [insB, ha.2]
      by_cases q : x < c
      · rw [decide_eq_true q, decide_eq_true (by omega)]; rfl
      · rw [decide_eq_false q, decide_eq_false (by omega)]; rfl
    have e2 : hasB (X ++ x :: xs) (P ++ d :: us, Q ++ h :: hs) = decide (d ≤ x) := by
      unfold hasB; rw [ins_append h1 h2, hp]
      simp only [insB, ha.2]
      by_cases q : d ≤ x
      · rw [decide_eq_true q, decide_eq_true (by omega)]; rfl
      · rw [decide_eq_false q, decide_eq_false (by omega)]; rfl
    simp only [List.countP_cons, List.countP_nil, e1, e2]
    have e : X ++ x :: xs = (X ++ [x]) ++ xs := by simp
    by_cases q : c ≤ x ∧ x < d
    · rw [e, pcs_count (by simp; omega) (by simp; omega) (by rw [ins_append h1 h2, hp]; simp [insB, q]) ha.2 hc.2 (by simpa using hl)]
      rw [decide_eq_false (by omega), decide_eq_false (by omega)]
      simp only [insB, decide_eq_true q, Bool.true_and]
      simp
    · rw [e, pcs_none (by simp; omega) (by simp; omega) (by rw [ins_append h1 h2, hp]; simp only [insB, decide_eq_false q]; rfl)]
      simp only [insB, decide_eq_false q, Bool.false_and]
      by_cases q2 : x < c
      · rw [decide_eq_true q2, decide_eq_false (by omega)]; rfl
      · rw [decide_eq_false q2, decide_eq_true (by omega)]; rfl
  | _, _, [], _, _, _, _, [], _, _, _, _, _, _ => by simp_all [pcs]
  | [], [], [], _, _, _, _, _ :: _, _, _, _, h, _, _ => by simp [insB] at h
  | [], _ :: _, _, _, _, _, _, _, _, _, _, h, _, _ => by simp [insB] at h
  | _ :: _, [], _, _, _, _, _, _, _, _, _, h, _, _ => by simp [insB] at h
  | _ :: _, _ :: _, _, _, _, _, _, [], _, _, _, h, _, _ => by simp [insB] at h
  | _, _, _ :: _, [], _, _, _, _, _, _, _, _, h, _ => by simp [insB] at h
  | _ :: _, _, [], _, _, _, _, _, _, _, _, _, _, h => by simp at h
  | [], _, _ :: _, _, _, _, _, _, _, _, _, _, _, h => by simp at h

theorem wi_append : ∀ {a h p q a' h' p' q' : List Int}, Wi a h p q → Wi a' h' p' q' → Wi (a ++ a') (h ++ h') (p ++ p') (q ++ q')
  | [], [], [], [], _, _, _, _, _, w => w
  | _ :: la, _ :: lh, _ :: lp, _ :: lq, _, _, _, _, v, w => ⟨v.1, wi_append v.2 w⟩
  | [], [], [], _ :: _, _, _, _, _, w, _ => w.elim
  | [], [], _ :: _, _, _, _, _, _, w, _ => w.elim
  | [], _ :: _, _, _, _, _, _, _, w, _ => w.elim
  | _ :: _, [], _, _, _, _, _, _, w, _ => w.elim
  | _ :: _, _ :: _, [], _, _, _, _, _, w, _ => w.elim
  | _ :: _, _ :: _, _ :: _, [], _, _, _, _, w, _ => w.elim
theorem pcs_wi : ∀ {us hs cs ds A H P Q : List Int}, Wi A H P Q → Wi us hs cs ds → insB cs ds cs = true → ∀ p ∈ pcs P Q us hs cs ds, Wi (A ++ us) (H ++ hs) p.1 p.2
  | a :: us, h :: hs, c :: cs, d :: ds, A, H, P, Q, v, w, hc, p, hp => by
    simp only [insB, Bool.and_eq_true, decide_eq_true_eq] at hc
    have hl : us.length = hs.length := (wi_len w.2).1
    rcases List.mem_append.1 hp with hp | hp
    · have hp := (List.mem_filter.1 hp).1
      simp only [List.mem_cons, List.not_mem_nil, or_false] at hp
      rcases hp with rfl | rfl
      · exact wi_append v ⟨⟨Int.le_refl _, by have := w.1; omega⟩, wi_refl hl⟩
      · exact wi_append v ⟨⟨by have := w.1; omega, Int.le_refl _⟩, wi_refl hl⟩
    · have := pcs_wi (A := A ++ [a]) (H := H ++ [h]) (wi_append v (show Wi [a] [h] [c] [d] from ⟨w.1, trivial⟩)) w.2 hc.2 p hp
      simpa using this
  | [], _, _, _, _, _, _, _, _, _, _, p, hp => by simp [pcs] at hp
  | _ :: _, [], _, _, _, _, _, _, _, _, _, p, hp => by simp [pcs] at hp
  | _ :: _, _ :: _, [], _, _, _, _, _, _, _, _, p, hp => by simp [pcs] at hp
  | _ :: _, _ :: _, _ :: _, [], _, _, _, _, _, _, _, p, hp => by simp [pcs] at hp
theorem pcs_ne : ∀ {us hs cs ds P Q : List Int}, ∀ p ∈ pcs P Q us hs cs ds, neB p = true
  | a :: us, h :: hs, c :: cs, d :: ds, P, Q, p, hp => by
    rcases List.mem_append.1 hp with hp | hp
    · exact (List.mem_filter.1 hp).2
    · exact pcs_ne p hp
  | [], _, _, _, _, _, p, hp => by simp [pcs] at hp
  | _ :: _, [], _, _, _, _, p, hp => by simp [pcs] at hp
  | _ :: _, _ :: _, [], _, _, _, p, hp => by simp [pcs] at hp
  | _ :: _, _ :: _, _ :: _, [], _, _, p, hp => by simp [pcs] at hp
theorem pcs_len : ∀ {us hs cs ds P Q : List Int}, (pcs P Q us hs cs ds).length ≤ 2 * us.length
  | a :: us, h :: hs, c :: cs, d :: ds, P, Q => by
    show ([(P ++ a :: us, Q ++ c :: hs), (P ++ d :: us, Q ++ h :: hs)].filter neB ++ pcs (P ++ [c]) (Q ++ [d]) us hs cs ds).length ≤ _
    have h1 := List.length_filter_le neB [(P ++ a :: us, Q ++ c :: hs), (P ++ d :: us, Q ++ h :: hs)]
    have h2 := pcs_len (us := us) (hs := hs) (cs := cs) (ds := ds) (P := P ++ [c]) (Q := Q ++ [d])
    simp only [List.length_append, List.length_cons, List.length_nil] at h1 h2 ⊢
    omega
  | [], _, _, _, _, _ => by simp [pcs]
  | _ :: _, [], _, _, _, _ => by simp [pcs]
  | _ :: _, _ :: _, [], _, _, _ => by simp [pcs]
  | _ :: _, _ :: _, _ :: _, [], _, _ => by simp [pcs]

theorem min_wi {al ah bl bh : List Int} (h1 : al.length = ah.length) (h2 : bl.length = bh.length) : ∀ p ∈ minL al ah bl bh, Wi al ah p.1 p.2 := by
  intro p hp
  unfold minL at hp
  split at hp
  · rename_i h
    exact pcs_wi (A := []) (H := []) (show Wi [] [] [] [] from trivial) (wi_meet h1 h2 h.1) h.2 p hp
  · have := (List.mem_filter.1 hp).1
    simp at this
    subst this
    exact wi_refl h1
theorem min_ne {al ah bl bh : List Int} : ∀ p ∈ minL al ah bl bh, neB p = true := by
  intro p hp
  unfold minL at hp
  split at hp
  · exact pcs_ne p hp
  · exact (List.mem_filter.1 hp).2
theorem min_len {al ah bl bh : List Int} : (minL al ah bl bh).length ≤ 2 * al.length + 1 := by
  unfold minL
  split
  · have := pcs_len (us := al) (hs := ah) (cs := mxL al bl) (ds := mnL ah bh) (P := []) (Q := [])
    omega
  · have := List.length_filter_le neB [(al, ah)]
    simp only [List.length_cons, List.length_nil] at this
    omega
theorem min_right {al ah bl bh : List Int} (h1 : rgtB al ah = true) (h2 : bl.length = bh.length) : ∀ p ∈ minL al ah bl bh, rgtB p.1 p.2 = true := by
  intro p hp
  obtain ⟨g1, g2, g3⟩ := rgt_out h1
  have w := min_wi g1 h2 p hp
  have l := wi_len w
  exact rgt_of (by omega) (by omega) (wi_end w g3 (ins_order (min_ne p hp)))
/-- Each cell of the first box is in one of them, unless the second box has it; then in none. -/
theorem min_count {al ah bl bh x : List Int} (h1 : al.length = ah.length) (h2 : bl.length = bh.length) (hx : insB al ah x = true) : (minL al ah bl bh).countP (hasB x) = if insB bl bh x = true then 0 else 1 := by
  unfold minL
  split
  · rename_i h
    have hm := ins_meet (x := x) h1 h2 h.1
    rw [hx, Bool.true_and] at hm
    have := pcs_count (P := []) (Q := []) (X := []) (us := al) (hs := ah) (cs := mxL al bl) (ds := mnL ah bh) (xs := x) rfl rfl rfl hx h.2 (mx_len h.1)
    rw [List.nil_append, hm] at this
    exact this
  · rename_i h
    have hb : insB bl bh x = false := by
      cases hb : insB bl bh x
      · rfl
      · have l1 := ins_len hx
        have l2 := ins_len hb
        have hm := ins_meet (x := x) h1 h2 (by omega)
        rw [hx, hb] at hm
        exact absurd ⟨by omega, ins_self hm⟩ h
    rw [hb, cnt_filter]
    simp [hasB, hx]
theorem min_sum {al ah bl bh : List Int} (h1 : al.length = ah.length) (h2 : bl.length = bh.length) :
    ((minL al ah bl bh).map fun p => (rngs p.1 p.2).length).sum = ((rngs al ah).map fun x => (minL al ah bl bh).countP (hasB x)).sum := by
  rw [← sum_swap (fun p x => hasB x p)]
  congr 1
  apply List.map_congr_left
  intro p hp
  exact (cnt_within (min_wi h1 h2 p hp)).symm
/-- The cells of a box within another one are as few. -/
theorem wi_prod : ∀ {a h p q : List Int} (k : Nat), Wi a h p q → 0 ≤ prodL ((dimsL p q).take k) ∧ prodL ((dimsL p q).take k) ≤ prodL (maxL (dimsL a h)) ∧ 1 ≤ prodL (maxL (dimsL a h))
  | [], [], [], [], k, _ => by simp [dimsL, prodL, maxL]
  | a :: la, h :: lh, p :: lp, q :: lq, 0, w => by
    have hp := prodL_pos (xs := maxL (dimsL (a :: la) (h :: lh))) maxL_pos
    simp only [List.take_zero]
    show 0 ≤ (1 : Int) ∧ (1 : Int) ≤ _ ∧ _
    exact ⟨by omega, hp, hp⟩
  | a :: la, h :: lh, p :: lp, q :: lq, k + 1, w => by
    have ih := wi_prod (a := la) (h := lh) (p := lp) (q := lq) k w.2
    rw [dims_cons, dims_cons, List.take_succ_cons]
    show 0 ≤ prodL ((dimsL lp lq).take k) * max (q - p) 0 ∧ prodL ((dimsL lp lq).take k) * max (q - p) 0 ≤ prodL (maxL (dimsL la lh)) * (if max (h - a) 0 < 1 then 1 else max (h - a) 0) ∧ 1 ≤ prodL (maxL (dimsL la lh)) * (if max (h - a) 0 < 1 then 1 else max (h - a) 0)
    obtain ⟨m, hm⟩ : ∃ m, m = (if max (h - a) 0 < 1 then 1 else max (h - a) 0) := ⟨_, rfl⟩
    obtain ⟨d, hd⟩ : ∃ d, d = max (q - p) 0 := ⟨_, rfl⟩
    have hm1 : 1 ≤ m ∧ 0 ≤ d ∧ d ≤ m := by have := w.1; subst hm; subst hd; split <;> omega
    rw [← hm, ← hd]
    obtain ⟨i1, i2, i3⟩ := ih
    obtain ⟨j1, j2, j3⟩ := hm1
    clear hm hd
    refine ⟨Int.mul_nonneg i1 j2, ?_, ?_⟩
    · exact Int.mul_le_mul i2 j3 j2 (by omega)
    · have := Int.mul_le_mul i3 j1 (by omega) (by omega)
      omega
  | [], [], [], _ :: _, _, w => w.elim
  | [], [], _ :: _, _, _, w => w.elim
  | [], _ :: _, _, _, _, w => w.elim
  | _ :: _, [], _, _, _, w => w.elim
  | _ :: _, _ :: _, [], _, _, w => w.elim
  | _ :: _, _ :: _, _ :: _, [], _, w => w.elim
end Go.Proofs.Ytaegkiangjnmdaa.bx
