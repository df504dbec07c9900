/- Parsing: the grammar, a parser from the left, a parser from the right, and that both answer what the grammar says: plain mathematics. Parsing from the left answers what the grammar says: plain mathematics. Parsing from the right answers what the grammar says: plain mathematics. -/
import Derived.Test.YthgojbaindejjaaGreatDoorLexTok
import Derived.Test.YthgojbaindejjaaGreatDoorDecimal
import Derived.Test.YthgojbaindejjaaGreatDoorTr
/- Parsing: the grammar, a parser from the left, a parser from the right, and that both answer what the grammar says: plain mathematics. -/
namespace Go.Proofs.YthgojbaindejjaaGreatDoor.ps
open Go.Proofs.YthgojbaindejjaaGreatDoor.lx Go.Proofs.YthgojbaindejjaaGreatDoor.tr
set_option linter.unusedVariables false
set_option linter.unusedSimpArgs false

def gUp : List UInt8 := [226, 134, 145]
def gDn : List UInt8 := [226, 134, 147]
def gRev : List UInt8 := [226, 140, 189]
def gTrn : List UInt8 := [226, 141, 137]
def gRho : List UInt8 := [226, 141, 180]
def gZil : List UInt8 := [226, 141, 172]
def gArr : List UInt8 := [226, 134, 144]
def gCom : List UInt8 := [44]
def gL : List UInt8 := [40]
def gR : List UInt8 := [41]
def gLB : List UInt8 := [91]
def gRB : List UInt8 := [93]
/-- The function of a text; 0: of none. -/
def fnT (t : List UInt8) : Int := if t = gUp then 1 else if t = gDn then 2 else if t = gRev then 3 else if t = gTrn then 4 else if t = gRho then 5 else if t = gCom then 6 else 0
/-- The monadic one. -/
def mnT (t : List UInt8) : Int := if t = gRev then 3 else if t = gTrn then 4 else if t = gCom then 6 else 0
def isG (t : Tk) (g : List UInt8) : Prop := t.k = 3 ∧ t.t = g
instance (t : Tk) (g : List UInt8) : Decidable (isG t g) := inferInstanceAs (Decidable (_ ∧ _))
/-- A token of a text. -/
def okT (t : Tk) : Prop := (t.k = 1 ∨ t.k = 2 ∨ t.k = 3) ∧ (t.k = 3 ↔ t.t ∈ gls) ∧ t.t ≠ [] ∧ -9223372036854775808 ≤ t.n ∧ t.n ≤ 9223372036854775807 ∧ t.t.length ≤ 65536
def okL (l : List Tk) : Prop := ∀ t ∈ l, okT t

def nm (t : Tk) : Tr := .node 2 0 (-1) (txt.strOf t.t) [] []
def lit (ns : List Int) : Tr := .node 1 0 (-1) ⟨#[]⟩ ns []
def mon (F ax : Int) (T : Tr) : Tr := .node 3 F ax ⟨#[]⟩ [] [T]
def dy (F ax : Int) (u T : Tr) : Tr := .node 4 F ax ⟨#[]⟩ [] [u, T]

/-- Tokens of a function with or without an axis. -/
def Fn (f : List Tk) (F ax : Int) : Prop :=
  (∃ t, f = [t] ∧ t.k = 3 ∧ fnT t.t = F ∧ F ≠ 0 ∧ ax = -1) ∨
  (∃ t lb x rb, f = [t, lb, x, rb] ∧ t.k = 3 ∧ fnT t.t = F ∧ (F = 3 ∨ F = 6) ∧ isG lb gLB ∧ x.k = 2 ∧ 0 ≤ x.n ∧ x.n ≤ 15 ∧ isG rb gRB ∧ ax = x.n)
def monOk (F ax : Int) : Prop := F = 3 ∨ (F = 4 ∨ F = 6) ∧ ax = -1
instance (F ax : Int) : Decidable (monOk F ax) := inferInstanceAs (Decidable (_ ∨ _))
/-- The grammar: G false: operands, G true: expressions. -/
inductive G : Bool → List Tk → Tr → Prop
  | name (t : Tk) : t.k = 1 → G false [t] (nm t)
  | zil (t : Tk) : isG t gZil → G false [t] (lit [])
  | nums (l : List Tk) : l ≠ [] → (∀ t ∈ l, t.k = 2) → G false l (lit (l.map Tk.n))
  | paren (a b : Tk) (l : List Tk) (T : Tr) : isG a gL → isG b gR → G true l T → G false (a :: (l ++ [b])) T
  | op (l : List Tk) (T : Tr) : G false l T → G true l T
  | mon (f : List Tk) (F ax : Int) (l : List Tk) (T : Tr) : Fn f F ax → monOk F ax → G true l T → G true (f ++ l) (mon F ax T)
  | dy (o : List Tk) (u : Tr) (f : List Tk) (F ax : Int) (l : List Tk) (T : Tr) : G false o u → Fn f F ax → (F = 6 ∨ u.kind ≤ 2) → G true l T → G true (o ++ (f ++ l)) (dy F ax u T)

/-! ### From the left -/
def hd (l : List Tk) : List UInt8 := (l.head?.map Tk.t).getD []
def hk (l : List Tk) : Int := (l.head?.map Tk.k).getD 0
def isN (t : Tk) : Bool := decide (t.k = 2)
/-- An operand. -/
def dOp (E : List Tk → Option (Tr × List Tk)) (l : List Tk) : Option (Tr × List Tk) :=
  if hd l = gL then (match E l.tail with
    | none => none
    | some (T, r) => if hd r = gR then some (T, r.tail) else none)
  else if hd l = gZil then some (lit [], l.tail)
  else if hk l = 1 then some (.node 2 0 (-1) (txt.strOf (hd l)) [] [], l.tail)
  else if hk l = 2 then some (lit ((l.takeWhile isN).map Tk.n), l.dropWhile isN)
  else none
def dNum (l : List Tk) : Option (Int × List Tk) := match l with
  | [] => none
  | x :: r => if x.k = 2 then some (x.n, r) else none
/-- An axis. -/
def dAx (may : Bool) (l : List Tk) : Option (Int × List Tk) :=
  if may = true ∧ hd l = gLB then (match dNum l.tail with
    | none => none
    | some (n, r) => if n < 0 ∨ 16 ≤ n then none else if hd r = gRB then some (n, r.tail) else none)
  else some (-1, l)
def mayB (F : Int) : Bool := decide (F = 3 ∨ F = 6)
def dEx : Nat → List Tk → Option (Tr × List Tk)
  | 0, _ => none
  | n + 1, l =>
    if mnT (hd l) ≠ 0 then (match dAx (decide (mnT (hd l) = 3)) l.tail with
      | none => none
      | some (ax, r) => match dEx n r with
        | none => none
        | some (T, r') => some (mon (mnT (hd l)) ax T, r'))
    else match dOp (dEx n) l with
      | none => none
      | some (u, r) => if fnT (hd r) = 0 then some (u, r) else if fnT (hd r) ≠ 6 ∧ u.kind ≠ 1 ∧ u.kind ≠ 2 then none else
        match dAx (mayB (fnT (hd r))) r.tail with
        | none => none
        | some (ax, r') => match dEx n r' with
          | none => none
          | some (T, r'') => some (dy (fnT (hd r)) ax u T, r'')

/-! ### From the right: the lists are reversed -/
/-- What is in front of the parenthesis that belongs to d closing ones, and what behind it. -/
def rCut : Nat → List Tk → Option (List Tk × List Tk)
  | d, [] => none
  | d, t :: p => if isG t gR then (rCut (d + 1) p).map fun q => (t :: q.1, q.2) else
    if isG t gL then (if d = 1 then some ([], p) else (rCut (d - 1) p).map fun q => (t :: q.1, q.2)) else (rCut d p).map fun q => (t :: q.1, q.2)
def rOp (E : List Tk → Option Tr) (p : List Tk) : Option (Tr × List Tk) := match p with
  | [] => none
  | t :: r => if t.k = 1 then some (nm t, r) else if isG t gZil then some (lit [], r) else
    if t.k = 2 then some (lit (((t :: r).takeWhile isN).reverse.map Tk.n), (t :: r).dropWhile isN) else
    if isG t gR then (match rCut 1 r with
      | none => none
      | some (i, q) => match E i with
        | none => none
        | some T => some (T, q)) else none
def rFn (p : List Tk) : Option (Int × Int × List Tk) := match p with
  | [] => none
  | b :: r => if isG b gRB then (match r with
      | x :: lb :: t :: q => if x.k = 2 ∧ 0 ≤ x.n ∧ x.n ≤ 15 ∧ isG lb gLB ∧ t.k = 3 ∧ (fnT t.t = 3 ∨ fnT t.t = 6) then some (fnT t.t, x.n, q) else none
      | _ => none)
    else if b.k = 3 ∧ fnT b.t ≠ 0 then some (fnT b.t, -1, r) else none
def badF (q : List Tk) : Prop := match q with
  | [] => False
  | c :: _ => isG c gR ∨ c.k ≠ 3
instance (q : List Tk) : Decidable (badF q) := by unfold badF; cases q <;> infer_instance
def rLoop (O : List Tk → Option (Tr × List Tk)) : Nat → List Tk → Tr → Option Tr
  | _, [], T => some T
  | 0, _ :: _, _ => none
  | n + 1, c :: p, T => match rFn (c :: p) with
    | none => none
    | some (F, ax, q) => match O q with
      | some (u, q') => if F ≠ 6 ∧ 2 < u.kind then none else rLoop O n q' (dy F ax u T)
      | none => if badF q ∨ ¬ monOk F ax then none else rLoop O n q (mon F ax T)
def rEx : Nat → List Tk → Option Tr
  | 0, _ => none
  | n + 1, p => match rOp (rEx n) p with
    | none => none
    | some (T, q) => rLoop (rOp (rEx n)) q.length q T

/-! ### Lengths and other small words -/
theorem fn_len {f : List Tk} {F ax : Int} (h : Fn f F ax) : 1 ≤ f.length := by
  rcases h with ⟨t, rfl, _⟩ | ⟨t, lb, x, rb, rfl, _⟩ <;> simp
theorem fn_first {f : List Tk} {F ax : Int} (h : Fn f F ax) : ∃ t r, f = t :: r ∧ t.k = 3 ∧ fnT t.t = F ∧ F ≠ 0 := by
  rcases h with ⟨t, rfl, h1, h2, h3, _⟩ | ⟨t, lb, x, rb, rfl, h1, h2, h3, _⟩
  · exact ⟨t, [], rfl, h1, h2, h3⟩
  · exact ⟨t, _, rfl, h1, h2, by omega⟩
theorem fnT_cases (t : List UInt8) : (fnT t = 0 ∧ t ≠ gUp ∧ t ≠ gDn ∧ t ≠ gRev ∧ t ≠ gTrn ∧ t ≠ gRho ∧ t ≠ gCom) ∨ (fnT t = 1 ∧ t = gUp) ∨ (fnT t = 2 ∧ t = gDn) ∨ (fnT t = 3 ∧ t = gRev) ∨ (fnT t = 4 ∧ t = gTrn) ∨ (fnT t = 5 ∧ t = gRho) ∨ (fnT t = 6 ∧ t = gCom) := by
  unfold fnT
  by_cases h1 : t = gUp
  · simp [h1]
  by_cases h2 : t = gDn
  · subst h2; right; right; left; exact ⟨by decide, rfl⟩
  by_cases h3 : t = gRev
  · subst h3; right; right; right; left; exact ⟨by decide, rfl⟩
  by_cases h4 : t = gTrn
  · subst h4; right; right; right; right; left; exact ⟨by decide, rfl⟩
  by_cases h5 : t = gRho
  · subst h5; right; right; right; right; right; left; exact ⟨by decide, rfl⟩
  by_cases h6 : t = gCom
  · subst h6; right; right; right; right; right; right; exact ⟨by decide, rfl⟩
  left
  simp [h1, h2, h3, h4, h5, h6]
theorem mnT_fnT (t : List UInt8) : mnT t = if fnT t = 3 ∨ fnT t = 4 ∨ fnT t = 6 then fnT t else 0 := by
  rcases fnT_cases t with ⟨h, _, _, h3, h4, _, h6⟩ | ⟨h, rfl⟩ | ⟨h, rfl⟩ | ⟨h, rfl⟩ | ⟨h, rfl⟩ | ⟨h, rfl⟩ | ⟨h, rfl⟩
  · rw [h]; unfold mnT; rw [if_neg h3, if_neg h4, if_neg h6]; rfl
  all_goals decide
theorem fn_range (t : List UInt8) : 0 ≤ fnT t ∧ fnT t ≤ 6 := by
  rcases fnT_cases t with ⟨h, _⟩ | ⟨h, _⟩ | ⟨h, _⟩ | ⟨h, _⟩ | ⟨h, _⟩ | ⟨h, _⟩ | ⟨h, _⟩ <;> omega
theorem not_gls {t : Tk} (h : okT t) (hk : t.k ≠ 3) : ∀ g ∈ gls, t.t ≠ g := fun g hg e => hk (h.2.1.2 (e ▸ hg))
theorem gly_is {t : Tk} (h : okT t) {g : List UInt8} (hg : g ∈ gls) : t.t = g ↔ isG t g := ⟨fun e => ⟨h.2.1.2 (e ▸ hg), e⟩, fun e => e.2⟩
theorem fn_gls {t : List UInt8} (h : fnT t ≠ 0) : t ∈ gls := by
  rcases fnT_cases t with ⟨h0, _⟩ | ⟨_, rfl⟩ | ⟨_, rfl⟩ | ⟨_, rfl⟩ | ⟨_, rfl⟩ | ⟨_, rfl⟩ | ⟨_, rfl⟩
  · exact absurd h0 h
  all_goals decide
theorem fn_ne {t g : List UInt8} (h : fnT t ≠ 0) (hg : fnT g = 0) : t ≠ g := fun e => h (e ▸ hg)
theorem G_ne {b : Bool} {l : List Tk} {T : Tr} (h : G b l T) : l ≠ [] := by
  induction h with
  | name => simp
  | zil => simp
  | nums l h => exact h
  | paren => simp
  | op _ _ _ ih => exact ih
  | mon f F ax l T hf _ _ _ =>
    intro e
    have h1 := fn_len hf
    rw [(List.append_eq_nil_iff.1 e).1] at h1
    exact absurd h1 (by decide)
  | dy o u f F ax l T _ _ _ _ ih _ => intro e; exact ih (List.append_eq_nil_iff.1 e).1
theorem takeAll {α : Type} (p : α → Bool) : ∀ (a r : List α), (∀ t ∈ a, p t = true) → (∀ c s, r = c :: s → p c = false) → (a ++ r).takeWhile p = a ∧ (a ++ r).dropWhile p = r
  | [], [], _, _ => ⟨rfl, rfl⟩
  | [], c :: s, _, h => by
    have := h c s rfl
    simp [List.takeWhile_cons, List.dropWhile_cons, this]
  | x :: a, r, h1, h2 => by
    obtain ⟨e1, e2⟩ := takeAll p a r (fun t ht => h1 t (by simp [ht])) h2
    have hx := h1 x (by simp)
    simp [List.takeWhile_cons, List.dropWhile_cons, hx, e1, e2]
theorem tw_mem {α : Type} (p : α → Bool) (l : List α) : ∀ t ∈ l.takeWhile p, p t = true := by
  induction l with
  | nil => simp
  | cons c r ih =>
    intro t ht
    cases hc : p c
    · simp [List.takeWhile_cons, hc] at ht
    · simp only [List.takeWhile_cons, hc, if_true, List.mem_cons] at ht
      rcases ht with rfl | ht
      · exact hc
      · exact ih t ht
end Go.Proofs.YthgojbaindejjaaGreatDoor.ps

/- Parsing from the left answers what the grammar says: plain mathematics. -/
namespace Go.Proofs.YthgojbaindejjaaGreatDoor.ps
open Go.Proofs.YthgojbaindejjaaGreatDoor.lx Go.Proofs.YthgojbaindejjaaGreatDoor.tr
set_option linter.unusedVariables false
set_option linter.unusedSimpArgs false

theorem hd_some {l : List Tk} {g : List UInt8} (hg : g ≠ []) (h : hd l = g) : ∃ t r, l = t :: r ∧ t.t = g := by
  cases l with
  | nil => exact absurd h.symm hg
  | cons t r => exact ⟨t, r, rfl, h⟩
theorem hk_some {l : List Tk} {k : Int} (hg : k ≠ 0) (h : hk l = k) : ∃ t r, l = t :: r ∧ t.k = k := by
  cases l with
  | nil => exact absurd h.symm hg
  | cons t r => exact ⟨t, r, rfl, h⟩
theorem okL.cons {t : Tk} {r : List Tk} (h : okL (t :: r)) : okT t ∧ okL r := ⟨h t (by simp), fun u hu => h u (by simp [hu])⟩
theorem okL.app {a b : List Tk} (h : okL (a ++ b)) : okL a ∧ okL b := ⟨fun u hu => h u (by simp [hu]), fun u hu => h u (by simp [hu])⟩
theorem okL.is {t : Tk} {r : List Tk} (h : okL (t :: r)) {g : List UInt8} (hg : g ∈ gls) (e : t.t = g) : isG t g := (gly_is h.cons.1 hg).1 e
theorem dNum_some {l : List Tk} {n : Int} {r : List Tk} (h : dNum l = some (n, r)) : ∃ x, l = x :: r ∧ x.k = 2 ∧ x.n = n := by
  cases l with
  | nil => cases h
  | cons x s =>
    unfold dNum at h
    simp only [] at h
    by_cases hx : x.k = 2
    · rw [if_pos hx] at h
      injection h with h
      injection h with h1 h2
      subst h2
      exact ⟨x, rfl, hx, h1⟩
    · rw [if_neg hx] at h; cases h
theorem dAx_some {may : Bool} {l : List Tk} {ax : Int} {r : List Tk} (hok : okL l) (h : dAx may l = some (ax, r)) :
    (ax = -1 ∧ r = l) ∨ (may = true ∧ ∃ lb x rb, l = lb :: x :: rb :: r ∧ isG lb gLB ∧ x.k = 2 ∧ 0 ≤ x.n ∧ x.n ≤ 15 ∧ isG rb gRB ∧ ax = x.n) := by
  unfold dAx at h
  by_cases hc : may = true ∧ hd l = gLB
  · rw [if_pos hc] at h
    obtain ⟨lb, s, rfl, hlb⟩ := hd_some (by decide) hc.2
    cases hn : dNum s with
    | none => rw [show (lb :: s).tail = s from rfl, hn] at h; cases h
    | some p =>
      obtain ⟨n, q⟩ := p
      rw [show (lb :: s).tail = s from rfl, hn] at h
      simp only [] at h
      obtain ⟨x, rfl, hxk, hxn⟩ := dNum_some hn
      by_cases hr : n < 0 ∨ 16 ≤ n
      · rw [if_pos hr] at h; cases h
      rw [if_neg hr] at h
      by_cases hb : hd q = gRB
      · rw [if_pos hb] at h
        injection h with h
        injection h with h1 h2
        obtain ⟨rb, s', rfl, hrb⟩ := hd_some (by decide) hb
        subst h2
        refine .inr ⟨hc.1, lb, x, rb, rfl, hok.is (by decide) hlb, hxk, by omega, by omega, hok.cons.2.cons.2.is (by decide) hrb, by omega⟩
      · rw [if_neg hb] at h; cases h
  · rw [if_neg hc] at h
    injection h with h
    injection h with h1 h2
    exact .inl ⟨h1.symm, h2.symm⟩
theorem fn_of {t : Tk} {l : List Tk} {may : Bool} {ax : Int} {r : List Tk} (hok : okL (t :: l)) (hf : fnT t.t ≠ 0) (hm : may = true → fnT t.t = 3 ∨ fnT t.t = 6) (h : dAx may l = some (ax, r)) : ∃ f, t :: l = f ++ r ∧ Fn f (fnT t.t) ax ∧ (ax = -1 ∨ may = true) := by
  have h3 : t.k = 3 := (gly_is hok.cons.1 (fn_gls hf)).1 rfl |>.1
  rcases dAx_some hok.cons.2 h with ⟨rfl, rfl⟩ | ⟨hmay, lb, x, rb, rfl, h1, h2, h4, h5, h6, h7⟩
  · exact ⟨[t], rfl, .inl ⟨t, rfl, h3, rfl, hf, rfl⟩, .inl rfl⟩
  · exact ⟨[t, lb, x, rb], rfl, .inr ⟨t, lb, x, rb, rfl, h3, rfl, hm hmay, h1, h2, h4, h5, h6, h7⟩, .inr hmay⟩
theorem dOp_sound {E : List Tk → Option (Tr × List Tk)} (hE : ∀ l T r, okL l → E l = some (T, r) → ∃ a, l = a ++ r ∧ G true a T) {l : List Tk} {T : Tr} {r : List Tk} (hok : okL l) (h : dOp E l = some (T, r)) : ∃ a, l = a ++ r ∧ G false a T := by
  unfold dOp at h
  by_cases h1 : hd l = gL
  · rw [if_pos h1] at h
    obtain ⟨a, s, rfl, ha⟩ := hd_some (by decide) h1
    cases he : E s with
    | none => rw [show (a :: s).tail = s from rfl, he] at h; cases h
    | some p =>
      obtain ⟨T', q⟩ := p
      rw [show (a :: s).tail = s from rfl, he] at h
      simp only [] at h
      obtain ⟨m, rfl, hm⟩ := hE _ _ _ hok.cons.2 he
      by_cases hb : hd q = gR
      · rw [if_pos hb] at h
        injection h with h
        injection h with e1 e2
        obtain ⟨b, s', rfl, hb'⟩ := hd_some (by decide) hb
        subst e1; subst e2
        refine ⟨a :: (m ++ [b]), by simp, .paren a b m _ (hok.is (by decide) ha) (hok.cons.2.app.2.is (by decide) hb') hm⟩
      · rw [if_neg hb] at h; cases h
  rw [if_neg h1] at h
  by_cases h2 : hd l = gZil
  · rw [if_pos h2] at h
    obtain ⟨a, s, rfl, ha⟩ := hd_some (by decide) h2
    injection h with h
    injection h with e1 e2
    subst e1; subst e2
    exact ⟨[a], rfl, .zil a (hok.is (by decide) ha)⟩
  rw [if_neg h2] at h
  by_cases h3 : hk l = 1
  · rw [if_pos h3] at h
    obtain ⟨a, s, rfl, ha⟩ := hk_some (by decide) h3
    injection h with h
    injection h with e1 e2
    subst e1; subst e2
    exact ⟨[a], rfl, .name a ha⟩
  rw [if_neg h3] at h
  by_cases h4 : hk l = 2
  · rw [if_pos h4] at h
    obtain ⟨a, s, rfl, ha⟩ := hk_some (by decide) h4
    injection h with h
    injection h with e1 e2
    subst e1; subst e2
    refine ⟨(a :: s).takeWhile isN, List.takeWhile_append_dropWhile.symm, .nums _ ?_ fun t ht => ?_⟩
    · simp [List.takeWhile_cons, isN, ha]
    · have := tw_mem isN _ t ht
      simpa [isN] using this
  rw [if_neg h4] at h; cases h
theorem dEx_sound : ∀ (n : Nat) (l : List Tk) (T : Tr) (r : List Tk), okL l → dEx n l = some (T, r) → ∃ a, l = a ++ r ∧ G true a T := by
  intro n
  induction n with
  | zero => intro l T r _ h; cases h
  | succ n ih =>
    intro l T r hok h
    unfold dEx at h
    by_cases hm : mnT (hd l) ≠ 0
    · rw [if_pos hm] at h
      have hmf := mnT_fnT (hd l)
      have hf : fnT (hd l) = mnT (hd l) ∧ (fnT (hd l) = 3 ∨ fnT (hd l) = 4 ∨ fnT (hd l) = 6) := by
        by_cases hc : fnT (hd l) = 3 ∨ fnT (hd l) = 4 ∨ fnT (hd l) = 6
        · rw [if_pos hc] at hmf; exact ⟨hmf.symm, hc⟩
        · rw [if_neg hc] at hmf; exact absurd hmf hm
      cases l with
      | nil => exact absurd rfl hm
      | cons t s =>
        have hht : hd (t :: s) = t.t := rfl
        rw [hht] at hm hf h hmf
        cases ha : dAx (decide (mnT t.t = 3)) s with
        | none => rw [show (t :: s).tail = s from rfl, ha] at h; cases h
        | some p =>
          obtain ⟨ax, q⟩ := p
          rw [show (t :: s).tail = s from rfl, ha] at h
          simp only [] at h
          obtain ⟨f, e, hfn, hax⟩ := fn_of hok (by omega) (fun e => by left; rw [hf.1]; simpa using e) ha
          have hokq : okL q := by rw [e] at hok; exact hok.app.2
          cases hx : dEx n q with
          | none => rw [hx] at h; cases h
          | some p =>
            obtain ⟨U, q'⟩ := p
            rw [hx] at h
            injection h with h
            injection h with e1 e2
            subst e1; subst e2
            obtain ⟨a, rfl, hG⟩ := ih _ _ _ hokq hx
            rw [← hf.1]
            refine ⟨f ++ a, by rw [e, List.append_assoc], .mon f _ ax a U hfn ?_ hG⟩
            rcases hax with rfl | hax
            · rcases hf.2 with h' | h' | h'
              · exact .inl h'
              · exact .inr ⟨.inl h', rfl⟩
              · exact .inr ⟨.inr h', rfl⟩
            · left
              have : mnT t.t = 3 := by simpa using hax
              omega
    · rw [if_neg hm] at h
      cases ho : dOp (dEx n) l with
      | none => rw [ho] at h; cases h
      | some p =>
        obtain ⟨u, q⟩ := p
        rw [ho] at h
        simp only [] at h
        obtain ⟨o, rfl, hG⟩ := dOp_sound ih hok ho
        by_cases hf : fnT (hd q) = 0
        · rw [if_pos hf] at h
          injection h with h
          injection h with e1 e2
          subst e1; subst e2
          exact ⟨o, rfl, .op _ _ hG⟩
        rw [if_neg hf] at h
        by_cases hk : fnT (hd q) ≠ 6 ∧ u.kind ≠ 1 ∧ u.kind ≠ 2
        · rw [if_pos hk] at h; cases h
        rw [if_neg hk] at h
        cases q with
        | nil => exact absurd rfl hf
        | cons t s =>
          have hht : hd (t :: s) = t.t := rfl
          rw [hht] at hf hk h
          cases ha : dAx (mayB (fnT t.t)) s with
          | none => rw [show (t :: s).tail = s from rfl, ha] at h; cases h
          | some p =>
            obtain ⟨ax, q⟩ := p
            rw [show (t :: s).tail = s from rfl, ha] at h
            simp only [] at h
            have hok2 := hok.app.2
            obtain ⟨f, e, hfn, hax⟩ := fn_of hok2 hf (fun e => by simpa [mayB] using e) ha
            have hokq : okL q := by rw [e] at hok2; exact hok2.app.2
            cases hx : dEx n q with
            | none => rw [hx] at h; cases h
            | some p =>
              obtain ⟨U, q'⟩ := p
              rw [hx] at h
              injection h with h
              injection h with e1 e2
              subst e1; subst e2
              obtain ⟨a, rfl, hG2⟩ := ih _ _ _ hokq hx
              exact ⟨o ++ (f ++ a), by rw [e, List.append_assoc, List.append_assoc], .dy o u f _ ax a U hG hfn (by omega) hG2⟩

/-! ### .. and all of it -/
theorem dAx_none {may : Bool} {l : List Tk} (h : hd l ≠ gLB) : dAx may l = some (-1, l) := by
  unfold dAx
  rw [if_neg (fun e => h e.2)]
theorem dAx_full {lb x rb : Tk} {r : List Tk} (h1 : isG lb gLB) (h2 : x.k = 2) (h3 : 0 ≤ x.n) (h4 : x.n ≤ 15) (h5 : isG rb gRB) : dAx true (lb :: x :: rb :: r) = some (x.n, r) := by
  unfold dAx
  rw [if_pos ⟨rfl, h1.2⟩]
  show (match dNum (x :: rb :: r) with | none => none | some (n, r) => if n < 0 ∨ 16 ≤ n then none else if hd r = gRB then some (n, r.tail) else none) = _
  have : dNum (x :: rb :: r) = some (x.n, rb :: r) := by unfold dNum; simp only []; rw [if_pos h2]
  rw [this]
  simp only []
  rw [if_neg (by omega), if_pos (show hd (rb :: r) = gRB from h5.2)]
  rfl
/-- The first token of an operand or an expression. -/
theorem G_first {b : Bool} {l : List Tk} {T : Tr} (h : G b l T) : ∃ t r, l = t :: r ∧ (t.k ≠ 3 ∨ t.t = gL ∨ t.t = gZil ∨ (b = true ∧ mnT t.t ≠ 0)) := by
  induction h with
  | name t h => exact ⟨t, [], rfl, .inl (by omega)⟩
  | zil t h => exact ⟨t, [], rfl, .inr (.inr (.inl h.2))⟩
  | nums l h1 h2 =>
    cases l with
    | nil => exact absurd rfl h1
    | cons t r => exact ⟨t, r, rfl, .inl (by have := h2 t (by simp); omega)⟩
  | paren a b l T ha _ _ _ => exact ⟨a, _, rfl, .inr (.inl ha.2)⟩
  | op l T _ ih =>
    obtain ⟨t, r, e, h⟩ := ih
    refine ⟨t, r, e, ?_⟩
    rcases h with h | h | h | h
    · exact .inl h
    · exact .inr (.inl h)
    · exact .inr (.inr (.inl h))
    · exact absurd h.1 (by decide)
  | mon f F ax l T hf hm _ _ =>
    obtain ⟨t, r, rfl, h3, h4, h5⟩ := fn_first hf
    refine ⟨t, r ++ l, rfl, .inr (.inr (.inr ⟨rfl, ?_⟩))⟩
    rw [mnT_fnT, if_pos (by rw [h4]; rcases hm with h | ⟨h, _⟩ <;> omega), h4]
    exact h5
  | dy o u f F ax l T _ _ _ _ ih _ =>
    obtain ⟨t, r, rfl, h⟩ := ih
    refine ⟨t, r ++ (f ++ l), rfl, ?_⟩
    rcases h with h | h | h | h
    · exact .inl h
    · exact .inr (.inl h)
    · exact .inr (.inr (.inl h))
    · exact absurd h.1 (by decide)
theorem mn_gls {t : List UInt8} (h : mnT t ≠ 0) : t ∈ gls := by
  rw [mnT_fnT] at h
  by_cases hc : fnT t = 3 ∨ fnT t = 4 ∨ fnT t = 6
  · exact fn_gls (by omega)
  · rw [if_neg hc] at h; exact absurd rfl h
theorem G_mn {l r : List Tk} {T : Tr} (h : G false l T) (hok : okL l) : mnT (hd (l ++ r)) = 0 := by
  obtain ⟨t, s, rfl, h'⟩ := G_first h
  clear h
  show mnT t.t = 0
  rcases h' with h | h | h | h
  · exact Decidable.byContradiction fun e => not_gls hok.cons.1 h _ (mn_gls e) rfl
  · rw [h]; decide
  · rw [h]; decide
  · exact absurd h.1 (by decide)
theorem G_lb {l r : List Tk} {T : Tr} {b : Bool} (h : G b l T) (hok : okL l) : hd (l ++ r) ≠ gLB := by
  obtain ⟨t, s, rfl, h'⟩ := G_first h
  clear h
  show t.t ≠ gLB
  rcases h' with h | h | h | h
  · exact not_gls hok.cons.1 h _ (by decide)
  · rw [h]; decide
  · rw [h]; decide
  · intro e; rw [e] at h; exact h.2 (by decide)
theorem G_kind {b : Bool} {l : List Tk} {T : Tr} (h : G b l T) : 1 ≤ T.kind ∧ T.kind ≤ 4 := by
  induction h with
  | name => exact ⟨by show (1 : Int) ≤ 2; decide, by show (2 : Int) ≤ 4; decide⟩
  | zil => exact ⟨by show (1 : Int) ≤ 1; decide, by show (1 : Int) ≤ 4; decide⟩
  | nums => exact ⟨by show (1 : Int) ≤ 1; decide, by show (1 : Int) ≤ 4; decide⟩
  | paren _ _ _ _ _ _ _ ih => exact ih
  | op _ _ _ ih => exact ih
  | mon => exact ⟨by show (1 : Int) ≤ 3; decide, by show (3 : Int) ≤ 4; decide⟩
  | dy => exact ⟨by show (1 : Int) ≤ 4; decide, by show (4 : Int) ≤ 4; decide⟩
/-- What may stand behind an operand, and behind an expression. -/
def aftO (r : List Tk) : Prop := hk r ≠ 2
def aftE (r : List Tk) : Prop := r = [] ∨ hd r = gR
theorem aftE.o {r : List Tk} (h : aftE r) (hok : okL r) : aftO r ∧ fnT (hd r) = 0 := by
  rcases h with rfl | h
  · exact ⟨by show (0 : Int) ≠ 2; decide, by show fnT [] = 0; decide⟩
  · refine ⟨?_, by rw [h]; decide⟩
    obtain ⟨t, s, rfl, ht⟩ := hd_some (by decide) h
    have := (hok.is (g := gR) (by decide) ht).1
    show t.k ≠ 2
    omega
theorem dEx_full {b : Bool} {l : List Tk} {T : Tr} (h : G b l T) : ∀ (n : Nat) (r : List Tk), okL (l ++ r) →
    (b = false → l.length ≤ n → aftO r → dOp (dEx n) (l ++ r) = some (T, r)) ∧ (b = true → l.length < n → aftE r → dEx n (l ++ r) = some (T, r)) := by
  induction h with
  | name t h =>
    intro n r hok
    refine ⟨fun _ _ _ => ?_, fun e => by cases e⟩
    have hn := not_gls hok.cons.1 (by omega)
    unfold dOp
    have hh : hd ([t] ++ r) = t.t := rfl
    rw [hh, if_neg (hn _ (by decide)), if_neg (hn _ (by decide)), if_pos (show hk ([t] ++ r) = 1 from h)]
    rfl
  | zil t h =>
    intro n r hok
    refine ⟨fun _ _ _ => ?_, fun e => by cases e⟩
    unfold dOp
    have hh : hd ([t] ++ r) = t.t := rfl
    rw [hh, h.2, if_neg (by decide), if_pos rfl]
    rfl
  | nums l h1 h2 =>
    intro n r hok
    refine ⟨fun _ _ ha => ?_, fun e => by cases e⟩
    obtain ⟨e1, e2⟩ := takeAll isN l r (fun t ht => by have := h2 t ht; simp [isN, this]) (fun c s e => by
      subst e
      have : c.k ≠ 2 := ha
      simp [isN, this])
    unfold dOp
    rw [e1, e2]
    cases l with
    | nil => exact absurd rfl h1
    | cons t s =>
      have h3 := h2 t (by simp)
      have hn := not_gls hok.cons.1 (by omega)
      have hh : hd (t :: s ++ r) = t.t := rfl
      have hh2 : hk (t :: s ++ r) = t.k := rfl
      rw [hh, hh2, if_neg (hn _ (by decide)), if_neg (hn _ (by decide)), if_neg (by omega), if_pos h3]
  | paren a b l T ha hb hG ih =>
    intro n r hok
    refine ⟨fun _ hl _ => ?_, fun e => by cases e⟩
    simp only [List.length_cons, List.length_append, List.length_nil] at hl
    have e0 : a :: (l ++ [b]) ++ r = a :: (l ++ (b :: r)) := by simp
    rw [e0] at hok ⊢
    have := (ih n (b :: r) hok.cons.2).2 rfl (by omega) (.inr hb.2)
    unfold dOp
    rw [if_pos (show hd (a :: (l ++ (b :: r))) = gL from ha.2), show (a :: (l ++ (b :: r))).tail = l ++ (b :: r) from rfl, this]
    simp only []
    rw [if_pos (show hd (b :: r) = gR from hb.2)]
    rfl
  | op l T hG ih =>
    intro n r hok
    refine ⟨fun e => by (try cases e), fun _ hl ha => ?_⟩
    cases n with
    | zero => omega
    | succ n =>
      obtain ⟨a1, a2⟩ := ha.o hok.app.2
      have h1 := (ih n r hok).1 rfl (by omega) a1
      unfold dEx
      rw [if_neg (by rw [G_mn hG hok.app.1]; decide), h1]
      simp only []
      rw [if_pos a2]
  | mon f F ax l T hf hm hG ih =>
    intro n r hok
    refine ⟨fun e => by (try cases e), fun _ hl ha => ?_⟩
    cases n with
    | zero => omega
    | succ n =>
      rw [List.append_assoc] at hok ⊢
      rw [List.length_append] at hl
      have hfl := fn_len hf
      have h1 := (ih n r hok.app.2).2 rfl (by omega) ha
      have hlb := G_lb (r := r) hG hok.app.2.app.1
      have hF : F = 3 ∨ F = 4 ∨ F = 6 := by rcases hm with h | ⟨h, _⟩ <;> omega
      have key : ∃ t s, f ++ (l ++ r) = t :: s ∧ fnT t.t = F ∧ dAx (decide (F = 3)) s = some (ax, l ++ r) := by
        rcases hf with ⟨t, rfl, h3, h4, h5, rfl⟩ | ⟨t, lb, x, rb, rfl, h3, h4, h5, h6, h7, h8, h9, h10, rfl⟩
        · exact ⟨t, _, rfl, h4, dAx_none hlb⟩
        · refine ⟨t, _, rfl, h4, ?_⟩
          have : F = 3 := by
            rcases hm with h | ⟨h, he⟩
            · exact h
            · omega
          rw [this]
          exact dAx_full h6 h7 h8 h9 h10
      obtain ⟨t, s, e, hft, hax⟩ := key
      have hmt : mnT t.t = F := by rw [mnT_fnT, if_pos (by rw [hft]; exact hF), hft]
      rw [e]
      unfold dEx
      have hh : hd (t :: s) = t.t := rfl
      rw [hh, hmt, if_pos (by omega), show (t :: s).tail = s from rfl, hax]
      simp only []
      rw [h1]
  | dy o u f F ax l T hO hf hk hG ihO ih =>
    intro n r hok
    refine ⟨fun e => by (try cases e), fun _ hl ha => ?_⟩
    cases n with
    | zero => omega
    | succ n =>
      rw [List.append_assoc, List.append_assoc] at hok ⊢
      simp only [List.length_append] at hl
      have hfl := fn_len hf
      have h1 := (ih n r hok.app.2.app.2).2 rfl (by omega) ha
      have hlb := G_lb (r := r) hG hok.app.2.app.2.app.1
      have hku := G_kind hO
      have key : ∃ t s, f ++ (l ++ r) = t :: s ∧ t.k = 3 ∧ fnT t.t = F ∧ F ≠ 0 ∧ dAx (mayB F) s = some (ax, l ++ r) := by
        rcases hf with ⟨t, rfl, h3, h4, h5, rfl⟩ | ⟨t, lb, x, rb, rfl, h3, h4, h5, h6, h7, h8, h9, h10, rfl⟩
        · exact ⟨t, _, rfl, h3, h4, h5, dAx_none hlb⟩
        · refine ⟨t, _, rfl, h3, h4, by omega, ?_⟩
          rw [show mayB F = true by simpa [mayB] using h5]
          exact dAx_full h6 h7 h8 h9 h10
      obtain ⟨t, s, e, h3, hft, hf0, hax⟩ := key
      have h2 := (ihO n (f ++ (l ++ r)) hok).1 rfl (by omega) (by rw [e]; show t.k ≠ 2; omega)
      unfold dEx
      rw [if_neg (by rw [G_mn hO hok.app.1]; decide), h2]
      simp only []
      rw [e]
      have hh : hd (t :: s) = t.t := rfl
      rw [hh, hft, if_neg hf0, if_neg (by omega), show (t :: s).tail = s from rfl, hax]
      simp only []
      rw [h1]
/-- The parser from the left has a tree for the whole list exactly if the grammar has. -/
theorem dEx_iff {l : List Tk} {T : Tr} {n : Nat} (hok : okL l) (hn : l.length < n) : dEx n l = some (T, []) ↔ G true l T := by
  constructor
  · intro h
    obtain ⟨a, e, h⟩ := dEx_sound n l T [] hok h
    rw [List.append_nil] at e
    rw [e]; exact h
  · intro h
    have := (dEx_full h n [] (by rw [List.append_nil]; exact hok)).2 rfl hn (.inl rfl)
    rwa [List.append_nil] at this
end Go.Proofs.YthgojbaindejjaaGreatDoor.ps

/- Parsing from the right answers what the grammar says: plain mathematics. -/
namespace Go.Proofs.YthgojbaindejjaaGreatDoor.ps
open Go.Proofs.YthgojbaindejjaaGreatDoor.lx Go.Proofs.YthgojbaindejjaaGreatDoor.tr
set_option linter.unusedVariables false
set_option linter.unusedSimpArgs false

/-! ### Parentheses -/
def Bal (l : List Tk) : Prop := ∀ d p, 1 ≤ d → rCut d (l.reverse ++ p) = (rCut d p).map fun q => (l.reverse ++ q.1, q.2)
theorem bal_nil : Bal [] := fun d p _ => by cases h : rCut d p <;> simp [h]
theorem bal_app {a b : List Tk} (ha : Bal a) (hb : Bal b) : Bal (a ++ b) := fun d p hd => by
  rw [List.reverse_append, List.append_assoc, hb d _ hd, ha d p hd]
  cases h : rCut d p <;> simp
theorem rCut_one {d : Nat} {t : Tk} {p : List Tk} (h1 : ¬ isG t gR) (h2 : ¬ isG t gL) : rCut d (t :: p) = (rCut d p).map fun q => (t :: q.1, q.2) := by
  conv => lhs; unfold rCut
  rw [if_neg h1, if_neg h2]
theorem rCut_r {d : Nat} {t : Tk} {p : List Tk} (h1 : isG t gR) : rCut d (t :: p) = (rCut (d + 1) p).map fun q => (t :: q.1, q.2) := by
  conv => lhs; unfold rCut
  rw [if_pos h1]
theorem not_both {t : Tk} {a b : List UInt8} (hab : a ≠ b) (h : isG t a) : ¬ isG t b := fun h' => hab (h.2.symm.trans h'.2)
theorem rCut_l {d : Nat} {t : Tk} {p : List Tk} (h2 : isG t gL) : rCut d (t :: p) = if d = 1 then some ([], p) else (rCut (d - 1) p).map fun q => (t :: q.1, q.2) := by
  conv => lhs; unfold rCut
  rw [if_neg (not_both (by decide) h2), if_pos h2]
theorem bal_one {t : Tk} (h1 : ¬ isG t gR) (h2 : ¬ isG t gL) : Bal [t] := fun d p hd => by
  show rCut d (t :: p) = _
  rw [rCut_one h1 h2]; rfl
theorem bal_all : ∀ {l : List Tk}, (∀ t ∈ l, ¬ isG t gR ∧ ¬ isG t gL) → Bal l
  | [], _ => bal_nil
  | t :: r, h => bal_app (a := [t]) (bal_one (h t (by simp)).1 (h t (by simp)).2) (bal_all fun u hu => h u (by simp [hu]))
theorem bal_paren {a b : Tk} {l : List Tk} (ha : isG a gL) (hb : isG b gR) (hl : Bal l) : Bal (a :: (l ++ [b])) := fun d p hd => by
  have e : (a :: (l ++ [b])).reverse ++ p = b :: (l.reverse ++ (a :: p)) := by simp
  have e2 : ∀ q, (a :: (l ++ [b])).reverse ++ q = b :: (l.reverse ++ (a :: q)) := by intro q; simp
  rw [e, rCut_r hb, hl _ _ (by omega), rCut_l ha, if_neg (by omega), show d + 1 - 1 = d by omega]
  cases h : rCut d p <;> simp
theorem fn_bal {f : List Tk} {F ax : Int} (h : Fn f F ax) : Bal f := by
  have key : ∀ t : Tk, fnT t.t ≠ 0 → ¬ isG t gR ∧ ¬ isG t gL := fun t ht => ⟨fun e => fn_ne ht (by decide) e.2, fun e => fn_ne ht (by decide) e.2⟩
  refine bal_all fun u hu => ?_
  rcases h with ⟨t, rfl, _, h2, h3, _⟩ | ⟨t, lb, x, rb, rfl, h1, h2, h3, h4, h5, h6, h7, h8, _⟩
  · simp at hu; subst hu; exact key _ (by omega)
  · simp at hu
    rcases hu with rfl | rfl | rfl | rfl
    · exact key _ (by omega)
    · exact ⟨not_both (by decide) h4, not_both (by decide) h4⟩
    · exact ⟨fun e => by have := e.1; omega, fun e => by have := e.1; omega⟩
    · exact ⟨not_both (by decide) h8, not_both (by decide) h8⟩
theorem G_bal {b : Bool} {l : List Tk} {T : Tr} (h : G b l T) : Bal l := by
  induction h with
  | name t h => exact bal_one (fun e => by have := e.1; omega) (fun e => by have := e.1; omega)
  | zil t h => exact bal_one (not_both (by decide) h) (not_both (by decide) h)
  | nums l _ h => exact bal_all fun t ht => ⟨fun e => by have := e.1; have := h t ht; omega, fun e => by have := e.1; have := h t ht; omega⟩
  | paren a b l T ha hb _ ih => exact bal_paren ha hb ih
  | op l T _ ih => exact ih
  | mon f F ax l T hf _ _ ih => exact bal_app (fn_bal hf) ih
  | dy o u f F ax l T _ hf _ _ ih1 ih2 => exact bal_app ih1 (bal_app (fn_bal hf) ih2)
theorem rCut_sound : ∀ {p : List Tk} {d : Nat} {i r : List Tk}, rCut d p = some (i, r) → ∃ a, isG a gL ∧ p = i ++ a :: r
  | [], d, i, r, h => by cases h
  | t :: p, d, i, r, h => by
    have key : ∀ {e : Nat}, ((rCut e p).map fun q => (t :: q.1, q.2)) = some (i, r) → ∃ a, isG a gL ∧ t :: p = i ++ a :: r := by
      intro e h
      cases hc : rCut e p with
      | none => rw [hc] at h; cases h
      | some q =>
        obtain ⟨j, s⟩ := q
        rw [hc] at h
        injection h with h
        injection h with h1 h2
        obtain ⟨a, ha, rfl⟩ := rCut_sound hc
        subst h1; subst h2
        exact ⟨a, ha, rfl⟩
    by_cases h1 : isG t gR
    · rw [rCut_r h1] at h; exact key h
    · by_cases h2 : isG t gL
      · rw [rCut_l h2] at h
        by_cases hd : d = 1
        · rw [if_pos hd] at h
          injection h with h
          injection h with e1 e2
          subst e1; subst e2
          exact ⟨t, h2, rfl⟩
        · rw [if_neg hd] at h; exact key h
      · rw [rCut_one h1 h2] at h; exact key h

/-! ### Functions and operands -/
theorem rFn_some {p : List Tk} {F ax : Int} {q : List Tk} (h : rFn p = some (F, ax, q)) : ∃ f, p = f.reverse ++ q ∧ Fn f F ax := by
  cases p with
  | nil => cases h
  | cons b r =>
    unfold rFn at h
    simp only [] at h
    by_cases hb : isG b gRB
    · rw [if_pos hb] at h
      match r, h with
      | [], h => cases h
      | [_], h => cases h
      | [_, _], h => cases h
      | x :: lb :: t :: s, h =>
        simp only [] at h
        by_cases hc : x.k = 2 ∧ 0 ≤ x.n ∧ x.n ≤ 15 ∧ isG lb gLB ∧ t.k = 3 ∧ (fnT t.t = 3 ∨ fnT t.t = 6)
        · rw [if_pos hc] at h
          injection h with h
          injection h with e1 h
          injection h with e2 e3
          subst e3
          obtain ⟨h1, h2, h3, h4, h5, h6⟩ := hc
          exact ⟨[t, lb, x, b], rfl, .inr ⟨t, lb, x, b, rfl, h5, e1, by omega, h4, h1, h2, h3, hb, by omega⟩⟩
        · rw [if_neg hc] at h; cases h
    · rw [if_neg hb] at h
      by_cases hc : b.k = 3 ∧ fnT b.t ≠ 0
      · rw [if_pos hc] at h
        injection h with h
        injection h with e1 h
        injection h with e2 e3
        subst e3
        exact ⟨[b], rfl, .inl ⟨b, rfl, hc.1, e1, by have := hc.2; omega, e2.symm⟩⟩
      · rw [if_neg hc] at h; cases h
theorem rFn_full {f : List Tk} {F ax : Int} (h : Fn f F ax) (q : List Tk) : rFn (f.reverse ++ q) = some (F, ax, q) := by
  rcases h with ⟨t, rfl, h1, h2, h3, h4⟩ | ⟨t, lb, x, rb, rfl, h1, h2, h3, h4, h5, h6, h7, h8, h9⟩
  · show rFn (t :: q) = _
    have hne : ¬ isG t gRB := fun e => fn_ne (t := t.t) (by omega) (by decide) e.2
    unfold rFn
    simp only []
    rw [if_neg hne, if_pos ⟨h1, by omega⟩, h2, h4]
  · show rFn (rb :: x :: lb :: t :: q) = _
    unfold rFn
    simp only []
    rw [if_pos h8, if_pos ⟨h5, h6, h7, h4, h1, by omega⟩, h2, h9]
theorem dw_len {α : Type} (f : α → Bool) (l : List α) : (l.dropWhile f).length ≤ l.length := (List.dropWhile_sublist f).length_le
theorem rOp_len {E : List Tk → Option Tr} {p : List Tk} {u : Tr} {r : List Tk} (h : rOp E p = some (u, r)) : r.length < p.length := by
  cases p with
  | nil => cases h
  | cons t s =>
    unfold rOp at h
    simp only [] at h
    by_cases h1 : t.k = 1
    · rw [if_pos h1] at h; injection h with h; injection h with _ e; subst e; simp
    rw [if_neg h1] at h
    by_cases h2 : isG t gZil
    · rw [if_pos h2] at h; injection h with h; injection h with _ e; subst e; simp
    rw [if_neg h2] at h
    by_cases h3 : t.k = 2
    · rw [if_pos h3] at h; injection h with h; injection h with _ e; subst e
      have := dw_len isN s
      simp only [List.dropWhile_cons, isN, h3, decide_true, if_true, List.length_cons]
      omega
    rw [if_neg h3] at h
    by_cases h4 : isG t gR
    · rw [if_pos h4] at h
      cases hc : rCut 1 s with
      | none => rw [hc] at h; cases h
      | some q =>
        obtain ⟨i, q⟩ := q
        rw [hc] at h
        simp only [] at h
        obtain ⟨a, _, rfl⟩ := rCut_sound hc
        cases he : E i with
        | none => rw [he] at h; cases h
        | some T => rw [he] at h; injection h with h; injection h with _ e; subst e; simp; omega
    · rw [if_neg h4] at h; cases h
theorem rOp_sound {E : List Tk → Option Tr} (hE : ∀ p T, E p = some T → G true p.reverse T) {p : List Tk} {u : Tr} {r : List Tk} (h : rOp E p = some (u, r)) : ∃ o, p = o.reverse ++ r ∧ G false o u := by
  cases p with
  | nil => cases h
  | cons t s =>
    unfold rOp at h
    simp only [] at h
    by_cases h1 : t.k = 1
    · rw [if_pos h1] at h; injection h with h; injection h with e1 e; subst e; subst e1
      exact ⟨[t], rfl, .name t h1⟩
    rw [if_neg h1] at h
    by_cases h2 : isG t gZil
    · rw [if_pos h2] at h; injection h with h; injection h with e1 e; subst e; subst e1
      exact ⟨[t], rfl, .zil t h2⟩
    rw [if_neg h2] at h
    by_cases h3 : t.k = 2
    · rw [if_pos h3] at h; injection h with h; injection h with e1 e; subst e; subst e1
      refine ⟨((t :: s).takeWhile isN).reverse, by rw [List.reverse_reverse]; exact List.takeWhile_append_dropWhile.symm, .nums _ ?_ fun u hu => ?_⟩
      · simp [List.takeWhile_cons, isN, h3]
      · have := tw_mem isN _ u (List.mem_reverse.1 hu)
        simpa [isN] using this
    rw [if_neg h3] at h
    by_cases h4 : isG t gR
    · rw [if_pos h4] at h
      cases hc : rCut 1 s with
      | none => rw [hc] at h; cases h
      | some q =>
        obtain ⟨i, q⟩ := q
        rw [hc] at h
        simp only [] at h
        obtain ⟨a, ha, rfl⟩ := rCut_sound hc
        cases he : E i with
        | none => rw [he] at h; cases h
        | some T =>
          rw [he] at h; injection h with h; injection h with e1 e; subst e; subst e1
          exact ⟨a :: (i.reverse ++ [t]), by simp, .paren a t _ _ ha h4 (hE _ _ he)⟩
    · rw [if_neg h4] at h; cases h

/-! ### The loop -/
theorem rFn_len {p : List Tk} {F ax : Int} {q : List Tk} (h : rFn p = some (F, ax, q)) : q.length < p.length := by
  obtain ⟨f, rfl, hf⟩ := rFn_some h
  have := fn_len hf
  simp; omega
theorem rLoop_nil (O : List Tk → Option (Tr × List Tk)) (m : Nat) (T : Tr) : rLoop O m [] T = some T := by cases m <;> rfl
theorem rLoop_fuel {O : List Tk → Option (Tr × List Tk)} (hO : ∀ q u r, O q = some (u, r) → r.length < q.length) : ∀ (m : Nat) (p : List Tk) (T : Tr) (k : Nat), p.length ≤ m → p.length ≤ k → rLoop O m p T = rLoop O k p T := by
  intro m
  induction m with
  | zero =>
    intro p T k h1 h2
    cases p with
    | nil => rw [rLoop_nil, rLoop_nil]
    | cons c p => simp at h1
  | succ m ih =>
    intro p T k h1 h2
    cases p with
    | nil => rw [rLoop_nil, rLoop_nil]
    | cons c p =>
      cases k with
      | zero => simp at h2
      | succ k =>
        simp only [List.length_cons] at h1 h2
        unfold rLoop
        cases hf : rFn (c :: p) with
        | none => rfl
        | some x =>
          obtain ⟨F, ax, q⟩ := x
          have hq := rFn_len hf
          simp only [List.length_cons] at hq
          simp only []
          cases ho : O q with
          | some y =>
            obtain ⟨u, q'⟩ := y
            have := hO _ _ _ ho
            simp only []
            rw [ih q' _ k (by omega) (by omega)]
          | none =>
            simp only []
            rw [ih q _ k (by omega) (by omega)]
/-- The loop, without a bound. -/
def lp (O : List Tk → Option (Tr × List Tk)) (p : List Tk) (T : Tr) : Option Tr := rLoop O p.length p T
theorem lp_nil (O : List Tk → Option (Tr × List Tk)) (T : Tr) : lp O [] T = some T := rfl
theorem lp_cons {E : List Tk → Option Tr} {p : List Tk} (hp : p ≠ []) (T : Tr) : lp (rOp E) p T = (match rFn p with
    | none => none
    | some (F, ax, q) => match rOp E q with
      | some (u, q') => if F ≠ 6 ∧ 2 < u.kind then none else lp (rOp E) q' (dy F ax u T)
      | none => if badF q ∨ ¬ monOk F ax then none else lp (rOp E) q (mon F ax T)) := by
  cases p with
  | nil => exact absurd rfl hp
  | cons c p =>
    have hO : ∀ q u r, rOp E q = some (u, r) → r.length < q.length := fun q u r h => rOp_len h
    unfold lp
    rw [List.length_cons]
    conv => lhs; unfold rLoop
    cases hf : rFn (c :: p) with
    | none => rfl
    | some x =>
      obtain ⟨F, ax, q⟩ := x
      have hq := rFn_len hf
      simp only [List.length_cons] at hq
      simp only []
      cases ho : rOp E q with
      | some y =>
        obtain ⟨u, q'⟩ := y
        have := hO _ _ _ ho
        simp only []
        rw [rLoop_fuel hO p.length q' _ q'.length (by omega) (Nat.le_refl _)]
      | none =>
        simp only []
        rw [rLoop_fuel hO p.length q _ q.length (by omega) (Nat.le_refl _)]
theorem rEx_succ (n : Nat) (p : List Tk) : rEx (n + 1) p = match rOp (rEx n) p with
    | none => none
    | some (T, q) => lp (rOp (rEx n)) q T := rfl
theorem lp_sound {E : List Tk → Option Tr} (hE : ∀ p T, E p = some T → G true p.reverse T) : ∀ (m : Nat) (p : List Tk) (T : Tr) (s : List Tk) (U : Tr), p.length ≤ m → G true s T → lp (rOp E) p T = some U → G true (p.reverse ++ s) U := by
  intro m
  induction m with
  | zero =>
    intro p T s U hm hG h
    cases p with
    | nil => rw [lp_nil] at h; injection h with h; subst h; exact hG
    | cons c p => simp at hm
  | succ m ih =>
    intro p T s U hm hG h
    by_cases hp : p = []
    · subst hp; rw [lp_nil] at h; injection h with h; subst h; exact hG
    · rw [lp_cons hp] at h
      cases hf : rFn p with
      | none => rw [hf] at h; cases h
      | some x =>
        obtain ⟨F, ax, q⟩ := x
        rw [hf] at h
        simp only [] at h
        have hql := rFn_len hf
        obtain ⟨f, rfl, hfn⟩ := rFn_some hf
        cases ho : rOp E q with
        | some y =>
          obtain ⟨u, q'⟩ := y
          rw [ho] at h
          simp only [] at h
          have := rOp_len ho
          by_cases hk : F ≠ 6 ∧ 2 < u.kind
          · rw [if_pos hk] at h; cases h
          rw [if_neg hk] at h
          obtain ⟨o, rfl, hGo⟩ := rOp_sound hE ho
          have := ih q' _ (o ++ (f ++ s)) U (by omega) (.dy o u f F ax s T hGo hfn (by omega) hG) h
          simpa using this
        | none =>
          rw [ho] at h
          simp only [] at h
          by_cases hk : badF q ∨ ¬ monOk F ax
          · rw [if_pos hk] at h; cases h
          rw [if_neg hk] at h
          have hm2 : monOk F ax := Decidable.byContradiction fun e => hk (.inr e)
          have := ih q _ (f ++ s) U (by omega) (.mon f F ax s T hfn hm2 hG) h
          simpa using this
theorem rEx_sound : ∀ (n : Nat) (p : List Tk) (T : Tr), rEx n p = some T → G true p.reverse T := by
  intro n
  induction n with
  | zero => intro p T h; cases h
  | succ n ih =>
    intro p T h
    rw [rEx_succ] at h
    cases ho : rOp (rEx n) p with
    | none => rw [ho] at h; cases h
    | some x =>
      obtain ⟨u, q⟩ := x
      rw [ho] at h
      simp only [] at h
      obtain ⟨o, rfl, hG⟩ := rOp_sound ih ho
      have := lp_sound ih q.length q u o T (Nat.le_refl _) (.op _ _ hG) h
      simpa using this

/-! ### .. and all of it -/
/-- What may stand in front of an expression. -/
def befE (q : List Tk) : Prop := q = [] ∨ ∃ t r, q = t :: r ∧ t.k = 3 ∧ (fnT t.t ≠ 0 ∨ t.t = gRB)
theorem befE.none {q : List Tk} (h : befE q) (E : List Tk → Option Tr) : rOp E q = none ∧ ¬ badF q ∧ hk q ≠ 2 := by
  rcases h with rfl | ⟨t, r, rfl, h3, h⟩
  · exact ⟨rfl, fun e => e, by show (0 : Int) ≠ 2; decide⟩
  · have n1 : ¬ isG t gZil := fun e => by
      rcases h with h | h
      · exact fn_ne h (by decide) e.2
      · exact absurd (h.symm.trans e.2) (by decide)
    have n2 : ¬ isG t gR := fun e => by
      rcases h with h | h
      · exact fn_ne h (by decide) e.2
      · exact absurd (h.symm.trans e.2) (by decide)
    refine ⟨?_, ?_, ?_⟩
    · unfold rOp
      simp only []
      rw [if_neg (by omega), if_neg n1, if_neg (by omega), if_neg n2]
    · intro e
      rcases e with e | e
      · exact n2 e
      · exact e h3
    · show t.k ≠ 2; omega
theorem fn_bef {f : List Tk} {F ax : Int} (h : Fn f F ax) (q : List Tk) : befE (f.reverse ++ q) := by
  rcases h with ⟨t, rfl, h1, h2, h3, _⟩ | ⟨t, lb, x, rb, rfl, h1, h2, h3, h4, h5, h6, h7, h8, _⟩
  · exact .inr ⟨t, q, rfl, h1, .inl (by omega)⟩
  · exact .inr ⟨rb, x :: lb :: t :: q, rfl, h8.1, .inr h8.2⟩
theorem fn_rev {f : List Tk} {F ax : Int} (h : Fn f F ax) (q : List Tk) : f.reverse ++ q ≠ [] := by
  rcases h with ⟨t, rfl, _⟩ | ⟨t, lb, x, rb, rfl, _⟩ <;> simp
theorem rEx_full {b : Bool} {l : List Tk} {T : Tr} (h : G b l T) : ∀ (n : Nat) (q : List Tk),
    (b = false → l.length ≤ n → hk q ≠ 2 → rOp (rEx n) (l.reverse ++ q) = some (T, q)) ∧
    (b = true → l.length ≤ n → befE q → (match rOp (rEx n) (l.reverse ++ q) with | none => none | some (U, p) => lp (rOp (rEx n)) p U) = lp (rOp (rEx n)) q T) := by
  induction h with
  | name t h =>
    intro n q
    refine ⟨fun _ _ _ => ?_, fun e => by cases e⟩
    show rOp (rEx n) (t :: q) = _
    unfold rOp
    simp only []
    rw [if_pos h]
  | zil t h =>
    intro n q
    refine ⟨fun _ _ _ => ?_, fun e => by cases e⟩
    show rOp (rEx n) (t :: q) = _
    unfold rOp
    simp only []
    rw [if_neg (by have := h.1; omega), if_pos h]
  | nums l h1 h2 =>
    intro n q
    refine ⟨fun _ _ ha => ?_, fun e => by cases e⟩
    obtain ⟨e1, e2⟩ := takeAll isN l.reverse q (fun t ht => by have := h2 t (List.mem_reverse.1 ht); simp [isN, this]) (fun c s e => by
      subst e
      have : c.k ≠ 2 := ha
      simp [isN, this])
    cases hl : l.reverse with
    | nil => exact absurd (List.reverse_eq_nil_iff.1 hl) h1
    | cons t s =>
      have h3 : t.k = 2 := h2 t (List.mem_reverse.1 (by rw [hl]; simp))
      rw [hl] at e1 e2
      unfold rOp
      simp only [List.cons_append] at e1 e2 ⊢
      rw [if_neg (by omega), if_neg (fun e => by have := e.1; omega), if_pos h3, e1, e2, ← hl, List.reverse_reverse]
  | paren a b l T ha hb hG ih =>
    intro n q
    refine ⟨fun _ hl _ => ?_, fun e => by cases e⟩
    simp only [List.length_cons, List.length_append, List.length_nil] at hl
    have e0 : (a :: (l ++ [b])).reverse ++ q = b :: (l.reverse ++ (a :: q)) := by simp
    have hc : rCut 1 (l.reverse ++ (a :: q)) = some (l.reverse, q) := by
      rw [G_bal hG 1 _ (Nat.le_refl _), rCut_l ha, if_pos rfl]
      simp
    cases n with
    | zero => omega
    | succ n =>
      have he : rEx (n + 1) l.reverse = some T := by
        rw [rEx_succ]
        have := (ih n []).2 rfl (by omega) (.inl rfl)
        rw [List.append_nil] at this
        rw [this, lp_nil]
      rw [e0]
      conv => lhs; unfold rOp
      simp only []
      rw [if_neg (by have := hb.1; omega), if_neg (not_both (by decide) hb), if_neg (by have := hb.1; omega), if_pos hb, hc]
      simp only []
      rw [he]
  | op l T hG ih =>
    intro n q
    refine ⟨fun e => by (try cases e), fun _ hl ha => ?_⟩
    rw [(ih n q).1 rfl hl (ha.none (rEx n)).2.2]
  | mon f F ax l T hf hm hG ih =>
    intro n q
    refine ⟨fun e => by (try cases e), fun _ hl ha => ?_⟩
    rw [List.length_append] at hl
    have hfl := fn_len hf
    rw [List.reverse_append, List.append_assoc, (ih n (f.reverse ++ q)).2 rfl (by omega) (fn_bef hf q), lp_cons (fn_rev hf _), rFn_full hf]
    obtain ⟨h1, h2, _⟩ := ha.none (rEx n)
    simp only []
    rw [h1]
    simp only []
    rw [if_neg (fun e => by rcases e with e | e; exact h2 e; exact e hm)]
  | dy o u f F ax l T hO hf hk hG ihO ih =>
    intro n q
    refine ⟨fun e => by (try cases e), fun _ hl ha => ?_⟩
    simp only [List.length_append] at hl
    have hfl := fn_len hf
    have e0 : (o ++ (f ++ l)).reverse ++ q = l.reverse ++ (f.reverse ++ (o.reverse ++ q)) := by simp
    rw [e0, (ih n (f.reverse ++ (o.reverse ++ q))).2 rfl (by omega) (fn_bef hf _), lp_cons (fn_rev hf _), rFn_full hf]
    simp only []
    rw [(ihO n q).1 rfl (by omega) (ha.none (rEx n)).2.2]
    simp only []
    rw [if_neg (by omega)]
/-- The parser from the right has a tree exactly if the grammar has. -/
theorem rEx_iff {l : List Tk} {T : Tr} {n : Nat} (hn : l.length < n) : rEx n l.reverse = some T ↔ G true l T := by
  constructor
  · intro h
    have := rEx_sound n _ _ h
    rwa [List.reverse_reverse] at this
  · intro h
    cases n with
    | zero => omega
    | succ n =>
      rw [rEx_succ]
      have := (rEx_full h n []).2 rfl (by omega) (.inl rfl)
      rw [List.append_nil] at this
      rw [this, lp_nil]
/-- The tree of tokens. -/
def exT (l : List Tk) : Option Tr := rEx (l.length + 1) l.reverse
theorem exT_iff {l : List Tk} {T : Tr} : exT l = some T ↔ G true l T := rEx_iff (by omega)
/-- Both parsers answer the same. -/
theorem dEx_exT {l : List Tk} {n : Nat} (hok : okL l) (hn : l.length < n) : (match dEx n l with | none => none | some (T, r) => if r = [] then some T else none) = exT l := by
  cases hd : dEx n l with
  | none =>
    cases he : exT l with
    | none => rfl
    | some T => rw [(dEx_iff hok hn).2 (exT_iff.1 he)] at hd; cases hd
  | some x =>
    obtain ⟨T, r⟩ := x
    simp only []
    by_cases hr : r = []
    · subst hr
      rw [if_pos rfl, exT_iff.2 ((dEx_iff hok hn).1 hd)]
    · rw [if_neg hr]
      cases he : exT l with
      | none => rfl
      | some U =>
        rw [(dEx_iff hok hn).2 (exT_iff.1 he)] at hd
        injection hd with hd
        injection hd with _ e
        exact absurd e.symm hr
theorem rEx_exT {l : List Tk} {n : Nat} (hn : l.length < n) : rEx n l.reverse = exT l := by
  cases he : exT l with
  | none =>
    cases hr : rEx n l.reverse with
    | none => rfl
    | some T => rw [exT_iff.2 ((rEx_iff hn).1 hr)] at he; cases he
  | some T => exact (rEx_iff hn).2 (exT_iff.1 he)
end Go.Proofs.YthgojbaindejjaaGreatDoor.ps
