/- Texts of trees: plain mathematics. The text of a right tree has the tokens of the tree, which the grammar reads as the tree. -/
import Derived.Test.YthgojbaindejjaaGreatDoorPsLaw
import Derived.Test.YthgojbaindejjaaGreatDoorTreeRight
namespace Go.Proofs.YthgojbaindejjaaGreatDoor.sh
open Go.Proofs.YthgojbaindejjaaGreatDoor.lx Go.Proofs.YthgojbaindejjaaGreatDoor.tr Go.Proofs.YthgojbaindejjaaGreatDoor.ps
set_option linter.unusedVariables false
set_option linter.unusedSimpArgs false

/-! ### A text behind another one that begins with a byte of which no character has it inside -/
def sepB (c : UInt8) : Prop := c.toNat < 128 ∨ 192 ≤ c.toNat
theorem tail_sep2 {c : UInt8} {b : List UInt8} (hc : sepB c) : ∀ (p x : List UInt8), p.all (fun u => decide (128 ≤ u.toNat ∧ u.toNat < 192)) = true → p.isPrefixOf (x ++ c :: b) = p.isPrefixOf x
  | [], _, _ => rfl
  | q :: p, [], h => by
    simp only [List.all_cons, Bool.and_eq_true, decide_eq_true_eq] at h
    have : (q == c) = false := beq_eq_false_iff_ne.2 fun e => by subst e; unfold sepB at hc; omega
    simp only [List.nil_append, List.isPrefixOf, this, Bool.false_and]
  | q :: p, a :: x, h => by
    simp only [List.all_cons, Bool.and_eq_true] at h
    simp only [List.cons_append, List.isPrefixOf, tail_sep2 hc p x h.2]
theorem pre_sep2 {c : UInt8} {b : List UInt8} (hc : sepB c) {p x : List UInt8} (hx : x ≠ []) (h : p.tail.all (fun u => decide (128 ≤ u.toNat ∧ u.toNat < 192)) = true) : p.isPrefixOf (x ++ c :: b) = p.isPrefixOf x := by
  cases p with
  | nil => rfl
  | cons q p =>
    cases x with
    | nil => exact absurd rfl hx
    | cons a x =>
      simp only [List.cons_append, List.isPrefixOf]
      rw [tail_sep2 hc p x h]
theorem fir_sep2 {c : UInt8} {b x : List UInt8} (hc : sepB c) (hw : wpB c = false) (hx : x ≠ []) : fir (x ++ c :: b) = fir x := by
  have e1 : wordL (x ++ c :: b) = wordL x := by unfold wordL; rw [tw_sep x hw]
  have e2 : negB (x ++ c :: b) = negB x := pre_sep2 hc hx (by decide)
  have e3 : preL (x ++ c :: b) = preL x := by unfold preL; rw [e2]
  have e4 : digL (x ++ c :: b) = digL x := by
    unfold digL
    rw [e3, List.drop_append_of_le_length (pre_len x), tw_sep _ hw]
  have e5 : glyL (x ++ c :: b) = glyL x := by
    unfold glyL
    congr 1
    have hall : ∀ g ∈ gls, g.tail.all (fun u => decide (128 ≤ u.toNat ∧ u.toNat < 192)) = true := by decide
    have : ∀ gs : List (List UInt8), (∀ g ∈ gs, g.tail.all (fun u => decide (128 ≤ u.toNat ∧ u.toNat < 192)) = true) → gs.find? (fun g => g.isPrefixOf (x ++ c :: b)) = gs.find? (fun g => g.isPrefixOf x) := by
      intro gs
      induction gs with
      | nil => intro _; rfl
      | cons g r ih =>
        intro h
        simp only [List.find?_cons]
        rw [pre_sep2 hc hx (h g List.mem_cons_self), ih fun y hy => h y (List.mem_cons_of_mem _ hy)]
    exact this gls hall
  unfold fir
  rw [e1, e2, e3, e4, e5]
theorem tok_sep2 {c : UInt8} {b : List UInt8} (hc : sepB c) (hw : wpB c = false) : ∀ (n : Nat) (x : List UInt8), x.length ≤ n → tok (x ++ c :: b) = (tok x).bind fun l => (tok (c :: b)).map (l ++ ·)
  | n, [], _ => by
    rw [tok_nil, List.nil_append]
    simp only [Option.bind_some]
    cases tok (c :: b) <;> rfl
  | 0, a :: r, h => by simp at h
  | n + 1, a :: r, h => by
    simp only [List.length_cons] at h
    cases hb : blB a
    · have hfs := fir_sep2 (b := b) (x := a :: r) hc hw (by simp)
      cases hf : fir (a :: r) with
      | none =>
        rw [hf, List.cons_append] at hfs
        rw [tok_none hb hf, List.cons_append, tok_none hb hfs]; rfl
      | some t =>
        rw [hf, List.cons_append] at hfs
        have hl := fir_len hf
        simp only [List.length_cons] at hl
        rw [tok_some hb hf, List.cons_append, tok_some hb hfs]
        have e : (a :: (r ++ c :: b)).drop t.t.length = (a :: r).drop t.t.length ++ c :: b := by
          rw [← List.cons_append, List.drop_append_of_le_length (by simp only [List.length_cons]; omega)]
        rw [e, tok_sep2 hc hw n _ (by rw [List.length_drop, List.length_cons]; omega)]
        cases tok ((a :: r).drop t.t.length) with
        | none => rfl
        | some l => cases tok (c :: b) <;> rfl
    · rw [tok_bl hb, List.cons_append, tok_bl hb]
      exact tok_sep2 hc hw n r (by omega)
theorem tok_join {x : List UInt8} {L : List Tk} (h : tok x = some L) {c : UInt8} {b : List UInt8} (hc : sepB c) (hw : wpB c = false) : tok (x ++ c :: b) = (tok (c :: b)).map (L ++ ·) := by
  rw [tok_sep2 hc hw x.length x (Nat.le_refl _), h]; rfl
/-- What holds of every first token holds of every token. -/
theorem tok_all {P : Tk → Prop} (hP : ∀ l t, fir l = some t → P t) : ∀ (n : Nat) (l : List UInt8) (L : List Tk), l.length ≤ n → tok l = some L → ∀ t ∈ L, P t := by
  intro n
  induction n with
  | zero =>
    intro l L hl h
    obtain rfl : l = [] := List.eq_nil_of_length_eq_zero (by omega)
    rw [tok_nil] at h
    injection h with h
    subst h
    intro t ht; simp at ht
  | succ n ih =>
    intro l L hl h
    cases l with
    | nil =>
      rw [tok_nil] at h
      injection h with h
      subst h
      intro t ht; simp at ht
    | cons c r =>
      cases hb : blB c with
      | true =>
        rw [tok_bl hb] at h
        exact ih r L (by simp at hl; omega) h
      | false =>
        cases hf : fir (c :: r) with
        | none => rw [tok_none hb hf] at h; cases h
        | some t =>
          rw [tok_some hb hf] at h
          have hlen := fir_len hf
          cases hr : tok ((c :: r).drop t.t.length) with
          | none => rw [hr] at h; cases h
          | some M =>
            rw [hr] at h
            injection h with h
            subst h
            intro u hu
            rcases List.mem_cons.1 hu with rfl | hu
            · exact hP _ _ hf
            · exact ih _ M (by rw [List.length_drop]; omega) hr u hu
theorem fir_number {l : List UInt8} {t : Tk} (h : fir l = some t) (hk : t.k = 2) : t.t = decL t.n := by
  unfold fir at h
  by_cases hw : wordL l ≠ []
  · rw [if_pos hw] at h
    injection h with h
    subst h
    exact absurd hk (by show ¬ (1 : Int) = 2; decide)
  · rw [if_neg hw] at h
    cases hn : numB (digL l) (negB l) with
    | some n =>
      rw [hn] at h
      injection h with h
      subst h
      have e := numB_decL hn
      show preL l ++ digL l = decL n
      rw [e]; unfold preL; rfl
    | none =>
      rw [hn] at h
      have h' : (if glyL l ≠ [] then some (⟨3, glyL l, 0⟩ : Tk) else none) = some t := h
      by_cases hg' : glyL l ≠ []
      · rw [if_pos hg'] at h'
        injection h' with h'
        subst h'
        exact absurd hk (by show ¬ (3 : Int) = 2; decide)
      · rw [if_neg hg'] at h'; cases h'

/-! ### The text of a tree -/
def glyF (F : Int) : List UInt8 := if F = 1 then gUp else if F = 2 then gDn else if F = 3 then gRev else if F = 4 then gTrn else if F = 5 then gRho else gCom
def axS (ax : Int) : List UInt8 := if 0 ≤ ax then 91 :: (decL ax ++ [93]) else []
def fnS (F ax : Int) : List UInt8 := glyF F ++ axS ax
def litB : List Int → List UInt8
  | [] => []
  | n :: r => 32 :: (decL n ++ litB r)
def litS : List Int → List UInt8
  | [] => gZil
  | n :: r => decL n ++ litB r
def par (k : Int) (t : List UInt8) : List UInt8 := if 2 < k then 40 :: (t ++ [41]) else t
def shN (k f a : Int) (s : List UInt8) (ns : List Int) (k0 : Int) (ts : List (List UInt8)) : List UInt8 :=
  if k = 2 then s else if k = 3 then fnS f a ++ ts.headD [] else if k = 4 then par k0 (ts.headD []) ++ (fnS f a ++ ts.tail.headD []) else litS ns
mutual
def showT : Tr → List UInt8 | .node k f a s ns ks => shN k f a (bl s) ns (kindL ks) (showL ks)
def showL : List Tr → List (List UInt8) | [] => [] | T :: r => showT T :: showL r
end
theorem show_node (k f a s ns ks) : showT (.node k f a s ns ks) = shN k f a (bl s) ns (kindL ks) (showL ks) := by simp only [showT]
theorem showL_cons (T r) : showL (T :: r) = showT T :: showL r := by simp only [showL]
theorem show_nm (l : List UInt8) : showT (.node 2 0 (-1) (txt.strOf l) [] []) = l := by rw [show_node, bl_str]; rfl
theorem show_lit (ns : List Int) : showT (lit ns) = litS ns := by unfold lit; rw [show_node]; rfl
theorem show_mon (F ax : Int) (T : Tr) : showT (mon F ax T) = fnS F ax ++ showT T := by unfold mon; rw [show_node, showL_cons]; rfl
theorem show_dy (F ax : Int) (u T : Tr) : showT (dy F ax u T) = par u.kind (showT u) ++ (fnS F ax ++ showT T) := by unfold dy; rw [show_node, showL_cons, showL_cons]; rfl
/-- The text of a line. -/
def lnS (nm : List UInt8) (T : Tr) : List UInt8 := if nm = [] then showT T else nm ++ (gArr ++ showT T)

/-! ### Right trees, as a grammar of their own -/
def axOk (F ax : Int) : Prop := ax = -1 ∨ ((0 ≤ ax ∧ ax ≤ 15) ∧ (F = 3 ∨ F = 6))
inductive R : Tr → Prop
  | nm (l : List UInt8) : nameB l = true → R (.node 2 0 (-1) (txt.strOf l) [] [])
  | lit (ns : List Int) : (∀ n ∈ ns, -9223372036854775808 ≤ n ∧ n ≤ 9223372036854775807) → R (lit ns)
  | mon (F ax : Int) (T : Tr) : 1 ≤ F → F ≤ 6 → axOk F ax → monOk F ax → R T → R (mon F ax T)
  | dy (F ax : Int) (u T : Tr) : 1 ≤ F → F ≤ 6 → axOk F ax → (F = 6 ∨ u.kind = 1 ∨ u.kind = 2) → R u → R T → R (dy F ax u T)
theorem r_kind {T : Tr} (h : R T) : T.kind = 1 ∨ T.kind = 2 ∨ T.kind = 3 ∨ T.kind = 4 := by
  cases h with
  | nm l h => exact .inr (.inl rfl)
  | lit ns h => exact .inl rfl
  | mon F ax T _ _ _ _ _ => exact .inr (.inr (.inl rfl))
  | dy F ax u T _ _ _ _ _ _ => exact .inr (.inr (.inr rfl))
theorem empty_str {s : ByteArray} (h : (s.toList == []) = true) : s = ⟨#[]⟩ := by
  have h2 : s.toList = [] := by simpa using h
  rw [Lib.toList_data] at h2
  obtain ⟨⟨l⟩⟩ := s
  have : l = [] := h2
  subst this
  rfl
theorem in64_out {x : Int} (h : In64 x) : -9223372036854775808 ≤ x ∧ x ≤ 9223372036854775807 := by
  have h1 : IntKind.i64.min = -9223372036854775808 := by decide
  have h2 : IntKind.i64.max = 9223372036854775807 := by decide
  unfold In64 at h
  simp [Lit.wf, h1, h2] at h
  omega
theorem nodes_kid : ∀ {ks : List Tr} {i : Nat} {T : Tr}, nodesL ks = true → ks[i]? = some T → nodesT T = true
  | [], i, T, _, hi => by simp at hi
  | U :: r, 0, T, hk, hi => by
    rw [nodesL_cons, Bool.and_eq_true] at hk
    simp at hi; subst hi; exact hk.1
  | U :: r, i + 1, T, hk, hi => by
    rw [nodesL_cons, Bool.and_eq_true] at hk
    exact nodes_kid hk.2 (by simpa using hi)
theorem rd_R {w : World} (T : Tr) : ∀ v, RdT w T v → nodesT T = true → R T := by
  induction T using Tr.ind with
  | h k f a s ns ks ih =>
    intro v hv hn
    obtain ⟨A, n, c, B, m, d, _, _, _, _, _, _, _, _, _, hns, hm, _, _, _, hL⟩ := rdT_node.1 hv
    rw [nodes_node, Bool.and_eq_true] at hn
    obtain ⟨hb, hk⟩ := hn
    have hp : nodeP k f a (s.toList == []) (nameB (bl s)) ns.length ks.length (kindL ks) := of_decide_eq_true hb
    have kid : ∀ i T, ks[i]? = some T → R T := fun i T hi => by
      obtain ⟨ad, c0, c1, c2, c3, c4, c5, _, _, _, _, _, _, _, _, hT⟩ := hL.kid hi
      exact ih T (List.mem_of_getElem? hi) _ hT (nodes_kid hk hi)
    unfold nodeP at hp
    rcases hp with ⟨rfl, rfl, rfl, hs, h0⟩ | ⟨rfl, rfl, rfl, hs, h1, h2⟩ | ⟨rfl, hs, h1, h2, h3⟩ | ⟨rfl, hs, h1, h2, h3, h4, h5, h6⟩
    · obtain rfl := empty_str hs
      obtain rfl : ks = [] := List.eq_nil_of_length_eq_zero h0
      exact R.lit ns fun x hx => in64_out (hns x hx)
    · obtain rfl : ns = [] := List.eq_nil_of_length_eq_zero h1
      obtain rfl : ks = [] := List.eq_nil_of_length_eq_zero h2
      have := R.nm (bl s) hs
      rwa [str_bl] at this
    · obtain rfl := empty_str hs
      obtain rfl : ns = [] := List.eq_nil_of_length_eq_zero h1
      obtain ⟨T, rfl⟩ : ∃ T, ks = [T] := by
        cases ks with
        | nil => simp at h2
        | cons T r => cases r with
          | nil => exact ⟨T, rfl⟩
          | cons U q => simp at h2
      exact R.mon f a T (by omega) (by omega) (by unfold axOk; omega) (by unfold monOk; omega) (kid 0 T rfl)
    · obtain rfl := empty_str hs
      obtain rfl : ns = [] := List.eq_nil_of_length_eq_zero h1
      obtain ⟨u, T, rfl⟩ : ∃ u T, ks = [u, T] := by
        cases ks with
        | nil => simp at h2
        | cons T r => cases r with
          | nil => simp at h2
          | cons U q => cases q with
            | nil => exact ⟨T, U, rfl⟩
            | cons V p => simp at h2
      exact R.dy f a u T h3 h4 h5 h6 (kid 0 u rfl) (kid 1 T rfl)

/-! ### The tokens of a tree -/
def axK (ax : Int) : List Tk := if 0 ≤ ax then [⟨3, gLB, 0⟩, ⟨2, decL ax, ax⟩, ⟨3, gRB, 0⟩] else []
def fnK (F ax : Int) : List Tk := ⟨3, glyF F, 0⟩ :: axK ax
def numK (n : Int) : Tk := ⟨2, decL n, n⟩
def litK (ns : List Int) : List Tk := if ns = [] then [⟨3, gZil, 0⟩] else ns.map numK
def parK (k : Int) (l : List Tk) : List Tk := if 2 < k then tL :: (l ++ [tR]) else l
theorem tok_up (x : List UInt8) : tok (226 :: 134 :: 145 :: x) = (tok x).map (⟨3, gUp, 0⟩ :: ·) := gly_front [226, 134, 145] x 226 [134, 145] rfl (by decide) (by decide) rfl rfl
theorem tok_dn (x : List UInt8) : tok (226 :: 134 :: 147 :: x) = (tok x).map (⟨3, gDn, 0⟩ :: ·) := gly_front [226, 134, 147] x 226 [134, 147] rfl (by decide) (by decide) rfl rfl
theorem tok_tn (x : List UInt8) : tok (226 :: 141 :: 137 :: x) = (tok x).map (⟨3, gTrn, 0⟩ :: ·) := gly_front [226, 141, 137] x 226 [141, 137] rfl (by decide) (by decide) rfl rfl
theorem tok_rh (x : List UInt8) : tok (226 :: 141 :: 180 :: x) = (tok x).map (⟨3, gRho, 0⟩ :: ·) := gly_front [226, 141, 180] x 226 [141, 180] rfl (by decide) (by decide) rfl rfl
theorem six {F : Int} (h1 : 1 ≤ F) (h2 : F ≤ 6) : F = 1 ∨ F = 2 ∨ F = 3 ∨ F = 4 ∨ F = 5 ∨ F = 6 := by omega
theorem tok_glyF {F : Int} (h1 : 1 ≤ F) (h2 : F ≤ 6) (x : List UInt8) : tok (glyF F ++ x) = (tok x).map (⟨3, glyF F, 0⟩ :: ·) := by
  rcases six h1 h2 with rfl | rfl | rfl | rfl | rfl | rfl
  · exact tok_up x
  · exact tok_dn x
  · exact tok_rv x
  · exact tok_tn x
  · exact tok_rh x
  · exact tok_cm x
theorem ax_in {F ax : Int} (h : axOk F ax) : ax = -1 ∨ (0 ≤ ax ∧ ax ≤ 15) := by unfold axOk at h; omega
theorem tok_axS {ax : Int} (h : ax = -1 ∨ (0 ≤ ax ∧ ax ≤ 15)) (x : List UInt8) : tok (axS ax ++ x) = (tok x).map (axK ax ++ ·) := by
  unfold axS axK
  rcases h with rfl | ⟨h1, h2⟩
  · rw [if_neg (by decide), if_neg (by decide)]
    simp only [List.nil_append]
    cases tok x <;> rfl
  · rw [if_pos h1, if_pos h1, List.cons_append, tok_lb, List.append_assoc, List.cons_append, List.nil_append, tok_join (tok_dec ax (by omega) (by omega)) (c := 93) (.inl (by decide)) (by decide), tok_rb]
    cases tok x <;> rfl
theorem tok_fnS {F ax : Int} (h1 : 1 ≤ F) (h2 : F ≤ 6) (h : axOk F ax) (x : List UInt8) : tok (fnS F ax ++ x) = (tok x).map (fnK F ax ++ ·) := by
  unfold fnS fnK
  rw [List.append_assoc, tok_glyF h1 h2, tok_axS (ax_in h)]
  cases tok x <;> rfl
theorem fnS_front {F ax : Int} (h1 : 1 ≤ F) (h2 : F ≤ 6) (x : List UInt8) : ∃ c r, fnS F ax ++ x = c :: r ∧ sepB c ∧ wpB c = false := by
  unfold fnS
  rcases six h1 h2 with rfl | rfl | rfl | rfl | rfl | rfl
  all_goals exact ⟨_, _, rfl, by unfold sepB; decide, by decide⟩
theorem tok_litB : ∀ ns : List Int, (∀ n ∈ ns, -9223372036854775808 ≤ n ∧ n ≤ 9223372036854775807) → tok (litB ns) = some (ns.map numK)
  | [], _ => rfl
  | n :: r, h => by
    have ih := tok_litB r fun x hx => h x (by simp [hx])
    have hn := h n (by simp)
    show tok (32 :: (decL n ++ litB r)) = _
    rw [tok_bl (c := 32) (by decide)]
    cases r with
    | nil => show tok (decL n ++ []) = _; rw [List.append_nil, tok_dec n hn.1 hn.2]; rfl
    | cons m q =>
      show tok (decL n ++ 32 :: (decL m ++ litB q)) = _
      rw [tok_join (tok_dec n hn.1 hn.2) (c := 32) (.inl (by decide)) (by decide)]
      rw [show tok (32 :: (decL m ++ litB q)) = some ((m :: q).map numK) from ih]
      rfl
theorem tok_litS {ns : List Int} (h : ∀ n ∈ ns, -9223372036854775808 ≤ n ∧ n ≤ 9223372036854775807) : tok (litS ns) = some (litK ns) := by
  cases ns with
  | nil => exact gls_one gZil (by decide)
  | cons n r =>
    have := tok_litB (n :: r) h
    rw [show litB (n :: r) = 32 :: (decL n ++ litB r) from rfl, tok_bl (c := 32) (by decide)] at this
    rw [show litS (n :: r) = decL n ++ litB r from rfl, this]
    unfold litK
    rw [if_neg (by simp)]
theorem glyF_fn {F : Int} (h1 : 1 ≤ F) (h2 : F ≤ 6) : fnT (glyF F) = F := by
  rcases six h1 h2 with rfl | rfl | rfl | rfl | rfl | rfl <;> decide
theorem fn_fnK {F ax : Int} (h1 : 1 ≤ F) (h2 : F ≤ 6) (h : axOk F ax) : ps.Fn (fnK F ax) F ax := by
  unfold fnK axK
  rcases h with rfl | ⟨⟨h3, h4⟩, h5⟩
  · exact .inl ⟨_, by rw [if_neg (by decide)], rfl, glyF_fn h1 h2, by omega, rfl⟩
  · exact .inr ⟨_, _, _, _, by rw [if_pos h3], rfl, glyF_fn h1 h2, h5, ⟨rfl, rfl⟩, rfl, h3, h4, ⟨rfl, rfl⟩, rfl⟩
theorem par_op {L : List Tk} {T : Tr} (h1 : G true L T) (h2 : T.kind ≤ 2 → G false L T) : G false (parK T.kind L) T := by
  unfold parK
  by_cases h : 2 < T.kind
  · rw [if_pos h]; exact G.paren _ _ _ _ is_L is_R h1
  · rw [if_neg h]; exact h2 (by omega)
theorem tok_par {k : Int} {x : List UInt8} {L : List Tk} (h : tok x = some L) : tok (par k x) = some (parK k L) := by
  unfold par parK
  by_cases hk : 2 < k
  · rw [if_pos hk, if_pos hk, tok_lp, show x ++ [41] = x ++ 41 :: [] from rfl, tok_behind h [] tok_nil]; rfl
  · rw [if_neg hk, if_neg hk, h]
/-- The text of a right tree has tokens that the grammar reads as the tree. -/
theorem show_G {T : Tr} (h : R T) : ∃ L, tok (showT T) = some L ∧ G true L T ∧ (T.kind ≤ 2 → G false L T) := by
  induction h with
  | nm l h =>
    obtain ⟨h1, h2⟩ := name_word h
    refine ⟨[⟨1, l, 0⟩], by rw [show_nm]; exact tok_name h1 h2, G.op _ _ (G.name ⟨1, l, 0⟩ rfl), fun _ => G.name ⟨1, l, 0⟩ rfl⟩
  | lit ns h =>
    have hg : G false (litK ns) (lit ns) := by
      unfold litK
      by_cases h0 : ns = []
      · subst h0; exact G.zil _ ⟨rfl, rfl⟩
      · rw [if_neg h0]
        have := G.nums (ns.map numK) (by simpa using h0) (fun t ht => by
          obtain ⟨n, _, rfl⟩ := List.mem_map.1 ht; rfl)
        rwa [List.map_map, show Tk.n ∘ numK = id from rfl, List.map_id] at this
    exact ⟨litK ns, by rw [show_lit]; exact tok_litS h, G.op _ _ hg, fun _ => hg⟩
  | mon F ax T h1 h2 h3 h4 _ ih =>
    obtain ⟨L, hL, hG, _⟩ := ih
    refine ⟨fnK F ax ++ L, by rw [show_mon, tok_fnS h1 h2 h3, hL]; rfl, G.mon _ _ _ _ _ (fn_fnK h1 h2 h3) h4 hG, fun h => ?_⟩
    have : (3 : Int) ≤ 2 := h
    omega
  | dy F ax u T h1 h2 h3 h4 _ _ ih1 ih2 =>
    obtain ⟨M, hM, hG1, hG2⟩ := ih1
    obtain ⟨L, hL, hG, _⟩ := ih2
    refine ⟨parK u.kind M ++ (fnK F ax ++ L), ?_, G.dy _ _ _ _ _ _ _ (par_op hG1 hG2) (fn_fnK h1 h2 h3) (by omega) hG, fun h => ?_⟩
    · rw [show_dy]
      obtain ⟨c, r, e, hc, hw⟩ := fnS_front (ax := ax) h1 h2 (showT T)
      have ht := tok_fnS h1 h2 h3 (showT T)
      rw [e] at ht ⊢
      rw [tok_join (tok_par hM) hc hw, ht, hL]
      rfl
    · have : (4 : Int) ≤ 2 := h
      omega
theorem show_ex {T : Tr} (h : R T) : ∃ L, tok (showT T) = some L ∧ exT L = some T := by
  obtain ⟨L, h1, h2, _⟩ := show_G h
  exact ⟨L, h1, exT_iff.2 h2⟩
/-- Different right trees have different texts. -/
theorem show_inj {A B : Tr} (ha : R A) (hb : R B) (h : showT A = showT B) : A = B := by
  obtain ⟨L, h1, h2⟩ := show_ex ha
  obtain ⟨M, h3, h4⟩ := show_ex hb
  rw [h, h3] at h1
  injection h1 with h1
  subst h1
  rw [h2] at h4
  exact Option.some.inj h4
theorem show_expr {T : Tr} (h : R T) (hd : deepT T ≤ 100) (hl : (showT T).length ≤ 65536) : lineOf unN (showT T) = ([], T, 0) := by
  obtain ⟨L, h1, h2⟩ := show_ex h
  exact ok_line (nmF := unN) ((toks_tok hl).trans h1) h2 (by omega)
theorem show_line {nm : List UInt8} {T : Tr} (hn : nm = [] ∨ nameB nm = true) (h : R T) (hd : deepT T ≤ 100) (hl : (lnS nm T).length ≤ 65536) : lineOf asN (lnS nm T) = (nm, T, 0) := by
  unfold lnS at hl ⊢
  by_cases h0 : nm = []
  · subst h0
    rw [if_pos rfl] at hl ⊢
    exact assign_same (show_expr h hd hl)
  · rw [if_neg h0] at hl ⊢
    have hb := hn.resolve_left h0
    obtain ⟨n1, n2⟩ := name_word hb
    obtain ⟨L, h1, h2⟩ := show_ex h
    have ht : toks (nm ++ (gArr ++ showT T)) = some (⟨1, nm, 0⟩ :: ⟨3, gArr, 0⟩ :: L) := by
      rw [toks_tok hl]
      show tok (nm ++ 226 :: (134 :: 144 :: showT T)) = _
      rw [tok_join (tok_name n1 n2) (c := 226) (.inr (by decide)) (by decide), tok_ar, h1]
      rfl
    have e : asN (⟨1, nm, 0⟩ :: ⟨3, gArr, 0⟩ :: L) = (nm, L) := by
      show (if (1 : Int) = 1 ∧ gArr = gArr then (nm, L) else (([] : List UInt8), (⟨1, nm, 0⟩ :: ⟨3, gArr, 0⟩ :: L : List Tk))) = _
      exact if_pos ⟨rfl, rfl⟩
    have := ok_line (nmF := asN) ht (by rw [e]; exact h2) (by omega)
    rwa [e] at this

/-! ### What is read is right, and its text is not long -/
theorem g_R {b : Bool} {l : List Tk} {T : Tr} (h : G b l T) (hn : ∀ t ∈ l, t.k = 1 → nameB t.t = true) (hr : ∀ t ∈ l, -9223372036854775808 ≤ t.n ∧ t.n ≤ 9223372036854775807) : R T := by
  have fn : ∀ {f : List Tk} {F ax : Int}, ps.Fn f F ax → 1 ≤ F ∧ F ≤ 6 ∧ axOk F ax := by
    intro f F ax h
    have := fn_fits h
    unfold axOk
    omega
  induction h with
  | name t h => exact R.nm t.t (hn t (by simp) h)
  | zil t h => exact R.lit [] (fun n hn => by simp at hn)
  | nums l h1 h2 =>
    refine R.lit _ fun n hn => ?_
    obtain ⟨t, ht, rfl⟩ := List.mem_map.1 hn
    exact hr t ht
  | paren a b l T _ _ _ ih => exact ih (fun t ht => hn t (by simp [ht])) (fun t ht => hr t (by simp [ht]))
  | op l T _ ih => exact ih hn hr
  | mon f F ax l T hf hm _ ih =>
    obtain ⟨f1, f2, f3⟩ := fn hf
    exact R.mon F ax T f1 f2 f3 hm (ih (fun t ht => hn t (by simp [ht])) (fun t ht => hr t (by simp [ht])))
  | dy o u f F ax l T hu hf hk _ ih1 ih2 =>
    obtain ⟨f1, f2, f3⟩ := fn hf
    have hku := g_kind hu
    exact R.dy F ax u T f1 f2 f3 (by omega) (ih1 (fun t ht => hn t (by simp [ht])) (fun t ht => hr t (by simp [ht]))) (ih2 (fun t ht => hn t (by simp [ht])) (fun t ht => hr t (by simp [ht])))
theorem wid_append (a b : List Tk) : (widF (a ++ b)).length = (widF a).length + (widF b).length := by
  induction a with
  | nil => simp [widF]
  | cons t r ih =>
    show (t.t ++ (9 :: 32 :: widF (r ++ b))).length = (t.t ++ (9 :: 32 :: widF r)).length + _
    simp only [List.length_append, List.length_cons, ih]
    omega
theorem wid_cons (t : Tk) (r : List Tk) : (widF (t :: r)).length = t.t.length + 2 + (widF r).length := by
  show (t.t ++ (9 :: 32 :: widF r)).length = _
  simp only [List.length_append, List.length_cons]
  omega
theorem par_le (k : Int) (t : List UInt8) : t.length ≤ (par k t).length ∧ (par k t).length ≤ t.length + 2 := by
  unfold par
  by_cases h : 2 < k
  · rw [if_pos h]; simp only [List.length_cons, List.length_append, List.length_nil]; omega
  · rw [if_neg h]; omega
theorem fn_text {t : List UInt8} {F : Int} (h : fnT t = F) (h0 : F ≠ 0) : glyF F = t := by
  unfold fnT at h
  by_cases h1 : t = gUp
  · rw [if_pos h1] at h; subst h h1; rfl
  rw [if_neg h1] at h
  by_cases h2 : t = gDn
  · rw [if_pos h2] at h; subst h h2; rfl
  rw [if_neg h2] at h
  by_cases h3 : t = gRev
  · rw [if_pos h3] at h; subst h h3; rfl
  rw [if_neg h3] at h
  by_cases h4 : t = gTrn
  · rw [if_pos h4] at h; subst h h4; rfl
  rw [if_neg h4] at h
  by_cases h5 : t = gRho
  · rw [if_pos h5] at h; subst h h5; rfl
  rw [if_neg h5] at h
  by_cases h6 : t = gCom
  · rw [if_pos h6] at h; subst h h6; rfl
  rw [if_neg h6] at h
  exact absurd h.symm h0
theorem fn_wid {f : List Tk} {F ax : Int} (h : ps.Fn f F ax) (hd : ∀ t ∈ f, t.k = 2 → t.t = decL t.n) : (fnS F ax).length ≤ (widF f).length := by
  unfold fnS axS
  rcases h with ⟨t, rfl, _, h2, h3, rfl⟩ | ⟨t, lb, x, rb, rfl, _, h2, h3, _, h5, h6, _, _, rfl⟩
  · rw [if_neg (by decide), fn_text h2 h3, wid_cons]; simp; omega
  · have hx := hd x (by simp) h5
    rw [if_pos h6, fn_text h2 (by omega), wid_cons, wid_cons, wid_cons, ← hx]
    simp only [List.length_append, List.length_cons, List.length_nil]
    omega
theorem lit_wid : ∀ (l : List Tk), (∀ t ∈ l, t.t = decL t.n) → (litB (l.map Tk.n)).length ≤ (widF l).length
  | [], _ => Nat.le_refl _
  | t :: r, h => by
    have ih := lit_wid r fun u hu => h u (by simp [hu])
    have ht := h t (by simp)
    rw [wid_cons]
    show (32 :: (decL t.n ++ litB (r.map Tk.n))).length ≤ _
    simp only [List.length_cons, List.length_append, ← ht]
    omega
theorem litS_le (ns : List Int) : (litS ns).length ≤ 3 + (litB ns).length := by
  cases ns with
  | nil => decide
  | cons n r =>
    show (decL n ++ litB r).length ≤ 3 + (32 :: (decL n ++ litB r)).length
    simp only [List.length_cons]
    omega
theorem g_wid {b : Bool} {l : List Tk} {T : Tr} (h : G b l T) (hd : ∀ t ∈ l, t.k = 2 → t.t = decL t.n) : if b then (showT T).length ≤ (widF l).length else (par T.kind (showT T)).length ≤ (widF l).length := by
  induction h with
  | name t h =>
    simp only [Bool.false_eq_true, if_false]
    show (par 2 (showT (.node 2 0 (-1) (txt.strOf t.t) [] []))).length ≤ _
    rw [show_nm, wid_cons]
    show t.t.length ≤ _
    omega
  | zil t h =>
    simp only [Bool.false_eq_true, if_false]
    show (par 1 (showT (lit []))).length ≤ _
    rw [show_lit, wid_cons]
    show 3 ≤ _
    have : t.t = gZil := h.2
    rw [this]
    show 3 ≤ 3 + 2 + _
    omega
  | nums l h1 h2 =>
    simp only [Bool.false_eq_true, if_false]
    show (par 1 (showT (lit (l.map Tk.n)))).length ≤ _
    rw [show_lit]
    show (litS (l.map Tk.n)).length ≤ _
    have hl := lit_wid l fun t ht => hd t ht (h2 t ht)
    cases l with
    | nil => exact absurd rfl h1
    | cons t r =>
      refine Nat.le_trans ?_ hl
      show (decL t.n ++ litB (r.map Tk.n)).length ≤ (32 :: (decL t.n ++ litB (r.map Tk.n))).length
      simp only [List.length_cons]
      omega
  | paren a b l T ha hb _ ih =>
    simp only [Bool.false_eq_true, if_false]
    have h1 := ih fun t ht => hd t (by simp [ht])
    simp only [if_true] at h1
    have h2 := (par_le T.kind (showT T)).2
    rw [wid_cons, wid_append, wid_cons]
    omega
  | op l T _ ih =>
    simp only [if_true]
    have h1 := ih hd
    simp only [Bool.false_eq_true, if_false] at h1
    exact Nat.le_trans (par_le T.kind (showT T)).1 h1
  | mon f F ax l T hf hm _ ih =>
    simp only [if_true]
    have h1 := ih fun t ht => hd t (by simp [ht])
    simp only [if_true] at h1
    have h2 := fn_wid hf fun t ht => hd t (by simp [ht])
    rw [show_mon, wid_append, List.length_append]
    omega
  | dy o u f F ax l T hu hf hk _ ih1 ih2 =>
    simp only [if_true]
    have h0 := ih1 fun t ht => hd t (by simp [ht])
    simp only [Bool.false_eq_true, if_false] at h0
    have h1 := ih2 fun t ht => hd t (by simp [ht])
    simp only [if_true] at h1
    have h2 := fn_wid hf fun t ht => hd t (by simp [ht])
    rw [show_dy, wid_append, wid_append, List.length_append, List.length_append]
    omega
/-- What a text answers as a line: its tree is right, its name a name, and their text is not long. -/
theorem line_show {l nm : List UInt8} {T : Tr} (h : lineOf asN l = (nm, T, 0)) : R T ∧ deepT T ≤ 100 ∧ (nm = [] ∨ nameB nm = true) ∧ (lnS nm T).length ≤ 4 * l.length + 3 := by
  have hl := line_right h
  obtain ⟨M, ht, hx, hd, rfl⟩ := line_ok h
  have hk := (toks_ok ht).2.2.2
  have hN := tok_names l.length l M (Nat.le_refl _) hk
  have hD := tok_all (P := fun t => t.k = 2 → t.t = decL t.n) (fun l t h => fir_number h) l.length l M (Nat.le_refl _) hk
  have hI := (tok_len l.length l M (Nat.le_refl _) hk).2
  have hW := (tok_each l.length l M (Nat.le_refl _) hk).2
  have hnm : (asN M).1 = [] ∨ nameB (asN M).1 = true := by
    rcases hl with h | h
    · exact h.2.2
    · rcases h.1 with h | h
      · exact absurd h (by decide)
      · exact absurd h (by decide)
  have hA : (∀ t ∈ (asN M).2, t ∈ M) ∧ (widF (asN M).2).length ≤ (widF M).length ∧ (asN M).1.length ≤ l.length := by
    match M, hI with
    | [], _ => exact ⟨fun t h => h, Nat.le_refl _, Nat.zero_le _⟩
    | [x], _ => exact ⟨fun t h => h, Nat.le_refl _, Nat.zero_le _⟩
    | x :: a :: Q, hI =>
      show (∀ t ∈ (if x.k = 1 ∧ a.t = gArr then (x.t, Q) else (([] : List UInt8), x :: a :: Q)).2, t ∈ x :: a :: Q) ∧ (widF (if x.k = 1 ∧ a.t = gArr then (x.t, Q) else (([] : List UInt8), x :: a :: Q)).2).length ≤ _ ∧ (if x.k = 1 ∧ a.t = gArr then (x.t, Q) else (([] : List UInt8), x :: a :: Q)).1.length ≤ _
      by_cases hc : x.k = 1 ∧ a.t = gArr
      · rw [if_pos hc]
        refine ⟨fun t h => by simp [h], ?_, (hI x (by simp)).2.2.2.2⟩
        rw [wid_cons, wid_cons]
        show (widF Q).length ≤ _
        omega
      · rw [if_neg hc]
        exact ⟨fun t h => h, Nat.le_refl _, Nat.zero_le _⟩
  have hG := exT_iff.1 hx
  refine ⟨g_R hG (fun t ht hk => hN t (hA.1 t ht) hk) (fun t ht => ⟨(hI t (hA.1 t ht)).1, (hI t (hA.1 t ht)).2.1⟩), by omega, hnm, ?_⟩
  have hg := g_wid hG fun t ht => hD t (hA.1 t ht)
  simp only [if_true] at hg
  unfold lnS
  by_cases h0 : (asN M).1 = []
  · rw [if_pos h0]; omega
  · rw [if_neg h0]
    have : gArr.length = 3 := rfl
    simp only [List.length_append, this]
    omega
/-- A text that was tidied is the same line, and is not changed by tidying it again. -/
theorem tidy_again {l nm : List UInt8} {T : Tr} (h : lineOf asN l = (nm, T, 0)) (hl : l.length ≤ 2000) : lineOf asN (lnS nm T) = (nm, T, 0) := by
  obtain ⟨h1, h2, h3, h4⟩ := line_show h
  exact show_line h3 h1 h2 (by omega)
end Go.Proofs.YthgojbaindejjaaGreatDoor.sh
