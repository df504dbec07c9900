/- The five fixed texts of stage 9's laws. What the laws load of an answered tree with two operands. The trees of the grammar are right. The fixed calls that every law of stage 9 makes first. Plain mathematics of stage 9's laws: tokens of texts that are put together, and what they are as lines. Plain mathematics of stage 9's laws: lines of texts that are put together. -/
import Derived.Test.YthgojbaindejjaaGreatDoorPsText
import Derived.Test.YthgojbaindejjaaGreatDoorTreeSteps
import Derived.Test.YthgojbaindejjaaGreatDoorPsRLine
import Derived.Test.YthgojbaindejjaaGreatDoorTreeRight
import Derived.Test.YthgojbaindejjaaGreatDoorLexNam
import Derived.Test.YthgojbaindejjaaGreatDoorPsROps
import Derived.Test.YthgojbaindejjaaGreatDoorPsExpr
import Derived.Test.YthgojbaindejjaaGreatDoorAft
import Derived.Test.YthgojbaindejjaaGreatDoorLexLawMath
/- The five fixed texts of stage 9's laws. -/
namespace Go.Proofs.YthgojbaindejjaaGreatDoor.ps
open Go.ChangeShapes Go.WideShapes Go.ChangeAt Go.RowKit Go.Proofs.YthgojbaindejjaaGreatDoor.mem Go.Proofs.YthgojbaindejjaaGreatDoor.lx Go.Proofs.YthgojbaindejjaaGreatDoor.tr
set_option linter.unusedVariables false
set_option linter.unusedSimpArgs false

def x0 : List UInt8 := [50, 226, 134, 145, 120, 44, 121]
def x1 : List UInt8 := [40, 49, 32, 50, 41, 226, 141, 180, 120]
def x2 : List UInt8 := [226, 134, 145, 120]
def x3 : List UInt8 := [40, 120, 44, 121, 41, 226, 141, 180, 122]
def x4 : List UInt8 := [97, 32, 226, 134, 144, 32, 226, 140, 189, 91, 49, 93, 32, 98]
def nx (c : UInt8) : Tr := .node 2 0 (-1) (txt.strOf [c]) [] []
theorem tx0 : toks x0 = some [⟨2, [50], 2⟩, ⟨3, [226, 134, 145], 0⟩, ⟨1, [120], 0⟩, ⟨3, [44], 0⟩, ⟨1, [121], 0⟩] := by decide +kernel
theorem tx1 : toks x1 = some [⟨3, [40], 0⟩, ⟨2, [49], 1⟩, ⟨2, [50], 2⟩, ⟨3, [41], 0⟩, ⟨3, [226, 141, 180], 0⟩, ⟨1, [120], 0⟩] := by decide +kernel
theorem tx2 : toks x2 = some [⟨3, [226, 134, 145], 0⟩, ⟨1, [120], 0⟩] := by decide +kernel
theorem tx3 : toks x3 = some [⟨3, [40], 0⟩, ⟨1, [120], 0⟩, ⟨3, [44], 0⟩, ⟨1, [121], 0⟩, ⟨3, [41], 0⟩, ⟨3, [226, 141, 180], 0⟩, ⟨1, [122], 0⟩] := by decide +kernel
theorem tx4 : toks x4 = some [⟨1, [97], 0⟩, ⟨3, [226, 134, 144], 0⟩, ⟨3, [226, 140, 189], 0⟩, ⟨3, [91], 0⟩, ⟨2, [49], 1⟩, ⟨3, [93], 0⟩, ⟨1, [98], 0⟩] := by decide +kernel
theorem ln0 : lineOf unN x0 = ([], dy 1 (-1) (lit [2]) (dy 6 (-1) (nx 120) (nx 121)), 0) := by
  unfold lineOf; rw [tx0]; rfl
theorem ln1 : lineOf unN x1 = ([], dy 5 (-1) (lit [1, 2]) (nx 120), 0) := by
  unfold lineOf; rw [tx1]; rfl
theorem ln2 : lineOf unN x2 = ([], zT, 1) := by
  unfold lineOf; rw [tx2]; rfl
theorem ln3 : lineOf unN x3 = ([], zT, 1) := by
  unfold lineOf; rw [tx3]; rfl
theorem ln4 : lineOf asN x4 = ([97], mon 3 1 (nx 98), 0) := by
  unfold lineOf; rw [tx4]; rfl
end Go.Proofs.YthgojbaindejjaaGreatDoor.ps

/- What the laws load of an answered tree with two operands. -/
namespace Go.Proofs.YthgojbaindejjaaGreatDoor.ps
open Go.ChangeShapes Go.WideShapes Go.ChangeAt Go.RowKit Go.Proofs.YthgojbaindejjaaGreatDoor.mem Go.Proofs.YthgojbaindejjaaGreatDoor.lx Go.Proofs.YthgojbaindejjaaGreatDoor.tr
set_option linter.unusedVariables false
set_option linter.unusedSimpArgs false

theorem rd_fields {Q : Nat → Prop} {w : World} {T : Tr} {c0 c1 c2 c3 c4 c5 : Value} (h : RdQ Q w T (.agg #[c0, c1, c2, c3, c4, c5])) : c1 = .int .i64 T.fn ∧ ∃ A c, c4 = .slice A T.nums.length c := by
  rw [show T = .node T.kind T.fn T.axis T.name T.nums T.kids by cases T; rfl, rdQ_node] at h
  obtain ⟨A', n', c', B', m', d', h0, _, _, _, _, hr, _⟩ := h
  simp only [Value.agg.injEq, Array.mk.injEq, List.cons.injEq, and_true] at h0
  obtain ⟨rfl, rfl, rfl, rfl, rfl, rfl⟩ := h0
  exact ⟨rfl, A', c', by rw [hr.1]⟩
/-- An answer with two operands: its fields, the function of the right operand, the numbers of the left one. -/
theorem dy_kids {w w' : World} {F ax E : Int} {U V : Tr} {e : Ending} (h : TreeTo w (dy F ax U V) E e w') : ∃ A n c ad d A0 c0, e = .returned (.tuple #[.agg #[.int .i64 4, .int .i64 F, .int .i64 ax, .string ⟨#[]⟩, .slice A n c, .slice (some ad) 2 d], .int .i64 E]) ∧ 2 ≤ d ∧ ad.block < w'.heap.size ∧
    w'.cell? ⟨ad.block, ad.off + 6 + 1, none⟩ = some (.int .i64 V.fn) ∧ w'.cell? ⟨ad.block, ad.off + 4, none⟩ = some (.slice A0 U.nums.length c0) ∧ Below w.heap.size w w' := by
  obtain ⟨⟨v0, v1, v2, v3, v4, v5⟩, rfl, hu, hb⟩ := h
  unfold dy at hu
  rw [rdQ_node] at hu
  obtain ⟨A, n, c, B, m, d, h0, _, _, _, _, hr, _, _, _, _, hm, hmd, _, _, _, hL⟩ := hu
  simp only [S6.agg, Value.agg.injEq, Array.mk.injEq, List.cons.injEq, and_true] at h0
  obtain ⟨rfl, rfl, rfl, rfl, rfl, rfl⟩ := h0
  obtain ⟨ad, a0, a1, a2, a3, a4, a5, hB, hlt, x0, x1, x2, x3, x4, x5, hT⟩ := hL.kid (k := 1) (T := V) rfl
  obtain ⟨ad', b0, b1, b2, b3, b4, b5, hB', _, y0, y1, y2, y3, y4, y5, hT'⟩ := hL.kid (k := 0) (T := U) rfl
  rw [hB] at hB'
  injection hB' with hB'
  subst hB' hB
  obtain ⟨rfl, -⟩ := rd_fields hT
  obtain ⟨-, A0, c0, rfl⟩ := rd_fields hT'
  have hm2 : m = 2 := by simpa using hm.symm
  subst hm2
  refine ⟨A, n, c, ad, d, A0, c0, rfl, hmd, hlt, ?_, ?_, hb⟩
  · have e1 : (ad.add (1 * 6)) = ⟨ad.block, ad.off + 6, none⟩ := by unfold Addr.add; simp
    rw [e1] at x1
    exact x1
  · have e1 : (⟨(ad.add (0 * 6)).block, (ad.add (0 * 6)).off + 4, none⟩ : Addr) = ⟨ad.block, ad.off + 4, none⟩ := by unfold Addr.add; simp
    rw [e1] at y4
    exact y4
end Go.Proofs.YthgojbaindejjaaGreatDoor.ps

/- The trees of the grammar are right. -/
namespace Go.Proofs.YthgojbaindejjaaGreatDoor.ps
open Go.ChangeShapes Go.WideShapes Go.ChangeAt Go.RowKit Go.Proofs.YthgojbaindejjaaGreatDoor.mem Go.Proofs.YthgojbaindejjaaGreatDoor.lx Go.Proofs.YthgojbaindejjaaGreatDoor.tr
set_option linter.unusedVariables false
set_option linter.unusedSimpArgs false

theorem g_kind {b : Bool} {l : List Tk} {T : Tr} (h : G b l T) : 1 ≤ T.kind := by
  induction h with
  | name t h => show (1 : Int) ≤ 2; decide
  | zil t h => show (1 : Int) ≤ 1; decide
  | nums l h1 h2 => show (1 : Int) ≤ 1; decide
  | paren a b l T _ _ _ ih => exact ih
  | op l T _ ih => exact ih
  | mon f F ax l T hf _ _ ih => show (1 : Int) ≤ 3; decide
  | dy o u f F ax l T _ hf _ _ ih1 ih2 => show (1 : Int) ≤ 4; decide
theorem fn_fits {f : List Tk} {F ax : Int} (h : Fn f F ax) : 1 ≤ F ∧ F ≤ 6 ∧ (ax = -1 ∨ ((0 ≤ ax ∧ ax ≤ 15) ∧ (F = 3 ∨ F = 6))) := by
  rcases h with ⟨t, _, _, h3, h4, h5⟩ | ⟨t, lb, x, rb, _, _, h3, h4, _, _, h7, h8, _, h10⟩
  · have := fn_range t.t; omega
  · omega
theorem nil_empty : ((⟨#[]⟩ : ByteArray).toList == []) = true := by rw [Lib.toList_data]; rfl
theorem nodes_lit (ns : List Int) : nodesT (lit ns) = true := by
  unfold lit
  rw [nodes_node]
  have h : nodeB (.node 1 0 (-1) ⟨#[]⟩ ns []) = true := by
    unfold nodeB
    exact decide_eq_true (.inl ⟨rfl, rfl, rfl, nil_empty, rfl⟩)
  rw [h]
  simp only [nodesL]
  rfl
/-- Every node of a tree of the grammar is well-formed, if its names are names. -/
theorem g_nodes {b : Bool} {l : List Tk} {T : Tr} (h : G b l T) (hn : ∀ t ∈ l, t.k = 1 → nameB t.t = true) : nodesT T = true := by
  induction h with
  | name t h =>
    unfold nm
    rw [nodes_node]
    have h1 : nodeB (.node 2 0 (-1) (txt.strOf t.t) [] []) = true := by
      unfold nodeB
      refine decide_eq_true (.inr (.inl ⟨rfl, rfl, rfl, ?_, rfl, rfl⟩))
      rw [bl_str]
      exact hn t (by simp) h
    rw [h1]
    simp only [nodesL]
    rfl
  | zil t h => exact nodes_lit _
  | nums l h1 h2 => exact nodes_lit _
  | paren a b l T _ _ _ ih => exact ih (fun t ht => hn t (by simp [ht]))
  | op l T _ ih => exact ih hn
  | mon f F ax l T hf hm _ ih =>
    have h2 := ih (fun t ht => hn t (by simp [ht]))
    have hff := fn_fits hf
    unfold mon
    rw [nodes_node, nodesL_cons, h2]
    have h1 : nodeB (.node 3 F ax ⟨#[]⟩ [] [T]) = true := by
      unfold nodeB
      refine decide_eq_true (.inr (.inr (.inl ⟨rfl, nil_empty, rfl, rfl, ?_⟩)))
      unfold monOk at hm
      omega
    rw [h1]
    simp only [nodesL]
    rfl
  | dy o u f F ax l T hu hf hk _ ih1 ih2 =>
    have h1 := ih1 (fun t ht => hn t (by simp [ht]))
    have h2 := ih2 (fun t ht => hn t (by simp [ht]))
    have hff := fn_fits hf
    have hku := g_kind hu
    unfold dy
    rw [nodes_node, nodesL_cons, nodesL_cons, h1, h2]
    have h1 : nodeB (.node 4 F ax ⟨#[]⟩ [] [u, T]) = true := by
      unfold nodeB
      refine decide_eq_true (.inr (.inr (.inr ⟨rfl, nil_empty, rfl, rfl, hff.1, hff.2.1, hff.2.2, ?_⟩)))
      show F = 6 ∨ u.kind = 1 ∨ u.kind = 2
      omega
    rw [h1]
    simp only [nodesL]
    rfl
/-- A tree of tokens that is not too deep is right. -/
theorem right_of {l : List Tk} {T : Tr} (h : exT l = some T) (hd : ¬ 100 < deepT T) (hn : ∀ t ∈ l, t.k = 1 → nameB t.t = true) : rightT T = true := by
  unfold rightT
  rw [g_nodes (exT_iff.1 h) hn, decide_eq_true (by omega)]
  rfl
theorem tw_tw (p : UInt8 → Bool) : ∀ l : List UInt8, (l.takeWhile p).takeWhile p = l.takeWhile p
  | [] => rfl
  | c :: r => by
    cases h : p c
    · simp [List.takeWhile_cons, h]
    · simp only [List.takeWhile_cons, h, if_true, tw_tw p r]
theorem word_word {l : List UInt8} (h : wordL l ≠ []) : nameB (wordL l) = true := by
  have e : wordL (wordL l) = wordL l := by
    unfold wordL at h ⊢
    by_cases hd : (l.takeWhile wpB).takeWhile digB = []
    · rw [if_pos hd, tw_tw, if_pos hd]
    · rw [if_neg hd] at h; exact absurd rfl h
  unfold nameB
  rw [e, decide_eq_true h]
  simp
theorem fir_name {l : List UInt8} {t : Tk} (h : fir l = some t) (hk : t.k = 1) : nameB t.t = true := by
  unfold fir at h
  by_cases hw : wordL l ≠ []
  · rw [if_pos hw] at h
    injection h with h
    subst h
    exact word_word hw
  · rw [if_neg hw] at h
    cases hn : numB (digL l) (negB l) with
    | some n =>
      rw [hn] at h
      injection h with h
      subst h
      exact absurd hk (by show ¬ (2 : Int) = 1; decide)
    | none =>
      rw [hn] at h
      have h' : (if glyL l ≠ [] then some (⟨3, glyL l, 0⟩ : Tk) else none) = some t := h
      by_cases hg : glyL l ≠ []
      · rw [if_pos hg] at h'
        injection h' with h'
        subst h'
        exact absurd hk (by show ¬ (3 : Int) = 1; decide)
      · rw [if_neg hg] at h'; cases h'
/-- The names of a text are names. -/
theorem tok_names : ∀ (n : Nat) (l : List UInt8) (L : List Tk), l.length ≤ n → tok l = some L → ∀ t ∈ L, t.k = 1 → nameB t.t = true
  | n, [], L, _, h => by rw [tok_nil] at h; injection h with h; subst h; exact fun t ht => by cases ht
  | 0, c :: r, L, hn, h => by simp at hn
  | n + 1, c :: r, L, hn, h => by
    simp only [List.length_cons] at hn
    cases hb : blB c
    · cases hf : fir (c :: r) with
      | none => rw [tok_none hb hf] at h; cases h
      | some t =>
        rw [tok_some hb hf] at h
        have hl := fir_len hf
        simp only [List.length_cons] at hl
        cases hd : tok ((c :: r).drop t.t.length) with
        | none => rw [hd] at h; cases h
        | some M =>
          rw [hd] at h
          injection h with h
          subst h
          have hdl : ((c :: r).drop t.t.length).length = r.length + 1 - t.t.length := by rw [List.length_drop, List.length_cons]
          have ih := tok_names n _ M (by omega) hd
          intro u hu hk
          rcases List.mem_cons.1 hu with rfl | hu
          · exact fir_name hf hk
          · exact ih u hu hk
    · rw [tok_bl hb] at h
      exact tok_names n r L (by omega) h
/-- What Line answers is right. -/
theorem line_right {l : List UInt8} {nm : List UInt8} {T : Tr} {E : Int} (h : lineOf asN l = (nm, T, E)) : (E = 0 ∧ rightT T = true ∧ (nm = [] ∨ nameB nm = true)) ∨ ((E = 1 ∨ E = 7) ∧ nm = [] ∧ T = zT) := by
  unfold lineOf at h
  cases ht : toks l with
  | none => rw [ht] at h; injection h with h1 h2; injection h2 with h2 h3; exact .inr ⟨.inl h3.symm, h1.symm, h2.symm⟩
  | some M =>
    rw [ht] at h
    simp only [] at h
    have hN := tok_names l.length l M (Nat.le_refl _) (toks_ok ht).2.2.2
    have hA : (∀ t ∈ (asN M).2, t ∈ M) ∧ ((asN M).1 = [] ∨ nameB (asN M).1 = true) := by
      match M, hN with
      | [], _ => exact ⟨fun t h => h, .inl rfl⟩
      | [x], _ => exact ⟨fun t h => h, .inl rfl⟩
      | x :: a :: R, hN =>
        show (∀ t ∈ (if x.k = 1 ∧ a.t = gArr then (x.t, R) else ([], x :: a :: R)).2, t ∈ x :: a :: R) ∧ ((if x.k = 1 ∧ a.t = gArr then (x.t, R) else ([], x :: a :: R)).1 = [] ∨ nameB (if x.k = 1 ∧ a.t = gArr then (x.t, R) else ([], x :: a :: R)).1 = true)
        by_cases hc : x.k = 1 ∧ a.t = gArr
        · rw [if_pos hc]
          exact ⟨fun t h => by simp [h], .inr (hN x (by simp) hc.1)⟩
        · rw [if_neg hc]
          exact ⟨fun t h => h, .inl rfl⟩
    cases he : exT (asN M).2 with
    | none => rw [he] at h; injection h with h1 h2; injection h2 with h2 h3; exact .inr ⟨.inl h3.symm, h1.symm, h2.symm⟩
    | some U =>
      rw [he] at h
      simp only [] at h
      by_cases hd : 100 < deepT U
      · rw [if_pos hd] at h; injection h with h1 h2; injection h2 with h2 h3; exact .inr ⟨.inr h3.symm, h1.symm, h2.symm⟩
      · rw [if_neg hd] at h; injection h with h1 h2; injection h2 with h2 h3
        subst h1 h2
        exact .inl ⟨h3.symm, right_of he hd (fun t ht hk => hN t (hA.1 t ht) hk), hA.2⟩
end Go.Proofs.YthgojbaindejjaaGreatDoor.ps

/- The fixed calls that every law of stage 9 makes first. -/
namespace Go.Proofs.YthgojbaindejjaaGreatDoor.ps
open Go.ChangeShapes Go.WideShapes Go.ChangeAt Go.RowKit Go.Proofs.YthgojbaindejjaaGreatDoor.mem Go.Proofs.YthgojbaindejjaaGreatDoor.lx Go.Proofs.YthgojbaindejjaaGreatDoor.tr
set_option linter.unusedVariables false
set_option linter.unusedSimpArgs false

theorem toList_str (l : List UInt8) : (txt.strOf l).toList = l := by rw [Lib.toList_data]; exact bl_str l
/-- A cell of a world, and its block is there. -/
def Cel (W : World) (a : Addr) (x : Value) : Prop := a.block < W.heap.size ∧ W.cell? a = some x
theorem Cel.below {W W' : World} {a : Addr} {x : Value} (h : Cel W a x) (hb : Below W.heap.size W W') : Cel W' a x := ⟨Nat.lt_of_lt_of_le h.1 hb.size, (hb.cell h.1).trans h.2⟩
theorem tree_six {w w' : World} {T : Tr} {E : Int} {e : Ending} (h : TreeTo w T E e w') : ∃ k f a s A n c B m d, e = .returned (.tuple #[.agg #[.int .i64 k, .int .i64 f, .int .i64 a, .string s, .slice A n c, .slice B m d], .int .i64 E]) ∧ Below w.heap.size w w' := by
  obtain ⟨u, rfl, hu, hb⟩ := h
  obtain ⟨k, f, a, s, A, n, c, B, m, d, rfl, -⟩ := RdQ_six hu
  exact ⟨k, f, a, s, A, n, c, B, m, d, rfl, hb⟩
/-- An answered line whose tree has one operand. -/
theorem line_one {w w' : World} {nm : List UInt8} {F ax E : Int} {T : Tr} {e : Ending} (h : ReadTo w (nm, mon F ax T, E) e w') : ∃ A n c B d, e = .returned (.tuple #[.agg #[.string (txt.strOf nm), .int .i64 3, .int .i64 F, .int .i64 ax, .string ⟨#[]⟩, .slice A n c, .slice B 1 d], .int .i64 E]) ∧ Below w.heap.size w w' := by
  obtain ⟨⟨v0, v1, v2, v3, v4, v5⟩, rfl, hu, hb⟩ := h
  simp only [] at hu
  unfold mon at hu
  rw [rdQ_node] at hu
  obtain ⟨A, n, c, B, m, d, h0, _, _, _, _, hr, _, _, _, _, hm, hmd, _, _, _, hL⟩ := hu
  simp only [S6.agg, Value.agg.injEq, Array.mk.injEq, List.cons.injEq, and_true] at h0
  obtain ⟨rfl, rfl, rfl, rfl, rfl, rfl⟩ := h0
  have hm2 : m = 1 := by simpa using hm.symm
  subst hm2
  exact ⟨A, n, c, B, d, rfl, hb⟩
theorem ex0 (W : World) (h : Lays W) : Calls Tryz.prog 14 #[.string (txt.strOf [50, 226, 134, 145, 120, 44, 121])] W (TreeTo W (dy 1 (-1) (lit [2]) (dy 6 (-1) (nx 120) (nx 121))) 0) := by
  have := expr_text x0 (by decide) W h; rwa [ln0] at this
theorem ex1 (W : World) (h : Lays W) : Calls Tryz.prog 14 #[.string (txt.strOf [40, 49, 32, 50, 41, 226, 141, 180, 120])] W (TreeTo W (dy 5 (-1) (lit [1, 2]) (nx 120)) 0) := by
  have := expr_text x1 (by decide) W h; rwa [ln1] at this
theorem ex2 (W : World) (h : Lays W) : Calls Tryz.prog 14 #[.string (txt.strOf [226, 134, 145, 120])] W (TreeTo W zT 1) := by
  have := expr_text x2 (by decide) W h; rwa [ln2] at this
theorem ex3 (W : World) (h : Lays W) : Calls Tryz.prog 14 #[.string (txt.strOf [40, 120, 44, 121, 41, 226, 141, 180, 122])] W (TreeTo W zT 1) := by
  have := expr_text x3 (by decide) W h; rwa [ln3] at this
theorem ex4 (W : World) (h : Lays W) : Calls Tryz.prog 15 #[.string (txt.strOf [97, 32, 226, 134, 144, 32, 226, 140, 189, 91, 49, 93, 32, 98])] W (ReadTo W ([97], mon 3 1 (nx 98), 0)) := by
  have := line_any x4 (by decide) W h; rwa [ln4] at this
end Go.Proofs.YthgojbaindejjaaGreatDoor.ps

/- Plain mathematics of stage 9's laws: tokens of texts that are put together, and what they are as lines. -/
namespace Go.Proofs.YthgojbaindejjaaGreatDoor.ps
open Go.Proofs.YthgojbaindejjaaGreatDoor.lx Go.Proofs.YthgojbaindejjaaGreatDoor.tr
set_option linter.unusedVariables false
set_option linter.unusedSimpArgs false

theorem gls_one : ∀ g ∈ gls, tok g = some [⟨3, g, 0⟩] := by decide +kernel
theorem word_self {l : List UInt8} (h : wordL l ≠ []) : wordL (wordL l) = wordL l := by
  unfold wordL at h ⊢
  by_cases hd : (l.takeWhile wpB).takeWhile digB = []
  · rw [if_pos hd, tw_tw, if_pos hd]
  · rw [if_neg hd] at h; exact absurd rfl h
/-- The text of a token is this token. -/
theorem fir_one {l : List UInt8} {t : Tk} (h : fir l = some t) : tok t.t = some [t] := by
  have hg := (fir_ok h).2
  unfold fir at h
  by_cases hw : wordL l ≠ []
  · rw [if_pos hw] at h
    injection h with h
    subst h
    exact tok_name hw (word_self hw)
  · rw [if_neg hw] at h
    cases hn : numB (digL l) (negB l) with
    | some n =>
      rw [hn] at h
      injection h with h
      subst h
      have hb := numB_bounds hn
      have e := numB_decL hn
      show tok (preL l ++ digL l) = some [⟨2, preL l ++ digL l, n⟩]
      have e2 : preL l ++ digL l = decL n := by rw [e]; unfold preL; rfl
      rw [e2]
      exact tok_dec n hb.1 hb.2
    | none =>
      rw [hn] at h
      have h' : (if glyL l ≠ [] then some (⟨3, glyL l, 0⟩ : Tk) else none) = some t := h
      by_cases hg' : glyL l ≠ []
      · rw [if_pos hg'] at h'
        injection h' with h'
        subst h'
        exact gls_one _ (hg.1 rfl)
      · rw [if_neg hg'] at h'; cases h'
theorem sum_drop {l : List UInt8} {t : Tk} {r : List UInt8} (h : l = t.t ++ r) : l.drop t.t.length = r := by rw [h]; simp
/-- The tokens' texts with blanks between them. -/
def widF : List Tk → List UInt8
  | [] => []
  | t :: r => t.t ++ (9 :: 32 :: widF r)
/-- Each token is its text's, and together they take no more than the text and two bytes each. -/
theorem tok_each : ∀ (n : Nat) (l : List UInt8) (L : List Tk), l.length ≤ n → tok l = some L → (∀ t ∈ L, tok t.t = some [t]) ∧ (widF L).length ≤ 3 * l.length := by
  intro n
  induction n with
  | zero =>
    intro l L hl h
    obtain rfl : l = [] := List.eq_nil_of_length_eq_zero (by omega)
    rw [tok_nil] at h
    injection h with h
    subst h
    exact ⟨fun t ht => by simp at ht, by simp [widF]⟩
  | succ n ih =>
    intro l L hl h
    cases l with
    | nil =>
      rw [tok_nil] at h
      injection h with h
      subst h
      exact ⟨fun t ht => by simp at ht, by simp [widF]⟩
    | cons c r =>
      cases hb : blB c with
      | true =>
        rw [tok_bl hb] at h
        obtain ⟨h1, h2⟩ := ih r L (by simp at hl; omega) h
        exact ⟨h1, by simp; omega⟩
      | false =>
        cases hf : fir (c :: r) with
        | none => rw [tok_none hb hf] at h; cases h
        | some t =>
          rw [tok_some hb hf] at h
          have hlen := fir_len hf
          cases hr : tok ((c :: r).drop t.t.length) with
          | none => rw [hr] at h; cases h
          | some M =>
            rw [hr] at h
            injection h with h
            subst h
            obtain ⟨h1, h2⟩ := ih _ M (by rw [List.length_drop]; omega) hr
            refine ⟨fun u hu => ?_, ?_⟩
            · rcases List.mem_cons.1 hu with rfl | hu
              · exact fir_one hf
              · exact h1 u hu
            · rw [List.length_drop] at h2
              show (t.t ++ (9 :: 32 :: widF M)).length ≤ _
              simp only [List.length_append, List.length_cons] at *
              omega
theorem tok_widF : ∀ (L : List Tk), (∀ t ∈ L, tok t.t = some [t]) → tok (widF L) = some L
  | [], _ => rfl
  | t :: r, h => by
    show tok (t.t ++ 9 :: (32 :: widF r)) = some (t :: r)
    rw [tok_sep (c := 9) (by decide) (by decide) t.t.length t.t (Nat.le_refl _), h t (by simp), tok_bl (c := 9) (by decide), tok_bl (c := 32) (by decide), tok_widF r (fun u hu => h u (by simp [hu]))]
    rfl
theorem tok_wide {l : List UInt8} {L : List Tk} (h : tok l = some L) : tok (32 :: widF L) = some L := by
  rw [tok_bl (c := 32) (by decide)]
  exact tok_widF L (tok_each l.length l L (Nat.le_refl _) h).1
/-- A glyph in front of a text. -/
theorem gly_front (g : List UInt8) (x : List UInt8) (c : UInt8) (r : List UInt8) (hg : g = c :: r) (hl : letB c = false) (hb : blB c = false) (hd : digL (g ++ x) = []) (hy : glyL (g ++ x) = g) : tok (g ++ x) = (tok x).map (⟨3, g, 0⟩ :: ·) := by
  subst hg
  have hf : fir ((c :: r) ++ x) = some ⟨3, c :: r, 0⟩ := by
    rw [List.cons_append] at hd hy ⊢
    rw [fir_gly hl hd, hy, if_neg (by simp)]
  rw [List.cons_append] at hf ⊢
  rw [tok_some hb hf]
  show (tok ((c :: (r ++ x)).drop (c :: r).length)).map _ = _
  rw [← List.cons_append, List.drop_left]
theorem tok_lp (x : List UInt8) : tok (40 :: x) = (tok x).map (⟨3, gL, 0⟩ :: ·) := gly_front [40] x 40 [] rfl (by decide) (by decide) rfl rfl
theorem tok_rp (x : List UInt8) : tok (41 :: x) = (tok x).map (⟨3, gR, 0⟩ :: ·) := gly_front [41] x 41 [] rfl (by decide) (by decide) rfl rfl
theorem tok_cm (x : List UInt8) : tok (44 :: x) = (tok x).map (⟨3, gCom, 0⟩ :: ·) := gly_front [44] x 44 [] rfl (by decide) (by decide) rfl rfl
theorem tok_lb (x : List UInt8) : tok (91 :: x) = (tok x).map (⟨3, gLB, 0⟩ :: ·) := gly_front [91] x 91 [] rfl (by decide) (by decide) rfl rfl
theorem tok_rb (x : List UInt8) : tok (93 :: x) = (tok x).map (⟨3, gRB, 0⟩ :: ·) := gly_front [93] x 93 [] rfl (by decide) (by decide) rfl rfl
theorem tok_rv (x : List UInt8) : tok (226 :: 140 :: 189 :: x) = (tok x).map (⟨3, gRev, 0⟩ :: ·) := gly_front [226, 140, 189] x 226 [140, 189] rfl (by decide) (by decide) rfl rfl
theorem tok_ar (x : List UInt8) : tok (226 :: 134 :: 144 :: x) = (tok x).map (⟨3, gArr, 0⟩ :: ·) := gly_front [226, 134, 144] x 226 [134, 144] rfl (by decide) (by decide) rfl rfl
end Go.Proofs.YthgojbaindejjaaGreatDoor.ps

/- Plain mathematics of stage 9's laws: lines of texts that are put together. -/
namespace Go.Proofs.YthgojbaindejjaaGreatDoor.ps
open Go.Proofs.YthgojbaindejjaaGreatDoor.lx Go.Proofs.YthgojbaindejjaaGreatDoor.tr
set_option linter.unusedVariables false
set_option linter.unusedSimpArgs false

theorem toks_tok {l : List UInt8} (h : l.length ≤ 65536) : toks l = tok l := by unfold toks; rw [if_neg (by omega)]
/-- The line of tokens. -/
def lnT (nmF : List Tk → List UInt8 × List Tk) (M : List Tk) : List UInt8 × Tr × Int := match exT (nmF M).2 with
  | none => ([], zT, 1)
  | some T => if 100 < deepT T then ([], zT, 7) else ((nmF M).1, T, 0)
theorem line_some {nmF : List Tk → List UInt8 × List Tk} {l : List UInt8} {M : List Tk} (h : toks l = some M) : lineOf nmF l = lnT nmF M := by unfold lineOf lnT; rw [h]; rfl
theorem line_none {nmF : List Tk → List UInt8 × List Tk} {l : List UInt8} (h : toks l = none) : lineOf nmF l = ([], zT, 1) := by unfold lineOf; rw [h]
theorem as_len : ∀ M : List Tk, (asN M).2.length ≤ M.length
  | [] => Nat.le_refl _
  | [x] => Nat.le_refl _
  | x :: a :: R => by
    show (if x.k = 1 ∧ a.t = gArr then (x.t, R) else (([] : List UInt8), x :: a :: R)).2.length ≤ _
    by_cases hc : x.k = 1 ∧ a.t = gArr
    · rw [if_pos hc]; simp; omega
    · rw [if_neg hc]; exact Nat.le_refl _
theorem un_len (M : List Tk) : (unN M).2.length ≤ M.length := Nat.le_refl _
theorem line_size {nmF : List Tk → List UInt8 × List Tk} (hF : ∀ M, (nmF M).2.length ≤ M.length) (l : List UInt8) : sizeT (lineOf nmF l).2.1 ≤ 65536 := by
  cases ht : toks l with
  | none => rw [line_none ht]; show sizeT zT ≤ 65536; decide
  | some M =>
    rw [line_some ht]
    unfold lnT
    cases he : exT (nmF M).2 with
    | none => show sizeT zT ≤ 65536; decide
    | some T =>
      simp only []
      by_cases hd : 100 < deepT T
      · rw [if_pos hd]; show sizeT zT ≤ 65536; decide
      · rw [if_neg hd]
        have h1 := g_size (exT_iff.1 he)
        have h2 := hF M
        have h3 := (toks_ok ht).2.1
        show sizeT T ≤ 65536
        omega
/-- What an expression's text answers without an error. -/
theorem line_ok {nmF : List Tk → List UInt8 × List Tk} {l nm : List UInt8} {T : Tr} (h : lineOf nmF l = (nm, T, 0)) : ∃ M, toks l = some M ∧ exT (nmF M).2 = some T ∧ ¬ 100 < deepT T ∧ nm = (nmF M).1 := by
  cases ht : toks l with
  | none => rw [line_none ht] at h; injection h with _ h; injection h with _ h; exact absurd h (by decide)
  | some M =>
    rw [line_some ht] at h
    unfold lnT at h
    cases he : exT (nmF M).2 with
    | none => rw [he] at h; injection h with _ h; injection h with _ h; exact absurd h (by decide)
    | some U =>
      rw [he] at h
      simp only [] at h
      by_cases hd : 100 < deepT U
      · rw [if_pos hd] at h; injection h with _ h; injection h with _ h; exact absurd h (by decide)
      · rw [if_neg hd] at h
        injection h with h1 h
        injection h with h2 h
        subst h2
        exact ⟨M, rfl, he, hd, h1.symm⟩
theorem ok_line {nmF : List Tk → List UInt8 × List Tk} {l : List UInt8} {M : List Tk} {T : Tr} (ht : toks l = some M) (he : exT (nmF M).2 = some T) (hd : ¬ 100 < deepT T) : lineOf nmF l = ((nmF M).1, T, 0) := by
  rw [line_some ht]
  unfold lnT
  rw [he]
  simp only []
  rw [if_neg hd]
/-! ### Blanks -/
theorem blanks_line {nmF : List Tk → List UInt8 × List Tk} {l : List UInt8} {M : List Tk} (h : toks l = some M) (hl : l.length ≤ 1000) : lineOf nmF (32 :: widF M) = lineOf nmF l := by
  have hk := (toks_ok h).2.2.2
  have hw := (tok_each l.length l M (Nat.le_refl _) hk).2
  rw [line_some h, line_some ((toks_tok (by simp; omega)).trans (tok_wide hk))]
def tL : Tk := ⟨3, gL, 0⟩
def tR : Tk := ⟨3, gR, 0⟩
theorem is_L : isG tL gL := ⟨rfl, rfl⟩
theorem is_R : isG tR gR := ⟨rfl, rfl⟩
theorem ex_paren {M : List Tk} {T : Tr} (h : exT M = some T) : exT (tL :: (M ++ [tR])) = some T := exT_iff.2 (G.op _ _ (G.paren _ _ _ _ is_L is_R (exT_iff.1 h)))
theorem tok_behind {x : List UInt8} {M : List Tk} (h : tok x = some M) (b : List UInt8) {N : List Tk} (hb : tok b = some N) : tok (x ++ 41 :: b) = some (M ++ tR :: N) := by
  rw [tok_sep (c := 41) (by decide) (by decide) x.length x (Nat.le_refl _), h, tok_rp, hb]
  rfl
theorem blanks_paren {l : List UInt8} {M : List Tk} {T : Tr} (h : toks l = some M) (hl : l.length ≤ 1000) (he : lineOf unN l = ([], T, 0)) : lineOf unN (([40, 40] ++ (32 :: widF M)) ++ [41, 41]) = ([], T, 0) := by
  obtain ⟨M', h', hx, hd, -⟩ := line_ok he
  rw [h] at h'
  injection h' with h'
  subst h'
  have hk := (toks_ok h).2.2.2
  have hw := (tok_each l.length l M (Nat.le_refl _) hk).2
  have ht : tok (([40, 40] ++ (32 :: widF M)) ++ [41, 41]) = some (tL :: ((tL :: (M ++ [tR])) ++ [tR])) := by
    show tok (40 :: 40 :: ((32 :: widF M) ++ 41 :: [41])) = _
    rw [tok_lp, tok_lp, tok_behind (tok_wide hk) [41] (N := [tR]) (by decide +kernel)]
    show some (tL :: tL :: (M ++ [tR, tR])) = _
    simp
  exact ok_line (nmF := unN) ((toks_tok (by simp; omega)).trans ht) (ex_paren (ex_paren hx)) hd
/-! ### Assignments -/
theorem g_arrow {b : Bool} {l : List Tk} {T : Tr} (h : G b l T) : ∀ t ∈ l, ¬ isG t gArr := by
  have fn : ∀ {f : List Tk} {F ax : Int}, Fn f F ax → ∀ t ∈ f, ¬ isG t gArr := by
    intro f F ax h t ht hg
    rcases h with ⟨u, rfl, _, h2, h3, _⟩ | ⟨u, lb, x, rb, rfl, _, h2, h3, h4, h5, _, _, h6, _⟩
    · obtain rfl : t = u := by simpa using ht
      rw [hg.2] at h2
      exact h3 (h2.symm.trans (by decide))
    · simp only [List.mem_cons, List.not_mem_nil, or_false] at ht
      rcases ht with rfl | rfl | rfl | rfl
      · rw [hg.2] at h2
        have : fnT gArr = 0 := by decide
        omega
      · have := hg.2.symm.trans h4.2; revert this; decide
      · have := hg.1; omega
      · have := hg.2.symm.trans h6.2; revert this; decide
  induction h with
  | name t h => intro u hu hg; obtain rfl : u = t := by simpa using hu
                have := hg.1; omega
  | zil t h => intro u hu hg; obtain rfl : u = t := by simpa using hu
               have := hg.2.symm.trans h.2; revert this; decide
  | nums l h1 h2 => intro u hu hg; have := hg.1; have := h2 u hu; omega
  | paren a b l T ha hb _ ih =>
    intro u hu hg
    simp only [List.mem_cons, List.mem_append, List.not_mem_nil, or_false] at hu
    rcases hu with rfl | hu | rfl
    · have := hg.2.symm.trans ha.2; revert this; decide
    · exact ih u hu hg
    · have := hg.2.symm.trans hb.2; revert this; decide
  | op l T _ ih => exact ih
  | mon f F ax l T hf _ _ ih =>
    intro u hu
    rcases List.mem_append.1 hu with hu | hu
    · exact fn hf u hu
    · exact ih u hu
  | dy o v f F ax l T _ hf _ _ ih1 ih2 =>
    intro u hu
    rcases List.mem_append.1 hu with hu | hu
    · exact ih1 u hu
    · rcases List.mem_append.1 hu with hu | hu
      · exact fn hf u hu
      · exact ih2 u hu
theorem gArr_gls : gArr ∈ gls := by decide
theorem as_un {M : List Tk} {T : Tr} (hok : okL M) (h : exT M = some T) : asN M = ([], M) := by
  match M, hok, h with
  | [], _, _ => rfl
  | [x], _, _ => rfl
  | x :: a :: R, hok, h =>
    show (if x.k = 1 ∧ a.t = gArr then (x.t, R) else ([], x :: a :: R)) = _
    rw [if_neg]
    rintro ⟨_, ha⟩
    have h3 : a.k = 3 := (hok a (by simp)).2.1.2 (by rw [ha]; exact gArr_gls)
    exact g_arrow (exT_iff.1 h) a (by simp) ⟨h3, ha⟩
theorem assign_same {l : List UInt8} {T : Tr} (h : lineOf unN l = ([], T, 0)) : lineOf asN l = ([], T, 0) := by
  obtain ⟨M, ht, hx, hd, -⟩ := line_ok h
  have e := as_un (toks_ok ht).1 hx
  have := ok_line (nmF := asN) ht (by rw [e]; exact hx) hd
  rwa [e] at this
theorem name_word {n : List UInt8} (h : nameB n = true) : n ≠ [] ∧ wordL n = n := by
  unfold nameB at h
  simp only [Bool.and_eq_true, decide_eq_true_eq, beq_iff_eq] at h
  obtain ⟨h1, h2⟩ := h
  exact ⟨fun e => h1 (by rw [e]; try rfl), by first | exact h2 | (subst_vars; simp_all)⟩
theorem assign_line {n s : List UInt8} (hn : nameB n = true) (hl : n.length ≤ 100) (hs : s.length ≤ 1000) :
    lineOf asN ((n ++ [32, 226, 134, 144]) ++ s) = if (lineOf unN s).2.2 = 0 then (n, (lineOf unN s).2.1, 0) else ([], zT, (lineOf unN s).2.2) := by
  obtain ⟨h1, h2⟩ := name_word hn
  have ht : toks ((n ++ [32, 226, 134, 144]) ++ s) = (toks s).map fun M => ⟨1, n, 0⟩ :: ⟨3, gArr, 0⟩ :: M := by
    rw [toks_tok (by simp; omega), toks_tok (by omega)]
    show tok ((n ++ 32 :: [226, 134, 144]) ++ s) = _
    rw [List.append_assoc, List.cons_append, tok_sep (c := 32) (by decide) (by decide) n.length n (Nat.le_refl _), tok_name h1 h2, tok_bl (c := 32) (by decide)]
    show (some _).bind (fun l => Option.map _ (tok (226 :: 134 :: 144 :: s))) = _
    rw [tok_ar]
    cases tok s <;> rfl
  cases hk : toks s with
  | none =>
    rw [hk] at ht
    rw [line_none ht, line_none hk]
    rfl
  | some M =>
    rw [hk] at ht
    rw [line_some ht, line_some hk]
    have e : asN (⟨1, n, 0⟩ :: ⟨3, gArr, 0⟩ :: M) = (n, M) := by
      show (if (1 : Int) = 1 ∧ gArr = gArr then (n, M) else (([] : List UInt8), (⟨1, n, 0⟩ :: ⟨3, gArr, 0⟩ :: M : List Tk))) = _
      exact if_pos ⟨rfl, rfl⟩
    unfold lnT
    simp only [e, unN]
    obtain ⟨o, ho⟩ : ∃ o, exT M = o := ⟨_, rfl⟩
    simp only [ho]
    cases o with
    | none => rfl
    | some T =>
      simp only []
      by_cases hd : 100 < deepT T
      · simp [hd]
      · simp [hd]
/-! ### Groups -/
theorem g_head {b : Bool} {l : List Tk} {T : Tr} (h : G b l T) : ∃ t r, l = t :: r ∧ ¬ isG t gLB := by
  induction h with
  | name t h => exact ⟨t, [], rfl, fun e => by have := e.1; omega⟩
  | zil t h => exact ⟨t, [], rfl, fun e => by have := e.2.symm.trans h.2; revert this; decide⟩
  | nums l h1 h2 =>
    cases l with
    | nil => exact absurd rfl h1
    | cons t r => exact ⟨t, r, rfl, fun e => by have := e.1; have := h2 t (by simp); omega⟩
  | paren a b l T ha hb _ ih => exact ⟨a, _, rfl, fun e => by have := e.2.symm.trans ha.2; revert this; decide⟩
  | op l T _ ih => exact ih
  | mon f F ax l T hf _ _ ih =>
    rcases hf with ⟨u, rfl, _, h2, h3, _⟩ | ⟨u, lb, x, rb, rfl, _, h2, h3, _⟩
    · exact ⟨u, l, rfl, fun e => h3 (h2.symm.trans (by rw [e.2]; decide))⟩
    · exact ⟨u, _, rfl, fun e => by rw [e.2] at h2; have : fnT gLB = 0 := by decide
                                    omega⟩
  | dy o v f F ax l T _ hf _ _ ih1 ih2 =>
    obtain ⟨t, r, rfl, h⟩ := ih1
    exact ⟨t, _, rfl, h⟩
theorem head_not {s : List UInt8} {T : Tr} (hl : s.length ≤ 1000) (h : lineOf unN s = ([], T, 0)) : ∃ c r, s = c :: r ∧ c ≠ 91 := by
  obtain ⟨M, ht, hx, hd, -⟩ := line_ok h
  obtain ⟨t, r, e, hg⟩ := g_head (exT_iff.1 (show exT M = some T from hx))
  have hk := (toks_ok ht).2.2.2
  cases s with
  | nil => rw [tok_nil] at hk; injection hk with hk; rw [← hk] at e; cases e
  | cons c q =>
    refine ⟨c, q, rfl, fun hc => ?_⟩
    subst hc
    rw [tok_lb] at hk
    cases hq : tok q with
    | none => rw [hq] at hk; cases hk
    | some N =>
      rw [hq] at hk
      injection hk with hk
      rw [← hk] at e
      injection e with e _
      exact hg (e ▸ ⟨rfl, rfl⟩)
def tC : Tk := ⟨3, gCom, 0⟩
def tV : Tk := ⟨3, gRev, 0⟩
def fAx : List Tk := [tC, ⟨3, gLB, 0⟩, ⟨2, [49], 1⟩, ⟨3, gRB, 0⟩]
theorem fn_ax : Fn fAx 6 1 := .inr ⟨tC, ⟨3, gLB, 0⟩, ⟨2, [49], 1⟩, ⟨3, gRB, 0⟩, rfl, rfl, by decide, .inr rfl, ⟨rfl, rfl⟩, rfl, by decide, by decide, ⟨rfl, rfl⟩, rfl⟩
theorem fn_rv1 : Fn [tV] 3 (-1) := .inl ⟨tV, rfl, rfl, by decide, by decide, rfl⟩
theorem tok_axis (x : List UInt8) {N : List Tk} (h : tok x = some N) : tok (44 :: 91 :: 49 :: 93 :: x) = some (fAx ++ N) := by
  rw [tok_cm, tok_lb, show (49 :: 93 :: x) = [49] ++ 93 :: x from rfl, tok_sep (c := 93) (by decide) (by decide) 1 [49] (by decide), show tok [49] = some [⟨2, [49], 1⟩] by decide +kernel, tok_rb, h]
  rfl
section
variable {s a : List UInt8} {T U : Tr} (hs : lineOf unN s = ([], T, 0)) (ha : lineOf unN a = ([], U, 0)) (ls : s.length ≤ 1000) (la : a.length ≤ 1000) (dT : deepT T ≤ 98) (dU : deepT U ≤ 98)
include hs ha ls la dT dU
theorem group_dy : lineOf unN ((([40] ++ a) ++ [41, 44, 91, 49, 93]) ++ s) = ([], dy 6 1 U T, 0) := by
  obtain ⟨M, ht, hx, hd, -⟩ := line_ok hs
  obtain ⟨N, ht', hx', hd', -⟩ := line_ok ha
  have hk : tok ((([40] ++ a) ++ [41, 44, 91, 49, 93]) ++ s) = some ((tL :: (N ++ [tR])) ++ (fAx ++ M)) := by
    have e : (([40] ++ a) ++ [41, 44, 91, 49, 93]) ++ s = 40 :: (a ++ 41 :: (44 :: 91 :: 49 :: 93 :: s)) := by simp
    rw [e, tok_lp, tok_behind (toks_ok ht').2.2.2 _ (tok_axis s (toks_ok ht).2.2.2)]
    show some (tL :: (N ++ tR :: (fAx ++ M))) = _
    simp
  exact ok_line (nmF := unN) ((toks_tok (by simp; omega)).trans hk) (exT_iff.2 (G.dy _ _ _ _ _ _ _ (G.paren _ _ _ _ is_L is_R (exT_iff.1 hx')) fn_ax (.inl rfl) (exT_iff.1 hx))) (by rw [deep_dy]; omega)
theorem group_dy2 : lineOf unN (((([40] ++ a) ++ [41, 44, 91, 49, 93, 40]) ++ s) ++ [41]) = ([], dy 6 1 U T, 0) := by
  obtain ⟨M, ht, hx, hd, -⟩ := line_ok hs
  obtain ⟨N, ht', hx', hd', -⟩ := line_ok ha
  have hk : tok (((([40] ++ a) ++ [41, 44, 91, 49, 93, 40]) ++ s) ++ [41]) = some ((tL :: (N ++ [tR])) ++ (fAx ++ (tL :: (M ++ [tR])))) := by
    have e : ((([40] ++ a) ++ [41, 44, 91, 49, 93, 40]) ++ s) ++ [41] = 40 :: (a ++ 41 :: (44 :: 91 :: 49 :: 93 :: (40 :: (s ++ 41 :: [])))) := by simp
    rw [e, tok_lp, tok_behind (toks_ok ht').2.2.2 _ (tok_axis _ (N := tL :: (M ++ [tR])) (by rw [tok_lp, tok_behind (toks_ok ht).2.2.2 [] tok_nil]; rfl))]
    show some (tL :: (N ++ tR :: (fAx ++ (tL :: (M ++ [tR]))))) = _
    simp
  exact ok_line (nmF := unN) ((toks_tok (by simp; omega)).trans hk) (exT_iff.2 (G.dy _ _ _ _ _ _ _ (G.paren _ _ _ _ is_L is_R (exT_iff.1 hx')) fn_ax (.inl rfl) (exT_iff.1 (ex_paren hx)))) (by rw [deep_dy]; omega)
end
section
variable {s : List UInt8} {T : Tr} (hs : lineOf unN s = ([], T, 0)) (ls : s.length ≤ 1000) (dT : deepT T ≤ 98)
include hs ls dT
theorem group_mon : lineOf unN ([226, 140, 189] ++ s) = ([], mon 3 (-1) T, 0) := by
  obtain ⟨M, ht, hx, hd, -⟩ := line_ok hs
  have hk : tok ([226, 140, 189] ++ s) = some ([tV] ++ M) := by
    show tok (226 :: 140 :: 189 :: s) = _
    rw [tok_rv, (toks_ok ht).2.2.2]
    rfl
  exact ok_line (nmF := unN) ((toks_tok (by simp; omega)).trans hk) (exT_iff.2 (G.mon _ _ _ _ _ fn_rv1 (.inl rfl) (exT_iff.1 hx))) (by rw [deep_mon]; omega)
theorem group_mon2 : lineOf unN (([226, 140, 189, 40] ++ s) ++ [41]) = ([], mon 3 (-1) T, 0) := by
  obtain ⟨M, ht, hx, hd, -⟩ := line_ok hs
  have hk : tok (([226, 140, 189, 40] ++ s) ++ [41]) = some ([tV] ++ (tL :: (M ++ [tR]))) := by
    show tok (226 :: 140 :: 189 :: 40 :: (s ++ 41 :: [])) = _
    rw [tok_rv, tok_lp, tok_behind (toks_ok ht).2.2.2 [] tok_nil]
    rfl
  exact ok_line (nmF := unN) ((toks_tok (by simp; omega)).trans hk) (exT_iff.2 (G.mon _ _ _ _ _ fn_rv1 (.inl rfl) (exT_iff.1 (ex_paren hx)))) (by rw [deep_mon]; omega)
end
end Go.Proofs.YthgojbaindejjaaGreatDoor.ps
