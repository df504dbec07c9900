/- The fixed examples of the chapter hold: awake answers true. -/
import Derived.Test.YtaegkiangjnmdaaBoxRef
import Derived.Test.YtaegkiangjnmdaaBoxWhole
import Derived.Test.YtaegkiangjnmdaaBoxShift
import Derived.Test.YtaegkiangjnmdaaBoxMinus
import Derived.Test.YtaegkiangjnmdaaBoxExact
import Derived.Test.YtaegkiangjnmdaaBoxKeep
import Derived.Deep.CutBlock
namespace Go.Proofs.Ytaegkiangjnmdaa.laws
open Go.ChangeShapes Go.WideShapes Go.ChangeAt Go.RowKit Go.Proofs.Ytaegkiangjnmdaa.mem Go.Proofs.Ytaegkiangjnmdaa.prod Go.Proofs.Ytaegkiangjnmdaa.shp Go.Proofs.Ytaegkiangjnmdaa.strd Go.Proofs.Ytaegkiangjnmdaa.gam Go.Proofs.Ytaegkiangjnmdaa.sml Go.Proofs.Ytaegkiangjnmdaa.all Go.Proofs.Ytaegkiangjnmdaa.odo Go.Proofs.Ytaegkiangjnmdaa.eql Go.Proofs.Ytaegkiangjnmdaa.arr Go.Proofs.Ytaegkiangjnmdaa.bx
set_option linter.unusedVariables false

/-- A variable that holds a box which reads as its lists. -/
structure KX (V : World) (b : Nat) (A : Option Addr) (n c : Nat) (B : Option Addr) (m d : Nat) (lo hi : List Int) : Prop where
  box : Box2 V b (.slice A n c) (.slice B m d)
  lo : Rd V A n lo
  hi : Rd V B m hi
  a0 : A = none → c = 0
  b0 : B = none → d = 0
theorem KX.below {V V' : World} {b n c m d : Nat} {A B : Option Addr} {lo hi : List Int} (h : KX V b A n c B m d lo hi) (hb : Below V.heap.size V V') : KX V' b A n c B m d lo hi := ⟨h.box.below hb, h.lo.below hb, h.hi.below hb, h.a0, h.b0⟩
theorem kx_new {w : World} {n c m d : Nat} {A B : Option Addr} {lo hi : List Int} (h1 : Rd w A n lo) (h2 : Rd w B m hi) (a0 : A = none → c = 0) (b0 : B = none → d = 0) (t : TypeId) : KX (w.alloc (.cells #[.slice A n c, .slice B m d] t)) w.heap.size A n c B m d lo hi :=
  ⟨box2_new _ _ _ _, h1.below (one_below _ _ _), h2.below (one_below _ _ _), a0, b0⟩
theorem own_cap {w : World} {B n c : Nat} {A : Option Addr} {xs : List Int} (h : mem.Own w B (.slice A n c) xs) : n ≤ c ∧ c ≤ maxLen ∧ (A = none → c = 0) := by
  obtain ⟨_, _, e, h1, h2, h3⟩ := h.form
  injection e with e1 e2 e3
  subst e1 e2 e3
  exact ⟨h1, h2, h3⟩

theorem meet_at {A B A' B' : Option Addr} {n c d c' d' : Nat} {al ah bl bh : List Int} {w : World} (U1 U2 : List Int) (h1 : mxL al bl = U1) (h2 : mnL ah bh = U2) (hm : insB U1 U2 U1 = true) (hr : rgtB al ah = true) (hr' : rgtB bl bh = true) (ha : Rd w A n al) (hb : Rd w B n ah) (ha' : Rd w A' n bl) (hb' : Rd w B' n bh) (hA : A = none → c = 0) (hB : B = none → d = 0) :
    Calls Try.prog 11 #[.agg #[.slice A n c, .slice B n d], .agg #[.slice A' n c', .slice B' n d']] w (MakesXB w n n U1 U2) := by
  subst h1 h2
  exact (meet_in A B A' B' n c d c' d' al ah bl bh w hr hr' ha hb ha' hb' hA hB).mono fun e w' h => by rw [hm] at h; exact h.out
theorem meet_no_at {A B A' B' : Option Addr} {n c d c' d' : Nat} {al ah bl bh : List Int} {w : World} (hm : insB (mxL al bl) (mnL ah bh) (mxL al bl) = false) (hr : rgtB al ah = true) (hr' : rgtB bl bh = true) (ha : Rd w A n al) (hb : Rd w B n ah) (ha' : Rd w A' n bl) (hb' : Rd w B' n bh) (hA : A = none → c = 0) (hB : B = none → d = 0) :
    Calls Try.prog 11 #[.agg #[.slice A n c, .slice B n d], .agg #[.slice A' n c', .slice B' n d']] w (NoX w) :=
  (meet_in A B A' B' n c d c' d' al ah bl bh w hr hr' ha hb ha' hb' hA hB).mono fun e w' h => by rw [hm] at h; exact h.out_no
theorem minus_at {A B A' B' : Option Addr} {n c d c' d' : Nat} {al ah bl bh : List Int} {w : World} (T : List Bx) (N : Nat) (hT : pcs [] [] al ah (mxL al bl) (mnL ah bh) = T) (hN : T.length = N) (hr : rgtB al ah = true) (hr' : rgtB bl bh = true) (ha : Rd w A n al) (hb : Rd w B n ah) (ha' : Rd w A' n bl) (hb' : Rd w B' n bh) (hA : A = none → c = 0) (hB : B = none → d = 0) (hcm : c ≤ maxLen) (hdm : d ≤ maxLen) (hnc : n ≤ c) (hnd : n ≤ d) (hm : insB (mxL al bl) (mnL ah bh) (mxL al bl) = true) :
    Calls Try.prog 18 #[.agg #[.slice A n c, .slice B n d], .agg #[.slice A' n c', .slice B' n d']] w fun e w' => ∃ P c, e = .returned (.slice P N c) ∧ OwnX 27 w' w.heap.size (.slice P N c) T ∧ Below w.heap.size w w' := by
  subst hT hN
  exact minus_in A B A' B' n c d c' d' al ah bl bh w hr hr' ha hb ha' hb' hA hB hcm hdm hnc hnd hm
theorem shift_at {A B : Option Addr} {n c d : Nat} {lo hi : List Int} {i z : Int} {w : World} (k : Nat) (x y : Int) (lo' hi' : List Int) (hi0 : i = (k : Int)) (h1 : lo.set k (wrap64 (x + z)) = lo') (h2 : hi.set k (wrap64 (y + z)) = hi') (hr : rgtB lo hi = true) (hk : k < n) (ha : Rd w A n lo) (hb : Rd w B n hi) (hA : A = none → c = 0) (hB : B = none → d = 0) (hx : lo[k]? = some x) (hy : hi[k]? = some y) :
    Calls Try.prog 20 #[.agg #[.slice A n c, .slice B n d], .int .i64 i, .int .i64 z] w (ShiftsTo w n lo' hi') := by
  subst h1 h2 hi0
  exact shift_in A B n c d k lo hi x y z w hr hk ha hb hA hB hx hy
theorem same_at {A B A' B' : Option Addr} {n c m d n' c' m' d' : Nat} {lo hi lo' hi' : List Int} {w : World} (r : Bool) (h : sameB lo hi lo' hi' = r) (hn : n ≤ maxLen) (hm : m ≤ maxLen) (hn' : n' ≤ maxLen) (hm' : m' ≤ maxLen) (ha : Rd w A n lo) (hb : Rd w B m hi) (ha' : Rd w A' n' lo') (hb' : Rd w B' m' hi') :
    Calls Try.prog 13 #[.agg #[.slice A n c, .slice B m d], .agg #[.slice A' n' c', .slice B' m' d']] w (Says w r) := by subst h; exact same_any A B A' B' n c m d n' c' m' d' lo hi lo' hi' w hn hm hn' hm' ha hb ha' hb'
theorem refEqual_at {A B : Option Addr} {n c m d : Nat} {xs ys : List Int} {w : World} (r : Bool) (hr : eqB xs ys = r) (hn : n ≤ maxLen) (hm : m ≤ maxLen) (hx : Rd w A n xs) (hy : Rd w B m ys) :
    Calls Try.prog 22 #[.slice A n c, .slice B m d] w (Says w r) := by subst hr; exact refEqual_any A B n c m d xs ys w hn hm hx hy
theorem size_at {A B : Option Addr} {n c d : Nat} {lo hi : List Int} {w : World} (r : Int) (h : prodL (dimsL lo hi) = r) (hr : rgtB lo hi = true) (ha : Rd w A n lo) (hb : Rd w B n hi) (hp : r ≤ 4294967296) :
    Calls Try.prog 14 #[.agg #[.slice A n c, .slice B n d]] w (NumB w r) := by subst h; exact size_any A B n c d lo hi w hr ha hb hp
theorem has_at {A B C : Option Addr} {n c d l e : Nat} {lo hi xs : List Int} {w : World} (r : Bool) (h : insB lo hi xs = r) (hn : n ≤ maxLen) (hl : l ≤ maxLen) (hr : rgtB lo hi = true) (ha : Rd w A n lo) (hb : Rd w B n hi) (hx : Rd w C l xs) :
    Calls Try.prog 16 #[.agg #[.slice A n c, .slice B n d], .slice C l e] w (Says w r) := by subst h; exact has_any A B C n c d l e lo hi xs w hn hl hr ha hb hx
theorem right_at {A B : Option Addr} {n c m d : Nat} {lo hi : List Int} {w : World} (r : Bool) (h : rgtB lo hi = r) (hn : n ≤ maxLen) (hm : m ≤ maxLen) (ha : Rd w A n lo) (hb : Rd w B m hi) :
    Calls Try.prog 8 #[.agg #[.slice A n c, .slice B m d]] w (Says w r) := by subst h; exact right_any A B n c m d lo hi w hn hm ha hb
theorem exact_at {A S : Option Addr} {n c m d Bl : Nat} {s : List Int} {L : List Bx} {w : World} (M : Nat) (r : Bool) (h : exL (strL s) (List.replicate M false) L = r) (hs : Rd w S n s) (hl : RdXs w none Bl A m L) (hn : n ≤ 16) (hn1 : 1 ≤ n) (hm : m ≤ 1048576) (hchk : chkE s = 0) (hcel : celN s = (M : Int)) (hss : ∀ x ∈ strL s, 0 ≤ x ∧ x ≤ 65536) (hsl : (strL s).length = n)
    (hr : ∀ p ∈ L, rgtB p.1 p.2 = true ∧ p.1.length = n ∧ (∀ (k : Nat) h m, p.2[k]? = some h → s[k]? = some m → h ≤ m) ∧ ∀ x ∈ rngs p.1 p.2, 0 ≤ dotL (strL s) x ∧ dotL (strL s) x < M) :
    Calls Try.prog 23 #[.slice S n c, .slice A m d] w (Says w r) := by subst h; exact exact_any A S n c m d M Bl s L w hs hl hn hn1 hm hchk hcel hss hsl hr

/-- The three boxes of the example, and the one between them. -/
def exT : List Bx := [([0, 0], [1, 3]), ([2, 0], [3, 3]), ([1, 0], [2, 1])]
theorem ex_le {h : List Int} (hh : ∀ x ∈ h, x ≤ 3) : ∀ (k : Nat) y m, h[k]? = some y → ([3, 3] : List Int)[k]? = some m → y ≤ m := by
  intro k y m h1 h2
  have := hh y (List.mem_of_getElem? h1)
  rcases k with _ | _ | k
  · simp at h2; omega
  · simp at h2; omega
  · simp at h2
theorem ex_all : ∀ p ∈ exT ++ [([1, 1], [2, 3])], rgtB p.1 p.2 = true ∧ p.1.length = 2 ∧ (∀ (k : Nat) h m, p.2[k]? = some h → ([3, 3] : List Int)[k]? = some m → h ≤ m) ∧ ∀ x ∈ rngs p.1 p.2, 0 ≤ dotL (strL [3, 3]) x ∧ dotL (strL [3, 3]) x < (9 : Nat) := by
  intro p hp
  simp only [exT, List.cons_append, List.nil_append, List.mem_cons, List.not_mem_nil, or_false] at hp
  rcases hp with rfl | rfl | rfl | rfl
  · exact ⟨by decide, rfl, ex_le (by decide), by decide⟩
  · exact ⟨by decide, rfl, ex_le (by decide), by decide⟩
  · exact ⟨by decide, rfl, ex_le (by decide), by decide⟩
  · exact ⟨by decide, rfl, ex_le (by decide), by decide⟩
theorem ex_yes : exL (strL [3, 3]) (List.replicate 9 false) (exT ++ [([1, 1], [2, 3])]) = true := by decide
theorem ex_no : exL (strL [3, 3]) (List.replicate 9 false) exT = false := by decide
theorem ex_minus : pcs [] [] [0, 0] [3, 3] (mxL [0, 0] [1, 1]) (mnL [3, 3] [2, 3]) = exT := by decide

theorem exact_yes {A S : Option Addr} {c d : Nat} {w : World} (hs : Rd w S 2 [3, 3]) (hl : RdXs w none 0 A 4 (exT ++ [([1, 1], [2, 3])])) : Calls Try.prog 23 #[.slice S 2 c, .slice A 4 d] w (Says w true) :=
  exact_at 9 true ex_yes hs hl (by omega) (by omega) (by omega) (by decide) (by decide) (by decide) (by decide) ex_all
theorem exact_no {A S : Option Addr} {c d : Nat} {w : World} (hs : Rd w S 2 [3, 3]) (hl : RdXs w none 0 A 3 exT) : Calls Try.prog 23 #[.slice S 2 c, .slice A 3 d] w (Says w false) :=
  exact_at 9 false ex_no hs hl (by omega) (by omega) (by omega) (by decide) (by decide) (by decide) (by decide) (fun p hp => ex_all p (List.mem_append_left _ hp))
theorem box_new_at {w : World} {q : Nat} {x0 x1 : Value} {t : TypeId} (hb : q = w.heap.size) : Box2 (w.alloc (.cells #[x0, x1] t)) q x0 x1 := by subst hb; exact box2_new _ _ _ _
theorem el_blk {w : World} {g g' n c : Nat} {xs : List Int} (h : Rd w (some ⟨g', 0, none⟩) n xs) (h1 : n ≤ c) (h2 : c ≤ maxLen) (hne : g' ≠ g) : El w (some g) (.slice (some ⟨g', 0, none⟩) n c) xs := by
  obtain ⟨rfl, h4⟩ := h
  refine ⟨_, c, rfl, h1, h2, (fun e => by cases e), fun k hk => ?_⟩
  obtain ⟨ad, e, hl, hc⟩ := h4 k hk
  injection e with e
  subst e
  exact ⟨_, rfl, hl, by simpa using hne, hc⟩
theorem rd_grown {w w' : World} {g q n : Nat} {xs : List Int} (h : Rd w (some ⟨q, 0, none⟩) n xs) (hg : w.grownBy w' (some g)) (hne : q ≠ g) : Rd w' (some ⟨q, 0, none⟩) n xs := by
  obtain ⟨rfl, h4⟩ := h
  exact ⟨rfl, fun k hk => by
    obtain ⟨ad, e, hl, hc⟩ := h4 k hk
    injection e with e; subst e
    exact ⟨_, rfl, Nat.lt_of_lt_of_le hl hg.size, hg.cell hc (by rw [add_at]; simpa using hne)⟩⟩
theorem row_at {w : World} {g : Nat} {us : List (Value × Value)} {L : List Bx} (h : Row2 w g us L) (k : Nat) (p : Bx) (hp : L[k]? = some p) : ∃ P c Q d, w.cell? ⟨g, k * 2, none⟩ = some (.slice P p.1.length c) ∧ w.cell? ⟨g, k * 2 + 1, none⟩ = some (.slice Q p.2.length d) ∧ Rd w P p.1.length p.1 ∧ Rd w Q p.2.length p.2 := by
  obtain ⟨hk, _⟩ := List.getElem?_eq_some_iff.1 hp
  have hu : us[k]? = some (us[k]'(by rw [h.len]; exact hk)) := List.getElem?_eq_getElem _
  have hc := h.cells k _ hu
  obtain ⟨e1, e2⟩ := h.els k _ p hu hp
  obtain ⟨P, c, hP, r1, _⟩ := e1.rd
  obtain ⟨Q, d, hQ, r2, _⟩ := e2.rd
  rw [hP, hQ] at hc
  exact ⟨P, c, Q, d, hc.1, hc.2, r1, r2⟩
theorem cell_lt {V : World} {p : Addr} {v : Value} (h : V.cell? p = some v) : p.block < V.heap.size := by
  rcases Nat.lt_or_ge p.block V.heap.size with h1 | h1
  · exact h1
  · exfalso
    unfold World.cell? at h
    simp [Array.getElem?_eq_none h1] at h
/-- The cells that the last statement reads. -/
def Cs9 (V : World) (b c s g : Nat) (x1 x2 x3 x4 x5 x6 x7 x8 x9 : Value) : Prop :=
  V.cell? ⟨b, 0, none⟩ = some x1 ∧ V.cell? ⟨b, 1, none⟩ = some x2 ∧ V.cell? ⟨c, 0, none⟩ = some x3 ∧ V.cell? ⟨c, 1, none⟩ = some x4 ∧ V.cell? ⟨s, 0, none⟩ = some x5 ∧ V.cell? ⟨g, 0, none⟩ = some x6 ∧ V.cell? ⟨g, 1, none⟩ = some x7 ∧ V.cell? ⟨g, 4, none⟩ = some x8 ∧ V.cell? ⟨g, 5, none⟩ = some x9
theorem Cs9.below {V V' : World} {b c s g : Nat} {x1 x2 x3 x4 x5 x6 x7 x8 x9 : Value} (h : Cs9 V b c s g x1 x2 x3 x4 x5 x6 x7 x8 x9) (hb : Below V.heap.size V V') : Cs9 V' b c s g x1 x2 x3 x4 x5 x6 x7 x8 x9 := by
  obtain ⟨h1, h2, h3, h4, h5, h6, h7, h8, h9⟩ := h
  exact ⟨(hb.cell (cell_lt h1)).trans h1, (hb.cell (cell_lt h2)).trans h2, (hb.cell (cell_lt h3)).trans h3, (hb.cell (cell_lt h4)).trans h4, (hb.cell (cell_lt h5)).trans h5, (hb.cell (cell_lt h6)).trans h6, (hb.cell (cell_lt h7)).trans h7, (hb.cell (cell_lt h8)).trans h8, (hb.cell (cell_lt h9)).trans h9⟩
theorem Cs9.pushed {V V' : World} {b c s g : Nat} {x1 x2 x3 x4 x5 x6 x7 x8 x9 : Value} (h : Cs9 V b c s g x1 x2 x3 x4 x5 x6 x7 x8 x9) (hg : V.grownBy V' (some g)) (hk : ∀ j, j < 6 → V'.cell? ⟨g, j, none⟩ = V.cell? ⟨g, j, none⟩) (n1 : b ≠ g) (n2 : c ≠ g) (n3 : s ≠ g) : Cs9 V' b c s g x1 x2 x3 x4 x5 x6 x7 x8 x9 := by
  obtain ⟨h1, h2, h3, h4, h5, h6, h7, h8, h9⟩ := h
  exact ⟨hg.cell h1 (by simpa using n1), hg.cell h2 (by simpa using n1), hg.cell h3 (by simpa using n2), hg.cell h4 (by simpa using n2), hg.cell h5 (by simpa using n3), (hk 0 (by omega)).trans h6, (hk 1 (by omega)).trans h7, (hk 4 (by omega)).trans h8, (hk 5 (by omega)).trans h9⟩

/-- append(l, x), of a box that lies anywhere. -/
theorem step_pushXL {w : World} {B g q n cap : Nat} {ops : Array Oper} {o : Oper} {a : Act} {K : Act → World → Prop} {Q : Exit → Act → World → Prop} {E : Prop} (hgd : Region.wanted o (yielded ops a.tmps) = true) (s x : Operand)
    (ho : o.op = .call { callee := .builtin .append, args := #[s, x], argTypes := #[41, 41] })
    (L : List Bx) (hs : a.eval s = .slice (some ⟨g, 0, none⟩) n cap) (hown : OwnX 27 w B (.slice (some ⟨g, 0, none⟩) n cap) L) (hB : B ≤ w.heap.size) (u u' : Value) (p : Bx) (h1 : El w (some g) u p.1) (h2 : El w (some g) u' p.2) (h3 : Lies B u) (h4 : Lies B u') (hx : a.eval x = .slice (some ⟨q, 0, none⟩) 1 1) (hq : Box2 w q u u')
    (hn : L.length = n) (h40 : n ≤ 1000)
    (h : ∀ P c w', OwnX 27 w' B (.slice P (n + 1) c) (L ++ [p]) → w.grownBy w' (some g) → (∀ j, j < n * 2 → w'.cell? ⟨g, j, none⟩ = w.cell? ⟨g, j, none⟩) → K (a.put o.dst (.slice P (n + 1) c)) w') :
    if Region.wanted o (yielded ops a.tmps) = true then Oper.wp Try.prog o a w K Q else E := by
  rw [if_pos hgd]
  subst hn
  obtain ⟨i0, hi0, hz0, hz1, hz2⟩ := info_parts box_info2
  have hone : u.oneCell' = true := by obtain ⟨A, c, rfl, _⟩ := h1; rfl
  have hone' : u'.oneCell' = true := by obtain ⟨A, c, rfl, _⟩ := h2; rfl
  have hgl : g < w.heap.size := (hown.lt g rfl).2
  obtain ⟨us, f0, f1, f2⟩ := hown
  have hcells : ∀ j z, [u, u'][j]? = some z → w.cell? ((⟨q, 0, none⟩ : Addr).add j) = some z := by
    intro j z hj
    rw [add_at]
    rcases j with _ | _ | j
    · simp at hj; subst hj; exact hq.1
    · simp at hj; subst hj; exact hq.2.1
    · simp at hj
  obtain ⟨v', w', hrun, g1, g2, g4, g5⟩ := run_append_keeps (P := Try.prog) w B 41 o.type 27 i0 _ 2 48 Try.underlying41 hi0 hz0 hz1 hz2 rfl (by omega) g L.length cap _ f1 ⟨q, 0, none⟩ 1 1 [u, u'] (by simp) hcells (by simpa using ⟨hone, hone'⟩)
    (by first | (unfold maxLen; omega) | (unfold maxLen; simp)) (by omega) hB
  have hnew : v'.ownBlock = some g ∨ ∃ q, v'.ownBlock = some q ∧ w.heap.size ≤ q := by
    rcases g4 with e | e
    · exact .inl e
    · exact .inr ⟨_, e, Nat.le_refl _⟩
  have hO : OwnX 27 w' B v' (L ++ [p]) := by
    refine ⟨us ++ [(u, u')], by simp [f0], by rw [List.length_append, flat2_append]; exact g1, fun k z r hz hr => ?_⟩
    rcases Nat.lt_or_ge k us.length with hk | hk
    · rw [List.getElem?_append_left hk] at hz
      rw [List.getElem?_append_left (by omega)] at hr
      exact ⟨(f2 k z r hz hr).1.grown g2 hnew, (f2 k z r hz hr).2.1.grown g2 hnew, (f2 k z r hz hr).2.2⟩
    · rw [List.getElem?_append_right hk] at hz
      rw [List.getElem?_append_right (by omega)] at hr
      rcases hj : k - us.length with _ | j
      · rw [hj] at hz
        rw [show k - L.length = 0 by omega] at hr
        simp at hz hr
        subst hz
        subst hr
        exact ⟨h1.grown g2 hnew, h2.grown g2 hnew, h3, h4⟩
      · rw [hj] at hz
        simp at hz
  obtain ⟨P, c, e, _⟩ := hO.form
  rw [List.length_append] at e
  have e0 : L.length + [p].length = L.length + 1 := rfl
  rw [e0] at e
  subst e
  unfold Oper.wp execOp
  simp only [ho, resolve, invoke, builtin, Sem.run_bind, Sem.run_pure, Result.andThen_ok, List.map_toArray, List.map_cons, List.map_nil, hs, hx, hrun]
  exact h P c w' hO g2 g5

theorem wpList_pushXL {w : World} {B g q n cap : Nat} {ops : Array Oper} {rest : List Oper} {o : Oper} {a : Act} {Q : Exit → Act → World → Prop} (hgd : Region.wanted o (yielded ops a.tmps) = true) (s x : Operand)
    (ho : o.op = .call { callee := .builtin .append, args := #[s, x], argTypes := #[41, 41] })
    (L : List Bx) (hs : a.eval s = .slice (some ⟨g, 0, none⟩) n cap) (hown : OwnX 27 w B (.slice (some ⟨g, 0, none⟩) n cap) L) (hB : B ≤ w.heap.size) (u u' : Value) (p : Bx) (h1 : El w (some g) u p.1) (h2 : El w (some g) u' p.2) (h3 : Lies B u) (h4 : Lies B u') (hx : a.eval x = .slice (some ⟨q, 0, none⟩) 1 1) (hq : Box2 w q u u')
    (hn : L.length = n) (h40 : n ≤ 1000)
    (h : ∀ P c w', OwnX 27 w' B (.slice P (n + 1) c) (L ++ [p]) → w.grownBy w' (some g) → (∀ j, j < n * 2 → w'.cell? ⟨g, j, none⟩ = w.cell? ⟨g, j, none⟩) → wpList Try.prog ops Q rest (a.put o.dst (.slice P (n + 1) c)) w') :
    wpList Try.prog ops Q (o :: rest) a w :=
  wpList_step fun K hK => step_pushXL hgd s x ho L hs hown hB u u' p h1 h2 h3 h4 hx hq hn h40 fun P c w' e1 e2 e3 => hK _ _ (h P c w' e1 e2 e3)

/-- Two lists made in a row. -/
theorem two_lits (V : World) (x0 x1 y0 y1 : Int) (t : TypeId) :
    Below V.heap.size V ((V.alloc (.cells #[.int .i64 x0, .int .i64 x1] t)).alloc (.cells #[.int .i64 y0, .int .i64 y1] t)) ∧ Rd ((V.alloc (.cells #[.int .i64 x0, .int .i64 x1] t)).alloc (.cells #[.int .i64 y0, .int .i64 y1] t)) (some ⟨V.heap.size, 0, none⟩) 2 [x0, x1] ∧ Rd ((V.alloc (.cells #[.int .i64 x0, .int .i64 x1] t)).alloc (.cells #[.int .i64 y0, .int .i64 y1] t)) (some ⟨V.heap.size + 1, 0, none⟩) 2 [y0, y1] := by
  have h1 : Rd (V.alloc (.cells #[.int .i64 x0, .int .i64 x1] t)) (some ⟨V.heap.size, 0, none⟩) 2 [x0, x1] := rd_new _ _ _
  refine ⟨below_more (one_below _ _ _) _, h1.below (one_below _ _ _), ?_⟩
  exact rd_new_at [y0, y1] (by simp)

set_option maxHeartbeats 16000000 in
set_option maxRecDepth 100000 in
theorem awake_true (w : World) :
    Calls Try.prog 7 #[] w fun e w' => e = .returned (.bool true) ∧ Below w.heap.size w w' := by
  have A0 := Lib.hid (one_below w #[.int .i64 3, .int .i64 3] 3)
  go_enter Try.func7, Try.ntmps7
  go_wp2_with fail
  refine (whole_any (some ⟨w.heap.size, 0, none⟩) 2 2 [3, 3] _ (by omega) (rd_new w 3 [3, 3]) (fun h => by cases h)).mono ?_
  rintro e w1 ⟨PA, ca, PB, cb, rfl, hT, hb⟩
  have HCA := Lib.hid (own_cap hT.fst); have HCB := Lib.hid (own_cap hT.snd)
  obtain ⟨V, hV⟩ : ∃ V, V = (((w1.alloc (.cells #[.slice PA 2 ca, .slice PB 2 cb] 27)).alloc (.cells #[.int .i64 1, .int .i64 1] 3)).alloc (.cells #[.int .i64 2, .int .i64 3] 3)).alloc (.cells #[.slice (some ⟨w1.heap.size + 1, 0, none⟩) 2 2, .slice (some ⟨w1.heap.size + 1 + 1, 0, none⟩) 2 2] 27) := ⟨_, rfl⟩
  have hb1 := one_below w1 #[.slice PA 2 ca, .slice PB 2 cb] 27
  have hbV : Below w1.heap.size w1 V := by rw [hV]; exact below_more (below_more (below_more hb1 _) _) _
  have KA := Lib.hid (show KX V w1.heap.size PA 2 ca PB 2 cb [0, 0] [3, 3] by
    rw [hV]
    exact (kx_new (hT.fst.rd : Rd w1 PA 2 [0, 0]) hT.snd.rd HCA.out.2.2 HCB.out.2.2 27).below (below_more (below_more (one_below _ _ _) _) _))
  have KB := Lib.hid (show KX V (w1.heap.size + 1 + 1 + 1) (some ⟨w1.heap.size + 1, 0, none⟩) 2 2 (some ⟨w1.heap.size + 1 + 1, 0, none⟩) 2 2 [1, 1] [2, 3] by
    rw [hV]
    have h1 : Rd ((w1.alloc (.cells #[.slice PA 2 ca, .slice PB 2 cb] 27)).alloc (.cells #[.int .i64 1, .int .i64 1] 3)) (some ⟨w1.heap.size + 1, 0, none⟩) 2 [1, 1] := rd_new_at [1, 1] (by simp)
    have h2 : Rd (((w1.alloc (.cells #[.slice PA 2 ca, .slice PB 2 cb] 27)).alloc (.cells #[.int .i64 1, .int .i64 1] 3)).alloc (.cells #[.int .i64 2, .int .i64 3] 3)) (some ⟨w1.heap.size + 1 + 1, 0, none⟩) 2 [2, 3] := rd_new_at [2, 3] (by simp)
    have := kx_new (c := 2) (d := 2) (h1.below (one_below _ _ _)) h2 (fun h => by cases h) (fun h => by cases h) 27
    rw [World.size_alloc, World.size_alloc, World.size_alloc] at this
    exact this)
  have AV := Lib.hid (show Below w.heap.size w V from below_step (below_step A0.out hb) hbV)
  have HZ := Lib.hid (show w1.heap.size + 4 = V.heap.size by rw [hV]; simp)
  have HV := Lib.hid hV
  clear hT hb hb1 hbV hV A0
  go_upto_region 3 with fail
  rw [← HV.out]
  obtain ⟨k1, k2, _⟩ := KA.out.box
  obtain ⟨k3, k4, _⟩ := KB.out.box
  go_wp2_with fail
  refine (minus_at (T := exT) 3 ex_minus rfl (by decide) (by decide) KA.out.lo KA.out.hi KB.out.lo KB.out.hi KA.out.a0 KA.out.b0 HCA.out.2.1 HCB.out.2.1 HCA.out.1 HCB.out.1 (by decide)).mono ?_
  rintro e V1 ⟨PL, cl, rfl, hoL, hb⟩
  obtain ⟨gl, rfl, hgl, hgl2⟩ : ∃ gl, PL = some ⟨gl, 0, none⟩ ∧ V.heap.size ≤ gl ∧ gl < V1.heap.size := by
    obtain ⟨us, h0, h1, _⟩ := hoL
    obtain ⟨g, cap, e, h2, h3⟩ := World.ownsRow.form h1 (by decide)
    injection e with e1
    exact ⟨g, e1, h2, h3⟩
  have HOL := Lib.hid hoL; have HGL := Lib.hid (And.intro hgl hgl2)
  have KA1 := Lib.hid (KA.out.below hb); have KB1 := Lib.hid (KB.out.below hb)
  have AV1 := Lib.hid (below_step AV.out hb)
  clear hoL hgl hgl2 hb KA k1 k2 k3 k4
  obtain ⟨k1, k2, _⟩ := KA1.out.box
  obtain ⟨k3, k4, _⟩ := KB1.out.box
  go_wp2_with fail
  refine (meet_at [1, 1] [2, 3] (by decide) (by decide) (by decide) (by decide) (by decide) KA1.out.lo KA1.out.hi KB1.out.lo KB1.out.hi KA1.out.a0 KA1.out.b0).mono ?_
  rintro e V2 ⟨PC, cc, QC, dc, rfl, hT, hb⟩
  have HCC := Lib.hid (own_cap hT.fst); have HCD := Lib.hid (own_cap hT.snd)
  have KA2 := Lib.hid (KA1.out.below hb); have KB2 := Lib.hid (KB1.out.below hb)
  have HOL2 := Lib.hid (HOL.out.below hb)
  have AV2 := Lib.hid (below_step AV1.out hb)
  have HS2 := Lib.hid hb.size
  obtain ⟨V3, hV3⟩ : ∃ V, V = V2.alloc (.cells #[.slice PC 2 cc, .slice QC 2 dc] 27) := ⟨_, rfl⟩
  have hb3 : Below V2.heap.size V2 V3 := by rw [hV3]; exact one_below _ _ _
  have KC3 := Lib.hid (show KX V3 V2.heap.size PC 2 cc QC 2 dc [1, 1] [2, 3] by rw [hV3]; exact kx_new hT.fst.rd hT.snd.rd HCC.out.2.2 HCD.out.2.2 _)
  have KB3 := Lib.hid (KB2.out.below hb3)
  have HOL3 := Lib.hid (HOL2.out.below hb3)
  have AV3 := Lib.hid (below_step AV2.out hb3)
  have HV3 := Lib.hid hV3
  have HZ3 := Lib.hid (show V3.heap.size = V2.heap.size + 1 by rw [hV3]; simp)
  clear hT hb hb3 hV3 k1 k2 k3 k4 KA1 KB1 KA2 KB2 HOL HOL2
  obtain ⟨k3, k4, _⟩ := KB3.out.box
  go_upto_region 5 with fail
  rw [← HV3.out]
  go_wp2_with fail
  have L4 := Lib.hid (two_lits V3 0 0 1 3 3)
  have KB4 := Lib.hid (KB3.out.below L4.out.1)
  refine (meet_no_at (by decide) (by decide) (by decide) KB4.out.lo KB4.out.hi L4.out.2.1 L4.out.2.2 KB4.out.a0 KB4.out.b0).mono ?_
  rintro e V4 ⟨rfl, hb⟩
  have hb4 : Below V3.heap.size V3 V4 := below_step L4.out.1 hb
  obtain ⟨V5, hV5⟩ : ∃ V, V = V4.alloc (.cells #[.slice none 0 0, .slice none 0 0] 27) := ⟨_, rfl⟩
  have hb5 : Below V3.heap.size V3 V5 := by rw [hV5]; exact below_more hb4 _
  have HV5 := Lib.hid hV5
  have HZ5 := Lib.hid (show V5.heap.size = V4.heap.size + 1 by rw [hV5]; simp)
  have KC5 := Lib.hid (KC3.out.below hb5); have KB5 := Lib.hid (KB3.out.below hb5); have HOL5 := Lib.hid (HOL3.out.below hb5)
  have AV5 := Lib.hid (below_step AV3.out hb5)
  have HS5 := Lib.hid hb5.size
  clear hb hb4 hb5 hV5 L4 KB4 k3 k4 KB3 KC3 HOL3 AV3
  obtain ⟨k3, k4, _⟩ := KB5.out.box
  go_upto_region 6 with fail
  rw [← HV5.out]
  go_wp2_with fail
  refine (shift_at 0 1 2 [2, 1] [3, 3] (by rfl) (by kernel_rfl) (by kernel_rfl) (by decide) (by omega) KB5.out.lo KB5.out.hi KB5.out.a0 KB5.out.b0 (by rfl) (by rfl)).mono ?_
  intro e V6 hm
  rw [ShiftsTo, if_pos (by decide)] at hm
  obtain ⟨PS, cs, QS, ds, rfl, hT, hb⟩ := hm
  have HCS := Lib.hid (own_cap hT.fst); have HDS := Lib.hid (own_cap hT.snd)
  obtain ⟨V7, hV7⟩ : ∃ V, V = V6.alloc (.cells #[.slice PS 2 cs, .slice QS 2 ds] 27) := ⟨_, rfl⟩
  have hb6 : Below V6.heap.size V6 V7 := by rw [hV7]; exact one_below _ _ _
  have hb7 : Below V5.heap.size V5 V7 := below_step hb hb6
  have KS7 := Lib.hid (show KX V7 V6.heap.size PS 2 cs QS 2 ds [2, 1] [3, 3] by rw [hV7]; exact kx_new hT.fst.rd hT.snd.rd HCS.out.2.2 HDS.out.2.2 _)
  have HV7 := Lib.hid hV7
  have HZ7 := Lib.hid (show V7.heap.size = V6.heap.size + 1 by rw [hV7]; simp)
  have KC7 := Lib.hid (KC5.out.below hb7); have KB7 := Lib.hid (KB5.out.below hb7); have HOL7 := Lib.hid (HOL5.out.below hb7)
  have AV7 := Lib.hid (below_step AV5.out hb7)
  have HS7 := Lib.hid (And.intro hb.size hb7.size)
  clear hT hb hb6 hb7 hV7 k3 k4 KB5 KC5 HOL5 AV5
  obtain ⟨k3, k4, _⟩ := KB7.out.box
  go_upto_region 7 with fail
  rw [← HV7.out]
  go_wp2_with fail
  refine (shift_at 0 1 2 [-1, 1] [0, 3] (by rfl) (by kernel_rfl) (by kernel_rfl) (by decide) (by omega) KB7.out.lo KB7.out.hi KB7.out.a0 KB7.out.b0 (by rfl) (by rfl)).mono ?_
  intro e V8 hm
  rw [ShiftsTo, if_neg (by decide)] at hm
  obtain ⟨rfl, hb⟩ := hm
  obtain ⟨V9, hV9⟩ : ∃ V, V = V8.alloc (.cells #[.slice none 0 0, .slice none 0 0] 27) := ⟨_, rfl⟩
  have hb9 : Below V7.heap.size V7 V9 := by rw [hV9]; exact below_more hb _
  have HV9 := Lib.hid hV9
  have KC9 := Lib.hid (KC7.out.below hb9); have KB9 := Lib.hid (KB7.out.below hb9); have KS9 := Lib.hid (KS7.out.below hb9); have HOL9 := Lib.hid (HOL7.out.below hb9)
  have AV9 := Lib.hid (below_step AV7.out hb9)
  have HS9 := Lib.hid hb9.size
  clear hb hb9 hV9 k3 k4 KB7 KC7 KS7 HOL7 AV7
  go_upto_region 8 with fail
  rw [← HV9.out]
  go_upto_region 10 with fail
  obtain ⟨us, hR⟩ := HOL9.out.row2
  obtain ⟨P0, c0, Q0, d0, z0, z1, hl0, hl1⟩ := row_at hR 0 ([0, 0], [1, 3]) rfl
  obtain ⟨P2, c2, Q2, d2, z4, z5, hl4, hl5⟩ := row_at hR 2 ([1, 0], [2, 1]) rfl
  have HL0 := Lib.hid (show Rd V9 P0 2 [0, 0] from hl0); have HL1 := Lib.hid (show Rd V9 Q0 2 [1, 3] from hl1); have HL4 := Lib.hid (show Rd V9 P2 2 [1, 0] from hl4); have HL5 := Lib.hid (show Rd V9 Q2 2 [2, 1] from hl5)
  have HR := Lib.hid hR
  have HGS := Lib.hid (show w1.heap.size + 1 + 1 + 1 < gl ∧ gl < V2.heap.size ∧ gl < V6.heap.size ∧ gl < V9.heap.size by have := HZ.out; have := HGL.out; have := HS2.out; have := HZ3.out; have := HS5.out; have := HS7.out; have := HS9.out; omega)
  have HN1 := Lib.hid (show w1.heap.size + 1 + 1 + 1 ≠ gl by have := HGS.out; omega)
  have HN2 := Lib.hid (show V2.heap.size ≠ gl by have := HGS.out; omega)
  have HN3 := Lib.hid (show V6.heap.size ≠ gl by have := HGS.out; omega)
  have HGG := Lib.hid (show w.heap.size ≤ gl by have := AV.out.size; have := HGL.out; omega)
  have HGW := Lib.hid (fun X (h : Below V9.heap.size V9 X) => show w.heap.size ≤ X.heap.size from by have := AV9.out.size; have := h.size; omega)
  have HE1 := Lib.hid (show El V9 (some gl) (.slice (some ⟨w1.heap.size + 1, 0, none⟩) 2 2) [1, 1] from el_blk KB9.out.lo (by omega) (by first | (unfold maxLen; omega) | (unfold maxLen; simp)) (by have := HGS.out; omega))
  have HE2 := Lib.hid (show El V9 (some gl) (.slice (some ⟨w1.heap.size + 1 + 1, 0, none⟩) 2 2) [2, 3] from el_blk KB9.out.hi (by omega) (by first | (unfold maxLen; omega) | (unfold maxLen; simp)) (by have := HGS.out; omega))
  have HOX := Lib.hid (HOL9.out.le (Nat.zero_le _))
  have HKC0 : Cs9 V9 (w1.heap.size + 1 + 1 + 1) V2.heap.size V6.heap.size gl (.slice (some ⟨w1.heap.size + 1, 0, none⟩) 2 2) (.slice (some ⟨w1.heap.size + 1 + 1, 0, none⟩) 2 2) (.slice PC 2 cc) (.slice QC 2 dc) (.slice PS 2 cs) (.slice P0 2 c0) (.slice Q0 2 d0) (.slice P2 2 c2) (.slice Q2 2 d2) :=
    ⟨KB9.out.box.1, KB9.out.box.2.1, KC9.out.box.1, KC9.out.box.2.1, KS9.out.box.1, z0, z1, z4, z5⟩
  have HKC := Lib.hid (fun V (h : Below V9.heap.size V9 V) => HKC0.below h)
  have HD := Lib.hid (Below.refl V9.heap.size V9)
  clear hl0 hl1 hl4 hl5 hR HKC0 z0 z1 z4 z5 HOL9
  obtain ⟨r1, r2, r3, r4, r5, r6, r7, r8, r9⟩ := HKC.out V9 HD.out
  go_wp2_with fail
  refine (same_at (lo := [0, 0]) (hi := [1, 3]) (lo' := [0, 0]) (hi' := [1, 3]) true (by decide) (by first | (unfold maxLen; omega) | (unfold maxLen; simp)) (by first | (unfold maxLen; omega) | (unfold maxLen; simp)) (by first | (unfold maxLen; omega) | (unfold maxLen; simp)) (by first | (unfold maxLen; omega) | (unfold maxLen; simp)) (HL0.out.below (by repeat (first | exact HD.out | exact HK8.out | exact HK7.out | exact HK6.out | exact HK5.out | exact HK4.out | exact HK3.out | exact HK2.out | exact HK1.out | refine below_more ?_ _ | refine Below.drew ?_))) (HL1.out.below (by repeat (first | exact HD.out | exact HK8.out | exact HK7.out | exact HK6.out | exact HK5.out | exact HK4.out | exact HK3.out | exact HK2.out | exact HK1.out | refine below_more ?_ _ | refine Below.drew ?_))) (by first | exact (two_lits _ 0 0 1 3 _).2.1 | exact (two_lits _ 1 3 0 0 _).2.2) (by first | exact (two_lits _ 0 0 1 3 _).2.2 | exact (two_lits _ 1 3 0 0 _).2.1)).mono ?_
  rintro e v1 ⟨rfl, h3⟩
  have HK1 := Lib.hid (below_step (W := V9) (by repeat (first | exact HD.out | exact HK8.out | exact HK7.out | exact HK6.out | exact HK5.out | exact HK4.out | exact HK3.out | exact HK2.out | exact HK1.out | refine below_more ?_ _ | refine Below.drew ?_)) h3)
  obtain ⟨r11, r12, r13, r14, r15, r16, r17, r18, r19⟩ := HKC.out _ HK1.out
  clear h3
  go_wp2_with fail
  refine (same_at (lo := [1, 0]) (hi := [2, 1]) (lo' := [1, 0]) (hi' := [2, 1]) true (by decide) (by first | (unfold maxLen; omega) | (unfold maxLen; simp)) (by first | (unfold maxLen; omega) | (unfold maxLen; simp)) (by first | (unfold maxLen; omega) | (unfold maxLen; simp)) (by first | (unfold maxLen; omega) | (unfold maxLen; simp)) (HL4.out.below (by repeat (first | exact HD.out | exact HK8.out | exact HK7.out | exact HK6.out | exact HK5.out | exact HK4.out | exact HK3.out | exact HK2.out | exact HK1.out | refine below_more ?_ _ | refine Below.drew ?_))) (HL5.out.below (by repeat (first | exact HD.out | exact HK8.out | exact HK7.out | exact HK6.out | exact HK5.out | exact HK4.out | exact HK3.out | exact HK2.out | exact HK1.out | refine below_more ?_ _ | refine Below.drew ?_))) (by first | exact (two_lits _ 1 0 2 1 _).2.1 | exact (two_lits _ 2 1 1 0 _).2.2) (by first | exact (two_lits _ 1 0 2 1 _).2.2 | exact (two_lits _ 2 1 1 0 _).2.1)).mono ?_
  rintro e v2 ⟨rfl, h3⟩
  have HK2 := Lib.hid (below_step (W := V9) (by repeat (first | exact HD.out | exact HK8.out | exact HK7.out | exact HK6.out | exact HK5.out | exact HK4.out | exact HK3.out | exact HK2.out | exact HK1.out | refine below_more ?_ _ | refine Below.drew ?_)) h3)
  obtain ⟨r21, r22, r23, r24, r25, r26, r27, r28, r29⟩ := HKC.out _ HK2.out
  clear h3
  go_wp2_with fail
  refine (same_at (lo := [1, 1]) (hi := [2, 3]) (lo' := [1, 1]) (hi' := [2, 3]) true (by decide) (by first | (unfold maxLen; omega) | (unfold maxLen; simp)) (by first | (unfold maxLen; omega) | (unfold maxLen; simp)) (by first | (unfold maxLen; omega) | (unfold maxLen; simp)) (by first | (unfold maxLen; omega) | (unfold maxLen; simp)) (KC9.out.lo.below (by repeat (first | exact HD.out | exact HK8.out | exact HK7.out | exact HK6.out | exact HK5.out | exact HK4.out | exact HK3.out | exact HK2.out | exact HK1.out | refine below_more ?_ _ | refine Below.drew ?_))) (KC9.out.hi.below (by repeat (first | exact HD.out | exact HK8.out | exact HK7.out | exact HK6.out | exact HK5.out | exact HK4.out | exact HK3.out | exact HK2.out | exact HK1.out | refine below_more ?_ _ | refine Below.drew ?_))) (KB9.out.lo.below (by repeat (first | exact HD.out | exact HK8.out | exact HK7.out | exact HK6.out | exact HK5.out | exact HK4.out | exact HK3.out | exact HK2.out | exact HK1.out | refine below_more ?_ _ | refine Below.drew ?_))) (KB9.out.hi.below (by repeat (first | exact HD.out | exact HK8.out | exact HK7.out | exact HK6.out | exact HK5.out | exact HK4.out | exact HK3.out | exact HK2.out | exact HK1.out | refine below_more ?_ _ | refine Below.drew ?_)))).mono ?_
  rintro e v3 ⟨rfl, h3⟩
  have HK3 := Lib.hid (below_step (W := V9) (by repeat (first | exact HD.out | exact HK8.out | exact HK7.out | exact HK6.out | exact HK5.out | exact HK4.out | exact HK3.out | exact HK2.out | exact HK1.out | refine below_more ?_ _ | refine Below.drew ?_)) h3)
  obtain ⟨r31, r32, r33, r34, r35, r36, r37, r38, r39⟩ := HKC.out _ HK3.out
  clear h3
  go_wp2_with fail
  refine (refEqual_at (xs := [2, 1]) (ys := [2, 1]) true (by decide) (by first | (unfold maxLen; omega) | (unfold maxLen; simp)) (by first | (unfold maxLen; omega) | (unfold maxLen; simp)) (KS9.out.lo.below (by repeat (first | exact HD.out | exact HK8.out | exact HK7.out | exact HK6.out | exact HK5.out | exact HK4.out | exact HK3.out | exact HK2.out | exact HK1.out | refine below_more ?_ _ | refine Below.drew ?_))) (rd_new _ _ [2, 1])).mono ?_
  rintro e v4 ⟨rfl, h3⟩
  have HK4 := Lib.hid (below_step (W := V9) (by repeat (first | exact HD.out | exact HK8.out | exact HK7.out | exact HK6.out | exact HK5.out | exact HK4.out | exact HK3.out | exact HK2.out | exact HK1.out | refine below_more ?_ _ | refine Below.drew ?_)) h3)
  obtain ⟨r41, r42, r43, r44, r45, r46, r47, r48, r49⟩ := HKC.out _ HK4.out
  clear h3
  go_wp2_with fail
  refine (size_at (lo := [1, 1]) (hi := [2, 3]) 2 (by decide) (by decide) (KB9.out.lo.below (by repeat (first | exact HD.out | exact HK8.out | exact HK7.out | exact HK6.out | exact HK5.out | exact HK4.out | exact HK3.out | exact HK2.out | exact HK1.out | refine below_more ?_ _ | refine Below.drew ?_))) (KB9.out.hi.below (by repeat (first | exact HD.out | exact HK8.out | exact HK7.out | exact HK6.out | exact HK5.out | exact HK4.out | exact HK3.out | exact HK2.out | exact HK1.out | refine below_more ?_ _ | refine Below.drew ?_))) (by omega)).mono ?_
  rintro e v5 ⟨rfl, h3⟩
  have HK5 := Lib.hid (below_step (W := V9) (by repeat (first | exact HD.out | exact HK8.out | exact HK7.out | exact HK6.out | exact HK5.out | exact HK4.out | exact HK3.out | exact HK2.out | exact HK1.out | refine below_more ?_ _ | refine Below.drew ?_)) h3)
  obtain ⟨r51, r52, r53, r54, r55, r56, r57, r58, r59⟩ := HKC.out _ HK5.out
  clear h3
  go_wp2_with fail
  refine (has_at (lo := [1, 1]) (hi := [2, 3]) (xs := [1, 2]) true (by decide) (by first | (unfold maxLen; omega) | (unfold maxLen; simp)) (by first | (unfold maxLen; omega) | (unfold maxLen; simp)) (by decide) (KB9.out.lo.below (by repeat (first | exact HD.out | exact HK8.out | exact HK7.out | exact HK6.out | exact HK5.out | exact HK4.out | exact HK3.out | exact HK2.out | exact HK1.out | refine below_more ?_ _ | refine Below.drew ?_))) (KB9.out.hi.below (by repeat (first | exact HD.out | exact HK8.out | exact HK7.out | exact HK6.out | exact HK5.out | exact HK4.out | exact HK3.out | exact HK2.out | exact HK1.out | refine below_more ?_ _ | refine Below.drew ?_))) (by exact rd_new _ _ [1, 2])).mono ?_
  rintro e v6 ⟨rfl, h3⟩
  have HK6 := Lib.hid (below_step (W := V9) (by repeat (first | exact HD.out | exact HK8.out | exact HK7.out | exact HK6.out | exact HK5.out | exact HK4.out | exact HK3.out | exact HK2.out | exact HK1.out | refine below_more ?_ _ | refine Below.drew ?_)) h3)
  obtain ⟨r61, r62, r63, r64, r65, r66, r67, r68, r69⟩ := HKC.out _ HK6.out
  clear h3
  go_wp2_with fail
  refine (has_at (lo := [1, 1]) (hi := [2, 3]) (xs := [2, 2]) false (by decide) (by first | (unfold maxLen; omega) | (unfold maxLen; simp)) (by first | (unfold maxLen; omega) | (unfold maxLen; simp)) (by decide) (KB9.out.lo.below (by repeat (first | exact HD.out | exact HK8.out | exact HK7.out | exact HK6.out | exact HK5.out | exact HK4.out | exact HK3.out | exact HK2.out | exact HK1.out | refine below_more ?_ _ | refine Below.drew ?_))) (KB9.out.hi.below (by repeat (first | exact HD.out | exact HK8.out | exact HK7.out | exact HK6.out | exact HK5.out | exact HK4.out | exact HK3.out | exact HK2.out | exact HK1.out | refine below_more ?_ _ | refine Below.drew ?_))) (by exact rd_new _ _ [2, 2])).mono ?_
  rintro e v7 ⟨rfl, h3⟩
  have HK7 := Lib.hid (below_step (W := V9) (by repeat (first | exact HD.out | exact HK8.out | exact HK7.out | exact HK6.out | exact HK5.out | exact HK4.out | exact HK3.out | exact HK2.out | exact HK1.out | refine below_more ?_ _ | refine Below.drew ?_)) h3)
  obtain ⟨r71, r72, r73, r74, r75, r76, r77, r78, r79⟩ := HKC.out _ HK7.out
  clear h3
  go_wp2_with fail
  refine (right_at (lo := [1, 1]) (hi := [2, 3]) true (by decide) (by first | (unfold maxLen; omega) | (unfold maxLen; simp)) (by first | (unfold maxLen; omega) | (unfold maxLen; simp)) (KB9.out.lo.below (by repeat (first | exact HD.out | exact HK8.out | exact HK7.out | exact HK6.out | exact HK5.out | exact HK4.out | exact HK3.out | exact HK2.out | exact HK1.out | refine below_more ?_ _ | refine Below.drew ?_))) (KB9.out.hi.below (by repeat (first | exact HD.out | exact HK8.out | exact HK7.out | exact HK6.out | exact HK5.out | exact HK4.out | exact HK3.out | exact HK2.out | exact HK1.out | refine below_more ?_ _ | refine Below.drew ?_)))).mono ?_
  rintro e v8 ⟨rfl, h3⟩
  have HK8 := Lib.hid (below_step (W := V9) (by repeat (first | exact HD.out | exact HK8.out | exact HK7.out | exact HK6.out | exact HK5.out | exact HK4.out | exact HK3.out | exact HK2.out | exact HK1.out | refine below_more ?_ _ | refine Below.drew ?_)) h3)
  obtain ⟨r81, r82, r83, r84, r85, r86, r87, r88, r89⟩ := HKC.out _ HK8.out
  clear h3
  obtain ⟨y1, y2, _⟩ := HKC.out (v8.alloc (.cells #[.int .i64 3, .int .i64 3] 3)) (below_more HK8.out _)
  go_wp2_with (at_builtin; (refine wpList_pushXL (by rfl) (.tmp 110) (.tmp 112) (by rfl) exT (by rfl) (HOX.out.below (by repeat (first | exact HD.out | exact HK8.out | exact HK7.out | exact HK6.out | exact HK5.out | exact HK4.out | exact HK3.out | exact HK2.out | exact HK1.out | refine below_more ?_ _ | refine Below.drew ?_))) (Nat.zero_le _) _ _ ([1, 1], [2, 3]) (HE1.out.below (by repeat (first | exact HD.out | exact HK8.out | exact HK7.out | exact HK6.out | exact HK5.out | exact HK4.out | exact HK3.out | exact HK2.out | exact HK1.out | refine below_more ?_ _ | refine Below.drew ?_))) (HE2.out.below (by repeat (first | exact HD.out | exact HK8.out | exact HK7.out | exact HK6.out | exact HK5.out | exact HK4.out | exact HK3.out | exact HK2.out | exact HK1.out | refine below_more ?_ _ | refine Below.drew ?_))) (lies_zero _) (lies_zero _) (by rfl) (by first | exact (box_new_at (by simp)) | exact (box_new_at (by simp)).below (one_below _ _ _)) rfl (by omega) ?_))
  intro PX cx wx hox hgx hkx
  have HX1 := Lib.hid (show RdXs wx none 0 PX 4 (exT ++ [([1, 1], [2, 3])]) from hox.rd)
  have HX2 := Lib.hid (((HR.out.below (by repeat (first | exact HD.out | exact HK8.out | exact HK7.out | exact HK6.out | exact HK5.out | exact HK4.out | exact HK3.out | exact HK2.out | exact HK1.out | refine below_more ?_ _ | refine Below.drew ?_))).pushed hgx hkx).rdXs)
  have HX3 := Lib.hid (Below.grown (below_step AV9.out (by repeat (first | exact HD.out | exact HK8.out | exact HK7.out | exact HK6.out | exact HK5.out | exact HK4.out | exact HK3.out | exact HK2.out | exact HK1.out | refine below_more ?_ _ | refine Below.drew ?_))) hgx (HGW.out _ (by repeat (first | exact HD.out | exact HK8.out | exact HK7.out | exact HK6.out | exact HK5.out | exact HK4.out | exact HK3.out | exact HK2.out | exact HK1.out | refine below_more ?_ _ | refine Below.drew ?_))) (fun k e => by injection e with e; subst e; exact HGG.out))
  have HX4 := Lib.hid (fun (q : Nat) (hq : V9.heap.size ≤ q) xs (h : Rd _ (some ⟨q, 0, none⟩) 2 xs) => rd_grown h hgx (by have := HGS.out; omega))
  obtain ⟨s11, s12, s13, s14, s15, s16, s17, s18, s19⟩ := (show Cs9 wx _ _ _ _ _ _ _ _ _ _ _ _ _ from (show Cs9 _ _ _ _ _ _ _ _ _ _ _ _ _ _ from (HKC.out _ (by repeat (first | exact HD.out | exact HK8.out | exact HK7.out | exact HK6.out | exact HK5.out | exact HK4.out | exact HK3.out | exact HK2.out | exact HK1.out | refine below_more ?_ _ | refine Below.drew ?_)))).pushed hgx hkx HN1.out HN2.out HN3.out)
  clear hox hgx hkx
  go_wp2_with fail
  refine (exact_yes (by first | exact rd_new _ _ [3, 3] | exact HX4.out _ (by have := HK8.out.size; omega) _ ((rd_new v8 _ [3, 3]).below (one_below _ _ _))) (by first | exact HX1.out | exact HX1.out.below (one_below _ _ _))).mono ?_
  rintro e vy ⟨rfl, h3⟩
  have HY1 := Lib.hid (show Below wx.heap.size wx vy from below_step (by first | exact Below.refl _ _ | exact one_below _ _ _) h3)
  have HY2 := Lib.hid (below_step HX3.out HY1.out)
  obtain ⟨t11, t12, t13, t14, t15, t16, t17, t18, t19⟩ := (show Cs9 wx _ _ _ _ _ _ _ _ _ _ _ _ _ from ⟨s11, s12, s13, s14, s15, s16, s17, s18, s19⟩).below HY1.out
  clear h3
  go_wp2_with fail
  refine (exact_no (rd_new _ _ [3, 3]) ((HX2.out.below HY1.out).below (one_below _ _ _))).mono ?_
  rintro e vz ⟨rfl, h3⟩
  have HZ1 := Lib.hid (show Below vy.heap.size vy vz from below_step (one_below _ _ _) h3)
  have HZ2 := Lib.hid (below_step HY2.out HZ1.out)
  obtain ⟨t11, t12, t13, t14, t15, t16, t17, t18, t19⟩ := (show Cs9 vy _ _ _ _ _ _ _ _ _ _ _ _ _ from ⟨t11, t12, t13, t14, t15, t16, t17, t18, t19⟩).below HZ1.out
  clear h3
  go_wp2_with fail
  go_ret
  exact ⟨rfl, HZ2.out⟩
end Go.Proofs.Ytaegkiangjnmdaa.laws
