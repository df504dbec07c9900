/- What the laws of boxes have in common. -/
import Derived.Test.YtaegkiangjnmdaaBoxAwake
namespace Go.Proofs.Ytaegkiangjnmdaa.laws
open Go.ChangeShapes Go.WideShapes Go.ChangeAt Go.RowKit Go.Proofs.Ytaegkiangjnmdaa.mem Go.Proofs.Ytaegkiangjnmdaa.prod Go.Proofs.Ytaegkiangjnmdaa.shp Go.Proofs.Ytaegkiangjnmdaa.strd Go.Proofs.Ytaegkiangjnmdaa.gam Go.Proofs.Ytaegkiangjnmdaa.sml Go.Proofs.Ytaegkiangjnmdaa.all Go.Proofs.Ytaegkiangjnmdaa.odo Go.Proofs.Ytaegkiangjnmdaa.eql Go.Proofs.Ytaegkiangjnmdaa.arr Go.Proofs.Ytaegkiangjnmdaa.bx
set_option linter.unusedVariables false

/-- What a law answers. -/
def HoldsX (w : World) (e : Ending) (w' : World) : Prop := e = .returned (.bool true) ∧ Below w.heap.size w w'
/-- What a law knows of a box that came in, and of its own copy of the struct, in a later world. -/
structure KL (w V : World) (b : Nat) (A : Option Addr) (n c : Nat) (B : Option Addr) (m d : Nat) (lo hi : List Int) : Prop where
  aft : Below w.heap.size w V
  kx : KX V b A n c B m d lo hi
theorem KL.call {w V V' : World} {b n c m d : Nat} {A B : Option Addr} {lo hi : List Int} (h : KL w V b A n c B m d lo hi) (hb : Below V.heap.size V V') : KL w V' b A n c B m d lo hi := ⟨below_step h.aft hb, h.kx.below hb⟩
theorem kx_at {w : World} {b n c m d : Nat} {A B : Option Addr} {lo hi : List Int} (hb0 : b = w.heap.size) (h1 : Rd w A n lo) (h2 : Rd w B m hi) (a0 : A = none → c = 0) (b0 : B = none → d = 0) (t : TypeId) : KX (w.alloc (.cells #[.slice A n c, .slice B m d] t)) b A n c B m d lo hi := by
  subst hb0; exact kx_new h1 h2 a0 b0 t
theorem kl_one {w : World} {n c m d : Nat} {A B : Option Addr} {lo hi : List Int} (h1 : Rd w A n lo) (h2 : Rd w B m hi) (a0 : A = none → c = 0) (b0 : B = none → d = 0) (t : TypeId) : KL w (w.alloc (.cells #[.slice A n c, .slice B m d] t)) w.heap.size A n c B m d lo hi :=
  ⟨one_below _ _ _, kx_new h1 h2 a0 b0 t⟩
/-- Two boxes laid in a row. -/
theorem kl_two {w W : World} {A B A' B' : Option Addr} {n c m d n' c' m' d' : Nat} {al ah bl bh : List Int} {t : TypeId} (hW : W = (w.alloc (.cells #[.slice A n c, .slice B m d] t)).alloc (.cells #[.slice A' n' c', .slice B' m' d'] t))
    (h1 : Rd w A n al) (h2 : Rd w B m ah) (a0 : A = none → c = 0) (b0 : B = none → d = 0) (h3 : Rd w A' n' bl) (h4 : Rd w B' m' bh) (a1 : A' = none → c' = 0) (b1 : B' = none → d' = 0) :
    KL w W w.heap.size A n c B m d al ah ∧ KL w W (w.heap.size + 1) A' n' c' B' m' d' bl bh := by
  subst hW
  have k1 := kl_one h1 h2 a0 b0 t
  have e1 := one_below w #[.slice A n c, .slice B m d] t
  exact ⟨k1.call (one_below _ _ _), below_step e1 (one_below _ _ _), kx_at (by simp) (h3.below e1) (h4.below e1) a1 b1 t⟩
theorem kl_three {w W : World} {A B A' B' A2 B2 : Option Addr} {n c m d n' c' m' d' n2 c2 m2 d2 : Nat} {al ah bl bh cl ch : List Int} {t : TypeId} (hW : W = ((w.alloc (.cells #[.slice A n c, .slice B m d] t)).alloc (.cells #[.slice A' n' c', .slice B' m' d'] t)).alloc (.cells #[.slice A2 n2 c2, .slice B2 m2 d2] t))
    (h1 : Rd w A n al) (h2 : Rd w B m ah) (a0 : A = none → c = 0) (b0 : B = none → d = 0) (h3 : Rd w A' n' bl) (h4 : Rd w B' m' bh) (a1 : A' = none → c' = 0) (b1 : B' = none → d' = 0) (h5 : Rd w A2 n2 cl) (h6 : Rd w B2 m2 ch) (a2 : A2 = none → c2 = 0) (b2 : B2 = none → d2 = 0) :
    KL w W w.heap.size A n c B m d al ah ∧ KL w W (w.heap.size + 1) A' n' c' B' m' d' bl bh ∧ KL w W (w.heap.size + 1 + 1) A2 n2 c2 B2 m2 d2 cl ch := by
  obtain ⟨V, hV⟩ : ∃ V, V = (w.alloc (.cells #[.slice A n c, .slice B m d] t)).alloc (.cells #[.slice A' n' c', .slice B' m' d'] t) := ⟨_, rfl⟩
  obtain ⟨k1, k2⟩ := kl_two hV h1 h2 a0 b0 h3 h4 a1 b1
  have hs : V.heap.size = w.heap.size + 1 + 1 := by rw [hV]; simp
  rw [← hV] at hW
  subst hW
  have e1 := one_below V #[.slice A2 n2 c2, .slice B2 m2 d2] t
  refine ⟨k1.call e1, k2.call e1, below_step k1.aft e1, kx_at hs.symm (h5.below (by have := k1.aft; exact this)) (h6.below k1.aft) a2 b2 t⟩

theorem dims_le : ∀ {lo hi : List Int}, (∀ x ∈ lo, -1000 ≤ x ∧ x ≤ 1000) → (∀ x ∈ hi, -1000 ≤ x ∧ x ≤ 1000) → ∀ x ∈ dimsL lo hi, x ≤ 65536
  | [], _, _, _, x, hx => by simp [dimsL] at hx
  | _ :: _, [], _, _, x, hx => by simp [dimsL] at hx
  | a :: lo, b :: hi, h1, h2, x, hx => by
    have ha := h1 a (by simp)
    have hb := h2 b (by simp)
    rcases List.mem_cons.1 (show x ∈ max (b - a) 0 :: dimsL lo hi from hx) with rfl | hx
    · omega
    · exact dims_le (fun z hz => h1 z (by simp [hz])) (fun z hz => h2 z (by simp [hz])) x hx
theorem small_out {lo hi : List Int} {most : Int} (h : smallB lo hi most = true) : rgtB lo hi = true ∧ lo.length = hi.length ∧ lo.length ≤ 5 ∧ (∀ x ∈ dimsL lo hi, x ≤ 65536) ∧ (0 ≤ most → prodL (maxL (dimsL lo hi)) ≤ 100 * most) := by
  unfold smallB at h
  simp only [Bool.and_eq_true] at h
  obtain ⟨f1, f2, f3, f4, f5⟩ := few_out h.2
  exact ⟨h.1, f1, f2, dims_le f3 f4, fun hm => by rcases f5 with e | ⟨_, e⟩ <;> omega⟩
theorem prod_rng {lo hi : List Int} (h : lo.length = hi.length) : prodL (dimsL lo hi) = ((rngs lo hi).length : Int) := by
  rw [rng_len h]
  have := (prodL_take_le (xs := dimsL lo hi) dims_nonneg (dimsL lo hi).length).1
  rw [List.take_of_length_le (Nat.le_refl _)] at this
  omega
theorem prod_small {lo hi : List Int} {most : Int} (h : smallB lo hi most = true) (hm : 0 ≤ most) : prodL (dimsL lo hi) ≤ 100 * most := by
  have h1 := (small_out h).2.2.2.2 hm
  have := (prodL_take_le (xs := dimsL lo hi) dims_nonneg (dimsL lo hi).length).2
  rw [List.take_of_length_le (Nat.le_refl _)] at this
  omega
theorem cells_small {A B : Option Addr} {n c d : Nat} {lo hi : List Int} {w : World} (most : Int) (hs : smallB lo hi most = true) (hm : 0 ≤ most) (hm2 : most ≤ 1000) (ha : Rd w A n lo) (hb : Rd w B n hi) :
    Calls Try.prog 15 #[.agg #[.slice A n c, .slice B n d]] w (MakesO w (rngs lo hi)) := by
  obtain ⟨h1, h2, h3, h4, h5⟩ := small_out hs
  obtain ⟨g1, g2, g3⟩ := rgt_out h1
  have hw := end_bound g1 g3
  have := h5 hm
  exact refCells_any A B n c d lo hi w (by have := ha.1; omega) ha hb (wide_of hw.1) (wide_of hw.2) h4 (fun k => by have := (prodL_take_le (xs := dimsL lo hi) dims_nonneg k).2; omega)
theorem size_small {A B : Option Addr} {n c d : Nat} {lo hi : List Int} {w : World} (most : Int) (hs : smallB lo hi most = true) (hm : 0 ≤ most) (hm2 : most ≤ 1000) (ha : Rd w A n lo) (hb : Rd w B n hi) :
    Calls Try.prog 14 #[.agg #[.slice A n c, .slice B n d]] w (NumB w ((rngs lo hi).length : Int)) :=
  size_at _ (prod_rng (small_out hs).2.1) (small_out hs).1 ha hb (by rw [← prod_rng (small_out hs).2.1]; have := prod_small hs hm; omega)

/-- Whether two boxes have cells in common. -/
def meetT (al ah bl bh : List Int) : Bool := decide (al.length = bl.length) && insB (mxL al bl) (mnL ah bh) (mxL al bl)
/-- What Intersect answers, either way. -/
def MeetsU (w : World) (r : Bool) (lo hi : List Int) (e : Ending) (w' : World) : Prop :=
  ∃ A m c B d, e = .returned (.tuple #[.agg #[.slice A m c, .slice B m d], .bool r]) ∧ Rd w' A m (if r = true then lo else []) ∧ Rd w' B m (if r = true then hi else []) ∧ m ≤ 65536 ∧ (A = none → c = 0) ∧ (B = none → d = 0) ∧ Below w.heap.size w w'
theorem meetsR_u {r : Bool} {w : World} {n : Nat} {lo hi : List Int} {e : Ending} {w' : World} (h : MeetsR r w n lo hi e w') (hn : n ≤ 65536) : MeetsU w r lo hi e w' := by
  cases r
  · obtain ⟨rfl, hb⟩ := h.out_no
    exact ⟨none, 0, 0, none, 0, rfl, Rd.nil_, Rd.nil_, by omega, fun _ => rfl, fun _ => rfl, hb⟩
  · obtain ⟨A, c, B, d, rfl, hT, hb⟩ := h.out
    exact ⟨A, n, c, B, d, rfl, hT.fst.rd, hT.snd.rd, hn, (own_cap hT.fst).2.2, (own_cap hT.snd).2.2, hb⟩
theorem noX_u {w : World} {lo hi : List Int} {e : Ending} {w' : World} (h : NoX w e w') : MeetsU w false lo hi e w' := by
  obtain ⟨rfl, hb⟩ := h
  exact ⟨none, 0, 0, none, 0, rfl, Rd.nil_, Rd.nil_, by omega, fun _ => rfl, fun _ => rfl, hb⟩
theorem meet_all {A B A' B' : Option Addr} {n c d n' c' d' : Nat} {al ah bl bh : List Int} {w : World} (r : Bool) (L H : List Int) (hr0 : meetT al ah bl bh = r) (hL : r = true → mxL al bl = L) (hH : r = true → mnL ah bh = H) (hr : rgtB al ah = true) (hr' : rgtB bl bh = true) (ha : Rd w A n al) (hb : Rd w B n ah) (ha' : Rd w A' n' bl) (hb' : Rd w B' n' bh) (hA : A = none → c = 0) (hB : B = none → d = 0) :
    Calls Try.prog 11 #[.agg #[.slice A n c, .slice B n d], .agg #[.slice A' n' c', .slice B' n' d']] w (MeetsU w r L H) := by
  have h16 : n ≤ 65536 := by have := (rgt_out hr).2.1; rw [ha.1] at this; omega
  by_cases hne : n = n'
  · subst hne
    have hl : al.length = bl.length := by rw [ha.1, ha'.1]
    refine (meet_in A B A' B' n c d c' d' al ah bl bh w hr hr' ha hb ha' hb' hA hB).mono fun e w' h => ?_
    have e0 : insB (mxL al bl) (mnL ah bh) (mxL al bl) = r := by rw [← hr0, meetT, decide_eq_true hl]; rfl
    rw [e0] at h
    cases r
    · exact noX_u h.out_no
    · rw [hL rfl, hH rfl] at h; exact meetsR_u (r := true) h h16
  · have hl : ¬ al.length = bl.length := by rw [ha.1, ha'.1]; exact hne
    have e0 : r = false := by rw [← hr0, meetT, decide_eq_false hl]; rfl
    subst e0
    exact (meet_out A B A' B' n c d n' c' d' al ah bl bh w hr hr' ha hb ha' hb' hne).mono fun e w' h => noX_u h
theorem refMeet_all {A B A' B' : Option Addr} {n c d n' c' d' : Nat} {al ah bl bh : List Int} {w : World} (r : Bool) (L H : List Int) (hr0 : meetT al ah bl bh = r) (hL : r = true → mxL al bl = L) (hH : r = true → mnL ah bh = H) (hr : rgtB al ah = true) (hr' : rgtB bl bh = true) (ha : Rd w A n al) (hb : Rd w B n ah) (ha' : Rd w A' n' bl) (hb' : Rd w B' n' bh) :
    Calls Try.prog 12 #[.agg #[.slice A n c, .slice B n d], .agg #[.slice A' n' c', .slice B' n' d']] w (MeetsU w r L H) := by
  have h16 : n ≤ 65536 := by have := (rgt_out hr).2.1; rw [ha.1] at this; omega
  have h17 : n' ≤ 65536 := by have := (rgt_out hr').2.1; rw [ha'.1] at this; omega
  by_cases hne : n = n'
  · subst hne
    have hl : al.length = bl.length := by rw [ha.1, ha'.1]
    refine (refMeet_in A B A' B' n c d c' d' al ah bl bh w h16 ha hb ha' hb').mono fun e w' h => ?_
    have e0 : insB (mxL al bl) (mnL ah bh) (mxL al bl) = r := by rw [← hr0, meetT, decide_eq_true hl]; rfl
    rw [e0] at h
    cases r
    · exact noX_u h.out_no
    · rw [hL rfl, hH rfl] at h; exact meetsR_u (r := true) h h16
  · have hl : ¬ al.length = bl.length := by rw [ha.1, ha'.1]; exact hne
    have e0 : r = false := by rw [← hr0, meetT, decide_eq_false hl]; rfl
    subst e0
    exact (refMeet_out A B A' B' n c d n' c' d' al ah bl bh w (by unfold maxLen; omega) (by unfold maxLen; omega) ha ha' hne).mono fun e w' h => noX_u h
theorem mx_comm : ∀ (a b : List Int), mxL a b = mxL b a
  | [], [] => rfl
  | [], _ :: _ => rfl
  | _ :: _, [] => rfl
  | x :: a, y :: b => by show max x y :: mxL a b = max y x :: mxL b a; rw [mx_comm a b, Int.max_comm]
theorem mn_comm : ∀ (a b : List Int), mnL a b = mnL b a
  | [], [] => rfl
  | [], _ :: _ => rfl
  | _ :: _, [] => rfl
  | x :: a, y :: b => by show min x y :: mnL a b = min y x :: mnL b a; rw [mn_comm a b, Int.min_comm]
theorem mx_self : ∀ (a : List Int), mxL a a = a
  | [] => rfl
  | x :: a => by show max x x :: mxL a a = x :: a; rw [mx_self a, Int.max_self]
theorem mn_self : ∀ (a : List Int), mnL a a = a
  | [] => rfl
  | x :: a => by show min x x :: mnL a a = x :: a; rw [mn_self a, Int.min_self]
theorem mx_assoc : ∀ (a b c : List Int), mxL (mxL a b) c = mxL a (mxL b c)
  | [], _, _ => by simp [mxL]
  | _ :: _, [], _ => by simp [mxL]
  | _ :: _, _ :: _, [] => by simp [mxL]
  | x :: a, y :: b, z :: c => by show max (max x y) z :: mxL (mxL a b) c = max x (max y z) :: mxL a (mxL b c); rw [mx_assoc a b c]; congr 1; omega
theorem mn_assoc : ∀ (a b c : List Int), mnL (mnL a b) c = mnL a (mnL b c)
  | [], _, _ => by simp [mnL]
  | _ :: _, [], _ => by simp [mnL]
  | _ :: _, _ :: _, [] => by simp [mnL]
  | x :: a, y :: b, z :: c => by show min (min x y) z :: mnL (mnL a b) c = min x (min y z) :: mnL a (mnL b c); rw [mn_assoc a b c]; congr 1; omega
theorem meetT_comm (al ah bl bh : List Int) : meetT bl bh al ah = meetT al ah bl bh := by
  unfold meetT
  rw [mx_comm bl al, mn_comm bh ah]
  congr 1
  exact decide_eq_decide.2 ⟨fun h => h.symm, fun h => h.symm⟩
theorem meetT_self (al ah : List Int) : meetT al ah al ah = insB al ah al := by
  unfold meetT
  rw [mx_self, mn_self, decide_eq_true rfl]; rfl
theorem ins_rng {lo hi : List Int} (h : lo.length = hi.length) : insB lo hi lo = decide (0 < (rngs lo hi).length) := by
  cases e : insB lo hi lo
  · symm
    refine decide_eq_false fun h0 => ?_
    obtain ⟨x, hx⟩ : ∃ x, (rngs lo hi)[0]? = some x := ⟨_, List.getElem?_eq_getElem h0⟩
    have := ins_self (rng_next h 0 x hx).2.2
    rw [e] at this
    cases this
  · symm
    refine decide_eq_true ?_
    have hp := prodL_pos (dims_pos e)
    rw [prod_rng h] at hp
    omega
theorem meetT_out {al ah bl bh : List Int} (h : meetT al ah bl bh = true) : al.length = bl.length ∧ insB (mxL al bl) (mnL ah bh) (mxL al bl) = true := by
  unfold meetT at h
  simpa using h
theorem meetT_right {al ah bl bh : List Int} (h1 : rgtB al ah = true) (h2 : rgtB bl bh = true) (h : meetT al ah bl bh = true) : rgtB (mxL al bl) (mnL ah bh) = true := meet_right h1 h2 (meetT_out h).1 (meetT_out h).2
theorem meetT_assoc {al ah bl bh cl ch : List Int} (h1 : al.length = bl.length) (h2 : bl.length = cl.length) : meetT (mxL al bl) (mnL ah bh) cl ch = meetT al ah (mxL bl cl) (mnL bh ch) := by
  unfold meetT
  rw [mx_assoc, mn_assoc]
  congr 1
  rw [decide_eq_true (by rw [mx_len h1]; omega), decide_eq_true (by rw [mx_len h2]; omega)]
theorem same_refl (lo hi : List Int) : sameB lo hi lo hi = true := by
  unfold sameB
  rw [eq_of rfl, eq_of rfl]; rfl
end Go.Proofs.Ytaegkiangjnmdaa.laws
