/- Both Minus, in every case; the cells of a piece. -/
import Derived.Test.YtaegkiangjnmdaaBoxRefMinus2
import Derived.Test.YtaegkiangjnmdaaBoxMinus
namespace Go.Proofs.Ytaegkiangjnmdaa.laws
open Go.ChangeShapes Go.WideShapes Go.ChangeAt Go.RowKit Go.Proofs.Ytaegkiangjnmdaa.mem Go.Proofs.Ytaegkiangjnmdaa.prod Go.Proofs.Ytaegkiangjnmdaa.shp Go.Proofs.Ytaegkiangjnmdaa.strd Go.Proofs.Ytaegkiangjnmdaa.gam Go.Proofs.Ytaegkiangjnmdaa.sml Go.Proofs.Ytaegkiangjnmdaa.all Go.Proofs.Ytaegkiangjnmdaa.odo Go.Proofs.Ytaegkiangjnmdaa.eql Go.Proofs.Ytaegkiangjnmdaa.arr Go.Proofs.Ytaegkiangjnmdaa.bx
set_option linter.unusedVariables false

theorem minL_yes {al ah bl bh : List Int} (h : meetT al ah bl bh = true) : minL al ah bl bh = pcs [] [] al ah (mxL al bl) (mnL ah bh) := by
  unfold minL
  rw [if_pos (meetT_out h)]
theorem minL_no {al ah bl bh : List Int} (h : meetT al ah bl bh = false) : minL al ah bl bh = [(al, ah)].filter neB := by
  unfold minL
  rw [if_neg fun e => ?_]
  have : meetT al ah bl bh = true := by unfold meetT; rw [decide_eq_true e.1, e.2]; rfl
  rw [h] at this
  cases this
theorem meet_ne {al ah bl bh : List Int} (h1 : al.length = ah.length) (h2 : bl.length = bh.length) (h : meetT al ah bl bh = true) : insB al ah al = true := by
  obtain ⟨h3, h4⟩ := meetT_out h
  rw [ins_meet h1 h2 h3, Bool.and_eq_true] at h4
  exact ins_self h4.1
theorem listsX_of {t : TypeId} {w : World} {L : List Bx} {e : Ending} {w' : World} (h : MakesXs t w L e w') : ListsX w L e w' := by
  obtain ⟨P, c, rfl, ho, hb⟩ := h
  exact ⟨P, c, rfl, (ho.le (Nat.zero_le _)).rd, hb⟩
theorem meet_nox {A B A' B' : Option Addr} {n c d n' c' d' : Nat} {al ah bl bh : List Int} {w : World} (hm : meetT al ah bl bh = false) (hr : rgtB al ah = true) (hr' : rgtB bl bh = true) (ha : Rd w A n al) (hb : Rd w B n ah) (ha' : Rd w A' n' bl) (hb' : Rd w B' n' bh) (hA : A = none → c = 0) (hB : B = none → d = 0) :
    Calls Try.prog 11 #[.agg #[.slice A n c, .slice B n d], .agg #[.slice A' n' c', .slice B' n' d']] w (NoX w) := by
  by_cases hne : n = n'
  · subst hne
    have hl : al.length = bl.length := by rw [ha.1, ha'.1]
    have e0 : insB (mxL al bl) (mnL ah bh) (mxL al bl) = false := by rw [← hm, meetT, decide_eq_true hl]; rfl
    exact (meet_in A B A' B' n c d c' d' al ah bl bh w hr hr' ha hb ha' hb' hA hB).mono fun e w' h => by rw [e0] at h; exact h.out_no
  · exact meet_out A B A' B' n c d n' c' d' al ah bl bh w hr hr' ha hb ha' hb' hne
theorem refMeet_nox {A B A' B' : Option Addr} {n c d n' c' d' : Nat} {al ah bl bh : List Int} {w : World} (hm : meetT al ah bl bh = false) (hn : n ≤ 16) (hn' : n' ≤ 16) (ha : Rd w A n al) (hb : Rd w B n ah) (ha' : Rd w A' n' bl) (hb' : Rd w B' n' bh) :
    Calls Try.prog 12 #[.agg #[.slice A n c, .slice B n d], .agg #[.slice A' n' c', .slice B' n' d']] w (NoX w) := by
  by_cases hne : n = n'
  · subst hne
    have hl : al.length = bl.length := by rw [ha.1, ha'.1]
    have e0 : insB (mxL al bl) (mnL ah bh) (mxL al bl) = false := by rw [← hm, meetT, decide_eq_true hl]; rfl
    exact (refMeet_in A B A' B' n c d c' d' al ah bl bh w (by omega) ha hb ha' hb').mono fun e w' h => by rw [e0] at h; exact h.out_no
  · exact refMeet_out A B A' B' n c d n' c' d' al ah bl bh w (by unfold maxLen; omega) (by unfold maxLen; omega) ha ha' hne
theorem minus_all {A B A' B' : Option Addr} {n c d n' c' d' : Nat} {al ah bl bh : List Int} {w : World} (hr : rgtB al ah = true) (hr' : rgtB bl bh = true) (ha : Rd w A n al) (hb : Rd w B n ah) (ha' : Rd w A' n' bl) (hb' : Rd w B' n' bh) (hA : A = none → c = 0) (hB : B = none → d = 0) (hcm : c ≤ maxLen) (hdm : d ≤ maxLen) (hnc : n ≤ c) (hnd : n ≤ d) :
    Calls Try.prog 18 #[.agg #[.slice A n c, .slice B n d], .agg #[.slice A' n' c', .slice B' n' d']] w (ListsX w (minL al ah bl bh)) := by
  cases hm : meetT al ah bl bh
  · rw [minL_no hm]
    exact (minus_out A B A' B' n c d n' c' d' al ah w hr ha hb hA hB fun V h => meet_nox hm hr hr' (ha.below h) (hb.below h) (ha'.below h) (hb'.below h) hA hB).mono fun e w' h => listsX_of h
  · rw [minL_yes hm]
    obtain ⟨h1, h2⟩ := meetT_out hm
    obtain rfl : n = n' := by rw [ha.1, ha'.1] at h1; exact h1
    exact (minus_in A B A' B' n c d c' d' al ah bl bh w hr hr' ha hb ha' hb' hA hB hcm hdm hnc hnd h2).mono fun e w' h => listsX_of h
theorem refMinus_all {A B A' B' : Option Addr} {n c d n' c' d' : Nat} {al ah bl bh : List Int} {w : World} (hr : rgtB al ah = true) (hr' : rgtB bl bh = true) (ha : Rd w A n al) (hb : Rd w B n ah) (ha' : Rd w A' n' bl) (hb' : Rd w B' n' bh) (hA : A = none → c = 0) (hB : B = none → d = 0) (hA' : A' = none → c' = 0) (hB' : B' = none → d' = 0) (hcm : c ≤ maxLen) (hdm : d ≤ maxLen) (hnc : n ≤ c) (hnd : n ≤ d) :
    Calls Try.prog 19 #[.agg #[.slice A n c, .slice B n d], .agg #[.slice A' n' c', .slice B' n' d']] w (ListsX w (minL al ah bl bh)) := by
  have h16 : n ≤ 16 := by have := (rgt_out hr).2.1; rw [ha.1] at this; exact this
  have h17 : n' ≤ 16 := by have := (rgt_out hr').2.1; rw [ha'.1] at this; exact this
  have hn : n ≤ maxLen := by unfold maxLen; omega
  cases he : insB al ah al
  · have hm : meetT al ah bl bh = false := by
      cases hm : meetT al ah bl bh
      · rfl
      · have := meet_ne (rgt_out hr).1 (rgt_out hr').1 hm
        rw [he] at this
        cases this
    have e0 : minL al ah bl bh = [] := by rw [minL_no hm, List.filter_cons_of_neg (by show ¬ insB al ah al = true; rw [he]; simp)]; rfl
    rw [e0]
    exact refMinus_empty A B A' B' n c d n' c' n' d' al ah w hn ha hb hA hB he
  · cases hm : meetT al ah bl bh
    · have e0 : minL al ah bl bh = [(al, ah)] := by rw [minL_no hm, List.filter_cons_of_pos (by show insB al ah al = true; exact he)]; rfl
      rw [e0]
      exact refMinus_apart A B A' B' n c d n' c' n' d' al ah bl bh w hn ha hb hA hB hnc hcm hnd hdm he ha' hb' hA' hB' fun W x1 x2 x3 x4 => Lib.hid (refMeet_nox hm h16 h17 x1 x2 x3 x4)
    · rw [minL_yes hm]
      obtain ⟨h1, h2⟩ := meetT_out hm
      obtain rfl : n = n' := by rw [ha.1, ha'.1] at h1; exact h1
      exact refMinus_in A B A' B' n c d c' d' al ah bl bh w h16 ha hb hA hB he ha' hb' hA' hB' h2
theorem dims_le2 : ∀ {lo hi : List Int}, (∀ x ∈ lo, 0 ≤ x ∧ x ≤ 65536) → (∀ x ∈ hi, 0 ≤ x ∧ x ≤ 65536) → ∀ x ∈ dimsL lo hi, x ≤ 65536
  | [], _, _, _, x, hx => by simp [dimsL] at hx
  | _ :: _, [], _, _, x, hx => by simp [dimsL] at hx
  | a :: lo, b :: hi, h1, h2, x, hx => by
    have ha := h1 a (by simp)
    have hb := h2 b (by simp)
    rcases List.mem_cons.1 (show x ∈ max (b - a) 0 :: dimsL lo hi from hx) with rfl | hx
    · omega
    · exact dims_le2 (fun z hz => h1 z (by simp [hz])) (fun z hz => h2 z (by simp [hz])) x hx
/-- The cells of one of the pieces. -/
theorem cells_piece {A B : Option Addr} {n c d : Nat} {al ah bl bh : List Int} {p : Bx} {w : World} (most : Int) (hs : smallB al ah most = true) (hm : 0 ≤ most) (hm2 : most ≤ 1000) (hb : bl.length = bh.length) (hp : p ∈ minL al ah bl bh) (h1 : Rd w A n p.1) (h2 : Rd w B n p.2) :
    Calls Try.prog 15 #[.agg #[.slice A n c, .slice B n d]] w (MakesO w (rngs p.1 p.2)) := by
  obtain ⟨g1, g2, g3, g4, g5⟩ := small_out hs
  have hw := min_wi g2 hb p hp
  have hr := min_right g1 hb p hp
  obtain ⟨f1, f2, f3⟩ := rgt_out hr
  have hbd := end_bound f1 f3
  have := g5 hm
  refine refCells_any A B n c d p.1 p.2 w (by have := h1.1; omega) h1 h2 (wide_of hbd.1) (wide_of hbd.2) ?_ (fun k => by have := (wi_prod k hw).2.1; omega)
  exact dims_le2 hbd.1 hbd.2
end Go.Proofs.Ytaegkiangjnmdaa.laws
