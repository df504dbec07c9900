/- The reference of package parse: tokens, Text and Line. The reference of package parse: Text and Line. The reference of package parse: Line. -/
import Derived.Test.YthgojbaindejjaaGreatDoorPsRFn
import Derived.Test.YthgojbaindejjaaGreatDoorPsText
import Derived.Test.YthgojbaindejjaaGreatDoorRefToks
import Derived.Test.YthgojbaindejjaaGreatDoorTreeRef
import Derived.Test.YthgojbaindejjaaGreatDoorPsROps
/- The reference of package parse: tokens, Text and Line. -/
namespace Go.Proofs.YthgojbaindejjaaGreatDoor.ps
open Go.ChangeShapes Go.WideShapes Go.ChangeAt Go.RowKit Go.Proofs.YthgojbaindejjaaGreatDoor.mem Go.Proofs.YthgojbaindejjaaGreatDoor.lx Go.Proofs.YthgojbaindejjaaGreatDoor.tr
set_option linter.unusedVariables false
set_option linter.unusedSimpArgs false

theorem size_lit (ns : List Int) : sizeT (lit ns) = 1 := by unfold lit; rw [size_node]; simp [sizeL]
theorem g_size {b : Bool} {l : List Tk} {T : Tr} (h : G b l T) : sizeT T ≤ l.length := by
  induction h with
  | name t h => show sizeT (Tr.node _ _ _ _ _ _) ≤ _; rw [size_node]; simp [sizeL]
  | zil t h => rw [size_lit]; simp
  | nums l h1 h2 =>
    rw [size_lit]
    cases l with
    | nil => exact absurd rfl h1
    | cons t r => simp
  | paren a b l T _ _ _ ih => simp; omega
  | op l T _ ih => exact ih
  | mon f F ax l T hf _ _ ih =>
    have := fn_len hf
    show sizeT (Tr.node _ _ _ _ _ _) ≤ _
    rw [size_node, List.length_append]; simp [sizeL]; omega
  | dy o u f F ax l T _ hf _ _ ih1 ih2 =>
    have := fn_len hf
    show sizeT (Tr.node _ _ _ _ _ _) ≤ _
    rw [size_node]; simp [sizeL]; omega
/-- What tokens answers. -/
def tokTo (ok : Bool) (L : List Tk) : Tr × Int := if ok = false then (zT, 1) else match exT L with
  | none => (zT, 1)
  | some T => if 100 < deepT T then (zT, 7) else (T, 0)
theorem zero6 {w X : World} (hb : Below w.heap.size w X) (E : Int) : TreeTo w zT E (.returned (.tuple #[.agg #[.int .i64 0, .int .i64 0, .int .i64 0, .string ⟨#[]⟩, .slice none 0 0, .slice none 0 0], .int .i64 E])) (put6z X w.heap.size (.int .i64 0) (.int .i64 0) (.int .i64 0) (.string ⟨#[]⟩) (.slice none 0 0) (.slice none 0 0)) :=
  ⟨⟨.int .i64 0, .int .i64 0, .int .i64 0, .string ⟨#[]⟩, .slice none 0 0, .slice none 0 0⟩, rfl, rd_zero, hb.trans (put6z_below (Nat.le_refl _))⟩
theorem tree6 {w X : World} {T : Tr} {B : Nat} {u : S6} (hb : Below w.heap.size w X) (hB : w.heap.size < B) (hT : RdQ (fun k => B ≤ k) X T u.agg) (E : Int) : TreeTo w T E (.returned (.tuple #[.agg #[u.c0, u.c1, u.c2, u.c3, u.c4, u.c5], .int .i64 E])) (put6z X w.heap.size u.c0 u.c1 u.c2 u.c3 u.c4 u.c5) := by
  refine ⟨u, rfl, hT.keep (put6z_below (B := 0) (Nat.zero_le _)).size (fun ad hq _ => World.cell?_of_block (put6z_block ?_)) (fun k hk => ?_), hb.trans (put6z_below (Nat.le_refl _))⟩
  · have : B ≤ ad.block := hq
    omega
  · have : B ≤ k := hk
    show w.heap.size ≤ k
    omega
set_option maxHeartbeats 1000000 in
set_option maxRecDepth 100000 in
theorem rtokens_any (hX : ∀ n, RxAt n) (ok : Bool) (L : List Tk) (w : World) (A : Option Addr) (m c : Nat) (h : RdK w A m L) (h1 : m ≤ 65536) (h2 : m ≤ c) (h3 : c ≤ maxLen) (h4 : A = none → c = 0) (hok : okL L) :
    Calls Tryz.prog 47 #[.slice A m c, .bool ok] w (TreeTo w (tokTo ok L).1 (tokTo ok L).2) := by
  obtain ⟨W, hW⟩ : ∃ W, W = w.alloc (.cells #[.int .i64 0, .int .i64 0, .int .i64 0, .string ⟨#[]⟩, .slice none 0 0, .slice none 0 0] 25) := ⟨_, rfl⟩
  obtain ⟨hS, hbW, hsW⟩ := six_new hW
  have HW := Lib.hid hW
  have HB := Lib.hid hbW
  have HZ := Lib.hid hsW
  cases ok with
  | false =>
    obtain ⟨c0, c1, c2, c3, c4, c5, hf⟩ := hS
    have f0 := hf 0; have f1 := hf 1; have f2 := hf 2; have f3 := hf 3; have f4 := hf 4; have f5 := hf 5
    have e1 : tokTo false L = (zT, 1) := by unfold tokTo; rw [if_pos rfl]
    rw [e1]
    clear hW hbW hsW hf e1
    go_enter Tryz.func47, Tryz.ntmps47
    go_upto_region 1 with fail
    rw [← HW.out]
    go_wp2_with fail
    refine bodyPost_ret (v := .tuple #[.agg #[.int .i64 0, .int .i64 0, .int .i64 0, .string ⟨#[]⟩, .slice none 0 0, .slice none 0 0], .int .i64 1]) (by simp [results, Tryz.results47, go_sem, c0, c1, c2, c3, c4, c5]) rfl ?_
    exact zero6 HB.out 1
  | true =>
    have PX := Lib.hid (hX (L.length + 1) W A m c L (h.below hbW) h1 h2 h3 h4 hok (Nat.lt_succ_self _))
    rw [rEx_exT (Nat.lt_succ_self _)] at PX
    have e1 : tokTo true L = (match exT L with | none => (zT, 1) | some T => if 100 < deepT T then (zT, 7) else (T, 0)) := by unfold tokTo; rw [if_neg (by decide)]
    rw [e1]
    have HG : Hid (∀ T, exT L = some T → sizeT T ≤ 65536) := Lib.hid fun T e => by
      have := g_size (exT_iff.1 e)
      have := h.1
      omega
    have HS := Lib.hid hS
    generalize exT L = XT at *
    clear hW hbW hsW hS e1 h h1 h2 h3 h4 hok hX
    cases XT with
    | none =>
      simp only []
      go_enter Tryz.func47, Tryz.ntmps47
      go_upto_region 1 with fail
      rw [← HW.out]
      go_wp2_with fail
      refine PX.out.mono ?_
      rintro e w1 ⟨hb, rfl⟩
      obtain ⟨V, hV⟩ : ∃ V, V = w1.alloc (.cells #[.int .i64 0, .int .i64 0, .int .i64 0, .string ⟨#[]⟩, .slice none 0 0, .slice none 0 0] 25) := ⟨_, rfl⟩
      have hbV : Below W.heap.size W V := hb.trans ((six_new hV).2.1.mono hb.size)
      obtain ⟨c0, c1, c2, c3, c4, c5, hf⟩ := HS.out.below hbV
      have f0 := hf 0; have f1 := hf 1; have f2 := hf 2; have f3 := hf 3; have f4 := hf 4; have f5 := hf 5
      have HBV := Lib.hid (HB.out.trans (hbV.mono HB.out.size))
      have HV := Lib.hid hV
      clear hb hbV hV hf
      unfold z6
      go_upto_region 4 with fail
      rw [← HV.out]
      go_wp2_with fail
      refine bodyPost_ret (v := .tuple #[.agg #[.int .i64 0, .int .i64 0, .int .i64 0, .string ⟨#[]⟩, .slice none 0 0, .slice none 0 0], .int .i64 1]) (by simp [results, Tryz.results47, go_sem, c0, c1, c2, c3, c4, c5]) rfl ?_
      exact zero6 HBV.out 1
    | some T =>
      simp only []
      have PD := Lib.hid (fun v V (h : RdT V T v) => refDepth_any T v V h (by have := HG.out T rfl; omega))
      generalize hdd : deepT T = dd at *
      have hdd2 : Hid (deepT T = dd) := Lib.hid hdd
      clear hdd
      by_cases hd : 100 < dd
      all_goals
        simp only [hd, if_true, if_false]
        have hi : ((100 : Int) < (dd : Int)) = (100 < dd) := by apply propext; omega
        simp only [hd] at hi
        go_enter Tryz.func47, Tryz.ntmps47
        go_upto_region 1 with fail
        rw [← HW.out]
        go_wp2_with fail
        refine PX.out.mono ?_
        rintro e w1 ⟨hb, u, rfl, hu⟩
        obtain ⟨k0, f0, a0, s0, A0, n0, q0, B0, m0, d0, rfl, -⟩ := RdQ_six hu
        obtain ⟨V, hV⟩ : ∃ V, V = w1.alloc (.cells #[.int .i64 k0, .int .i64 f0, .int .i64 a0, .string s0, .slice A0 n0 q0, .slice B0 m0 d0] 25) := ⟨_, rfl⟩
        obtain ⟨hS2, hb2, hs2⟩ := six_new hV
        have hbV : Below W.heap.size W V := hb.trans (hb2.mono hb.size)
        have HU := Lib.hid (hu.below hb2)
        have HBV := Lib.hid hbV
        obtain ⟨c0, c1, c2, c3, c4, c5, hf⟩ := HS.out.below hbV
        have g0 := hf 0; have g1 := hf 1; have g2 := hf 2; have g3 := hf 3; have g4 := hf 4; have g5 := hf 5
        have HS2 := Lib.hid hS2
        obtain ⟨y0, y1, y2, y3, y4, y5, -⟩ := hS2
        have PD2 := Lib.hid (PD.out _ V (HU.out.le fun _ _ => trivial))
        have HV := Lib.hid hV
        clear hb hb2 hs2 hbV hV hf hu
        simp only [S6.agg] at PD2 ⊢
        go_upto_region 4 with fail
        rw [← HV.out]
        go_wp2_with fail
        refine PD2.out.mono ?_
        rintro e w2 ⟨rfl, hb3⟩
        clear c0 c1 c2 c3 c4 c5 g0 g1 g2 g3 g4 g5 y0 y1 y2 y3 y4 y5
        have hbX : Below W.heap.size W w2 := HBV.out.trans (hb3.mono HBV.out.size)
        obtain ⟨c0, c1, c2, c3, c4, c5, hf⟩ := HS.out.below hbX
        have g0 := hf 0; have g1 := hf 1; have g2 := hf 2; have g3 := hf 3; have g4 := hf 4; have g5 := hf 5
        obtain ⟨y0, y1, y2, y3, y4, y5, -⟩ := HS2.out.below hb3
        have HU2 := Lib.hid (HU.out.below hb3)
        have HBX := Lib.hid (HB.out.trans (hbX.mono HB.out.size))
        clear hb3 hbX hf
        go_wp2_with fail
      · refine bodyPost_ret (v := .tuple #[.agg #[.int .i64 0, .int .i64 0, .int .i64 0, .string ⟨#[]⟩, .slice none 0 0, .slice none 0 0], .int .i64 7]) (by simp [results, Tryz.results47, go_sem, c0, c1, c2, c3, c4, c5]) rfl ?_
        exact zero6 HBX.out 7
      · refine bodyPost_ret (v := .tuple #[.agg #[.int .i64 k0, .int .i64 f0, .int .i64 a0, .string s0, .slice A0 n0 q0, .slice B0 m0 d0], .int .i64 0]) (by simp [results, Tryz.results47, go_sem, c0, c1, c2, c3, c4, c5]) rfl ?_
        exact tree6 HBX.out (by have := HZ.out; omega) HU2.out 0
end Go.Proofs.YthgojbaindejjaaGreatDoor.ps

/- The reference of package parse: Text and Line. -/
namespace Go.Proofs.YthgojbaindejjaaGreatDoor.ps
open Go.ChangeShapes Go.WideShapes Go.ChangeAt Go.RowKit Go.Proofs.YthgojbaindejjaaGreatDoor.mem Go.Proofs.YthgojbaindejjaaGreatDoor.lx Go.Proofs.YthgojbaindejjaaGreatDoor.tr
set_option linter.unusedVariables false
set_option linter.unusedSimpArgs false
attribute [local go_sem] tk_kind tk_text tk_num

theorem tokL_ok (l : List UInt8) : okL (tokL l) ∧ (tokL l).length ≤ 65536 ∧ (tokL l).length ≤ l.length := by
  unfold tokL
  cases h : toks l with
  | none => exact ⟨fun u hu => by simp at hu, by simp, by simp⟩
  | some M =>
    obtain ⟨h1, h2, h3, _⟩ := toks_ok h
    exact ⟨h1, h2, h3⟩
theorem tok_text (l : List UInt8) : tokTo (okB l) (tokL l) = (lineOf unN l).2 := by
  unfold tokTo okB tokL lineOf unN
  cases h : toks l with
  | none => simp
  | some M =>
    simp only [Option.isSome_some, Option.getD_some]
    cases exT M with
    | none => simp
    | some T => by_cases hd : 100 < deepT T <;> simp [hd]
theorem treeTo_le {w w1 : World} {T : Tr} {E : Int} {e : Ending} {w' : World} (hb : Below w.heap.size w w1) (h : TreeTo w1 T E e w') : TreeTo w T E e w' := by
  obtain ⟨u, h1, h2, h3⟩ := h
  exact ⟨u, h1, h2.le (fun k hk => Nat.le_trans hb.size hk), hb.trans (h3.mono hb.size)⟩
end Go.Proofs.YthgojbaindejjaaGreatDoor.ps

/- The reference of package parse: Line. -/
namespace Go.Proofs.YthgojbaindejjaaGreatDoor.ps
open Go.ChangeShapes Go.WideShapes Go.ChangeAt Go.RowKit Go.Proofs.YthgojbaindejjaaGreatDoor.mem Go.Proofs.YthgojbaindejjaaGreatDoor.lx Go.Proofs.YthgojbaindejjaaGreatDoor.tr
set_option linter.unusedVariables false
set_option linter.unusedSimpArgs false
attribute [local go_sem] tk_kind tk_text tk_num

/-- The line behind what tokens answers. -/
def lnOf (nm : List UInt8) (TE : Tr × Int) : List UInt8 × Tr × Int := if TE.2 = 0 then (nm, TE.1, 0) else ([], zT, TE.2)
theorem line_tok (l : List UInt8) : lineOf asN l = lnOf (asN (tokL l)).1 (tokTo (okB l) (asN (tokL l)).2) := by
  unfold lineOf lnOf tokTo okB tokL
  cases h : toks l with
  | none => simp [asN]
  | some M =>
    simp only [Option.isSome_some, Option.getD_some]
    cases exT (asN M).2 with
    | none => simp
    | some T => by_cases hd : 100 < deepT T <;> simp [hd]
theorem read7 {w X : World} {T : Tr} {B : Nat} {u : S6} (nm : List UInt8) (hb : Below w.heap.size w X) (hB : w.heap.size < B) (hT : RdQ (fun k => B ≤ k) X T u.agg) (E : Int) :
    ReadTo w (nm, T, E) (.returned (.tuple #[.agg #[.string (txt.strOf nm), u.c0, u.c1, u.c2, u.c3, u.c4, u.c5], .int .i64 E])) (put7 X w.heap.size (.string (txt.strOf nm)) u.c0 u.c1 u.c2 u.c3 u.c4 u.c5) := by
  refine ⟨u, rfl, hT.keep (put7_below (B := 0) (Nat.zero_le _)).size (fun ad hq _ => World.cell?_of_block (put7_block ?_)) (fun k hk => ?_), hb.trans (put7_below (Nat.le_refl _))⟩
  · have : B ≤ ad.block := hq
    omega
  · have : B ≤ k := hk
    show w.heap.size ≤ k
    omega
theorem read0 {w X : World} (hb : Below w.heap.size w X) (E : Int) :
    ReadTo w ([], zT, E) (.returned (.tuple #[.agg #[.string ⟨#[]⟩, .int .i64 0, .int .i64 0, .int .i64 0, .string ⟨#[]⟩, .slice none 0 0, .slice none 0 0], .int .i64 E])) (put7 X w.heap.size (.string ⟨#[]⟩) (.int .i64 0) (.int .i64 0) (.int .i64 0) (.string ⟨#[]⟩) (.slice none 0 0) (.slice none 0 0)) :=
  ⟨⟨.int .i64 0, .int .i64 0, .int .i64 0, .string ⟨#[]⟩, .slice none 0 0, .slice none 0 0⟩, rfl, rd_zero, hb.trans (put7_below (Nat.le_refl _))⟩
theorem str_nil : txt.strOf ([] : List UInt8) = ⟨#[]⟩ := rfl
theorem asN_ways {L : List Tk} (hok : okL L) : (L.length ≤ 1 ∧ asN L = ([], L)) ∨ (∃ t a R, L = t :: a :: R ∧ t.k ≠ 1 ∧ asN L = ([], L)) ∨ (∃ t a R, L = t :: a :: R ∧ t.k = 1 ∧ ¬ isG a gArr ∧ asN L = ([], L)) ∨ (∃ t a R, L = t :: a :: R ∧ t.k = 1 ∧ isG a gArr ∧ asN L = (t.t, R)) := by
  match L, hok with
  | [], _ => exact .inl ⟨by simp, rfl⟩
  | [t], _ => exact .inl ⟨by simp, rfl⟩
  | t :: a :: R, hok =>
    have hga : a.t = gArr ↔ isG a gArr := gly_is (hok a (by simp)) (by decide)
    by_cases h1 : t.k = 1
    · by_cases h2 : isG a gArr
      · exact .inr (.inr (.inr ⟨t, a, R, rfl, h1, h2, by show (if t.k = 1 ∧ a.t = gArr then (t.t, R) else ([], t :: a :: R)) = _; rw [if_pos ⟨h1, hga.2 h2⟩]⟩))
      · exact .inr (.inr (.inl ⟨t, a, R, rfl, h1, h2, by show (if t.k = 1 ∧ a.t = gArr then (t.t, R) else ([], t :: a :: R)) = _; rw [if_neg (fun h => h2 (hga.1 h.2))]⟩))
    · exact .inr (.inl ⟨t, a, R, rfl, h1, by show (if t.k = 1 ∧ a.t = gArr then (t.t, R) else ([], t :: a :: R)) = _; rw [if_neg (fun h => h1 h.1)]⟩)
set_option maxHeartbeats 4000000 in
set_option maxRecDepth 100000 in
theorem rline_any (hX : ∀ n, RxAt n) (l : List UInt8) (hl : l.length ≤ 9223372036854775807) (w : World) : Calls Tryz.prog 29 #[.string (txt.strOf l)] w (ReadTo w (lineOf asN l)) := by
  rw [line_tok]
  obtain ⟨W, hW⟩ : ∃ W, W = w.alloc (.cells #[.string ⟨#[]⟩, .int .i64 0, .int .i64 0, .int .i64 0, .string ⟨#[]⟩, .slice none 0 0, .slice none 0 0] 32) := ⟨_, rfl⟩
  obtain ⟨hS, hbW, hsW⟩ := seven_new hW
  have HW := Lib.hid hW
  have HB := Lib.hid hbW
  have HZ := Lib.hid hsW
  have HS := Lib.hid hS
  have PT := Lib.hid (refTokens_any (txt.strOf l) (by rw [txt.strOf_size]; exact hl) W)
  rw [bl_str] at PT
  obtain ⟨h1, h2, h3⟩ := tokL_ok l
  generalize tokL l = L at *
  generalize okB l = ok at *
  have PX := Lib.hid (fun V A m c Z (hr : RdK V A m Z) (g1 : m ≤ 65536) (g2 : m ≤ c) (g3 : c ≤ maxLen) (g4 : A = none → c = 0) (g5 : okL Z) => rtokens_any hX ok Z V A m c hr g1 g2 g3 g4 g5)
  have hOK := h1
  have HOK := Lib.hid hOK
  have HLN := Lib.hid h2
  have hways := asN_ways h1
  clear hW hS hbW hsW h1 h3 hX hl hOK
  rcases hways with ⟨hlen, hA⟩ | ⟨t, a, R, rfl, hk, hA⟩ | ⟨t, a, R, rfl, hk, hg, hA⟩ | ⟨t, a, R, rfl, hk, hg, hA⟩
  · rw [hA]
    simp only []
    have g1 : ¬ ((1 : Int) < (L.length : Int)) := by omega
    clear hlen hA
    obtain ⟨TE, hTE⟩ : ∃ TE, TE = tokTo ok L := ⟨_, rfl⟩
    rw [← hTE]
    obtain ⟨T, E⟩ := TE
    have HTE := Lib.hid hTE
    clear hTE
    go_enter Tryz.func29, Tryz.ntmps29
    go_upto_region 1 with fail
    rw [← HW.out]
    go_wp2_with fail
    refine PT.out.mono ?_
    rintro e w1 ⟨A, c, rfl, ho, hb⟩
    have HO := Lib.hid ho
    have HB1 := Lib.hid hb
    obtain ⟨A', c', e1, q1, q2, q3⟩ := ho.form
    injection e1 with e1 e2 e3
    subst e1 e3
    have P2 := Lib.hid (PX.out w1 A L.length c L HO.out.rd HLN.out q1 q2 q3 HOK.out)
    have HQ := Lib.hid (And.intro q1 q2)
    clear q1 q2 q3 e2 ho hb
    rw [← HTE.out] at P2
    have HE : Hid (lnOf ([] : List UInt8) (T, E) = if E = 0 then (([] : List UInt8), T, 0) else ([], zT, E)) := Lib.hid rfl
    clear HTE
    simp only [] at P2
    go_wp2_with fail
    refine P2.out.mono ?_
    rintro e w2 ⟨u, rfl, hu, hb2⟩
    obtain ⟨k0, f0, a0, s0, A0, n0, q0, B0, m0, d0, rfl, -⟩ := RdQ_six hu
    obtain ⟨V, hV⟩ : ∃ V, V = w2.alloc (.cells #[.int .i64 k0, .int .i64 f0, .int .i64 a0, .string s0, .slice A0 n0 q0, .slice B0 m0 d0] 25) := ⟨_, rfl⟩
    obtain ⟨hS2, hb3, hs3⟩ := six_new hV
    have hbV : Below W.heap.size W V := HB1.out.trans ((hb2.trans (hb3.mono hb2.size)).mono HB1.out.size)
    obtain ⟨s0', s1', s2', s3', s4', s5', s6', sf⟩ := HS.out.below hbV
    have sf0 := sf 0; have sf1 := sf 1; have sf2 := sf 2; have sf3 := sf 3; have sf4 := sf 4; have sf5 := sf 5; have sf6 := sf 6
    obtain ⟨y0, y1, y2, y3, y4, y5, -⟩ := hS2
    have HU := Lib.hid ((hu.below hb3).le (Q' := fun k => W.heap.size ≤ k) fun k hk => Nat.le_trans HB1.out.size hk)
    have HBV := Lib.hid (HB.out.trans (hbV.mono HB.out.size))
    have ne : w.heap.size ≠ w2.heap.size := by have := HZ.out; have := HB1.out.size; have := hb2.size; omega
    have HV := Lib.hid hV
    clear hb2 hb3 hs3 hbV hV hu sf
    simp only [S6.agg]
    go_upto_region 7 with fail
    rw [← HV.out]
    by_cases hE : E = 0
    · subst hE
      go_wp2_with fail
      refine bodyPost_ret (v := .tuple #[.agg #[.string ⟨#[]⟩, .int .i64 k0, .int .i64 f0, .int .i64 a0, .string s0, .slice A0 n0 q0, .slice B0 m0 d0], .int .i64 0]) (by simp [results, Tryz.results29, go_sem, s0', s1', s2', s3', s4', s5', s6']) rfl ?_
      have hh := read7 (u := ⟨.int .i64 k0, .int .i64 f0, .int .i64 a0, .string s0, .slice A0 n0 q0, .slice B0 m0 d0⟩) ([] : List UInt8) HBV.out (by have := HZ.out; omega) HU.out 0
      try rw [str_nil] at hh
      rw [HE.out]
      first | rw [if_pos rfl] | rw [if_pos trivial]
      exact hh
    · have he1 : (E != 0) = true := by simpa using hE
      have he2 : (E == 0) = false := by simpa using hE
      go_wp2_with fail
      refine bodyPost_ret (v := .tuple #[.agg #[.string ⟨#[]⟩, .int .i64 0, .int .i64 0, .int .i64 0, .string ⟨#[]⟩, .slice none 0 0, .slice none 0 0], .int .i64 E]) (by simp [results, Tryz.results29, go_sem, s0', s1', s2', s3', s4', s5', s6']) rfl ?_
      rw [HE.out, if_neg hE]
      exact read0 HBV.out E
  · rw [hA]
    simp only []
    have hk1 : (t.k == 1) = false := by simpa using hk
    have hk2 : (t.k != 1) = true := by simpa using hk
    generalize hLL : t :: a :: R = L at *
    have g1 : (1 : Int) < (L.length : Int) := by rw [← hLL]; simp; omega
    have g0 : (0 : Int) < (L.length : Int) := by omega
    have g2 : 0 < L.length := by omega
    clear hA
    obtain ⟨TE, hTE⟩ : ∃ TE, TE = tokTo ok L := ⟨_, rfl⟩
    rw [← hTE]
    obtain ⟨T, E⟩ := TE
    have HTE := Lib.hid hTE
    clear hTE
    go_enter Tryz.func29, Tryz.ntmps29
    go_upto_region 1 with fail
    rw [← HW.out]
    go_wp2_with fail
    refine PT.out.mono ?_
    rintro e w1 ⟨A, c, rfl, ho, hb⟩
    have HO := Lib.hid ho
    have HB1 := Lib.hid hb
    obtain ⟨A', c', e1, q1, q2, q3⟩ := ho.form
    injection e1 with e1 e2 e3
    subst e1 e3
    have HLL := Lib.hid hLL
    obtain ⟨ad, rfl, d0, d1⟩ := rdK_snd (R := R) (t := t) (a := a) (by rw [hLL]; exact HO.out.rd)
    clear hLL
    have P2 := Lib.hid (PX.out w1 (some ad) L.length c L HO.out.rd HLN.out q1 q2 q3 HOK.out)
    have HQ := Lib.hid (And.intro q1 q2)
    clear q1 q2 q3 e2 ho hb
    rw [← HTE.out] at P2
    have HE : Hid (lnOf ([] : List UInt8) (T, E) = if E = 0 then (([] : List UInt8), T, 0) else ([], zT, E)) := Lib.hid rfl
    clear HTE
    simp only [] at P2
    go_wp2_with fail
    refine P2.out.mono ?_
    rintro e w2 ⟨u, rfl, hu, hb2⟩
    obtain ⟨k0, f0, a0, s0, A0, n0, q0, B0, m0, d0, rfl, -⟩ := RdQ_six hu
    obtain ⟨V, hV⟩ : ∃ V, V = w2.alloc (.cells #[.int .i64 k0, .int .i64 f0, .int .i64 a0, .string s0, .slice A0 n0 q0, .slice B0 m0 d0] 25) := ⟨_, rfl⟩
    obtain ⟨hS2, hb3, hs3⟩ := six_new hV
    have hbV : Below W.heap.size W V := HB1.out.trans ((hb2.trans (hb3.mono hb2.size)).mono HB1.out.size)
    obtain ⟨s0', s1', s2', s3', s4', s5', s6', sf⟩ := HS.out.below hbV
    have sf0 := sf 0; have sf1 := sf 1; have sf2 := sf 2; have sf3 := sf 3; have sf4 := sf 4; have sf5 := sf 5; have sf6 := sf 6
    obtain ⟨y0, y1, y2, y3, y4, y5, -⟩ := hS2
    have HU := Lib.hid ((hu.below hb3).le (Q' := fun k => W.heap.size ≤ k) fun k hk => Nat.le_trans HB1.out.size hk)
    have HBV := Lib.hid (HB.out.trans (hbV.mono HB.out.size))
    have ne : w.heap.size ≠ w2.heap.size := by have := HZ.out; have := HB1.out.size; have := hb2.size; omega
    have HV := Lib.hid hV
    clear hb2 hb3 hs3 hbV hV hu sf
    simp only [S6.agg]
    go_upto_region 7 with fail
    rw [← HV.out]
    by_cases hE : E = 0
    · subst hE
      go_wp2_with fail
      refine bodyPost_ret (v := .tuple #[.agg #[.string ⟨#[]⟩, .int .i64 k0, .int .i64 f0, .int .i64 a0, .string s0, .slice A0 n0 q0, .slice B0 m0 d0], .int .i64 0]) (by simp [results, Tryz.results29, go_sem, s0', s1', s2', s3', s4', s5', s6']) rfl ?_
      have hh := read7 (u := ⟨.int .i64 k0, .int .i64 f0, .int .i64 a0, .string s0, .slice A0 n0 q0, .slice B0 m0 d0⟩) ([] : List UInt8) HBV.out (by have := HZ.out; omega) HU.out 0
      try rw [str_nil] at hh
      rw [HE.out]
      first | rw [if_pos rfl] | rw [if_pos trivial]
      exact hh
    · have he1 : (E != 0) = true := by simpa using hE
      have he2 : (E == 0) = false := by simpa using hE
      go_wp2_with fail
      refine bodyPost_ret (v := .tuple #[.agg #[.string ⟨#[]⟩, .int .i64 0, .int .i64 0, .int .i64 0, .string ⟨#[]⟩, .slice none 0 0, .slice none 0 0], .int .i64 E]) (by simp [results, Tryz.results29, go_sem, s0', s1', s2', s3', s4', s5', s6']) rfl ?_
      rw [HE.out, if_neg hE]
      exact read0 HBV.out E
  · rw [hA]
    simp only []
    have hk1 : (t.k == 1) = true := by simpa using hk
    have hk2 : (t.k != 1) = false := by simpa using hk
    generalize hLL : t :: a :: R = L at *
    have g1 : (1 : Int) < (L.length : Int) := by rw [← hLL]; simp; omega
    have g0 : (0 : Int) < (L.length : Int) := by omega
    have g2 : 0 < L.length := by omega
    have ha1 : L[1]? = some a := by rw [← hLL]; rfl
    clear hA
    obtain ⟨TE, hTE⟩ : ∃ TE, TE = tokTo ok L := ⟨_, rfl⟩
    rw [← hTE]
    obtain ⟨T, E⟩ := TE
    have HTE := Lib.hid hTE
    clear hTE
    go_enter Tryz.func29, Tryz.ntmps29
    go_upto_region 1 with fail
    rw [← HW.out]
    go_wp2_with fail
    refine PT.out.mono ?_
    rintro e w1 ⟨A, c, rfl, ho, hb⟩
    have HO := Lib.hid ho
    have HB1 := Lib.hid hb
    obtain ⟨A', c', e1, q1, q2, q3⟩ := ho.form
    injection e1 with e1 e2 e3
    subst e1 e3
    have HLL := Lib.hid hLL
    obtain ⟨ad, rfl, d0, d1⟩ := rdK_snd (R := R) (t := t) (a := a) (by rw [hLL]; exact HO.out.rd)
    have PG := Lib.hid (glyph_at (c := c) gArr HO.out.rd ha1 HLN.out)
    rw [decide_eq_false hg] at PG
    clear hLL ha1 hg
    go_wp2_with fail
    refine PG.out.mono ?_
    rintro e w9 ⟨rfl, hw9⟩
    obtain rfl := hw9.symm
    clear hw9
    have P2 := Lib.hid (PX.out w1 (some ad) L.length c L HO.out.rd HLN.out q1 q2 q3 HOK.out)
    have HQ := Lib.hid (And.intro q1 q2)
    clear q1 q2 q3 e2 ho hb
    rw [← HTE.out] at P2
    have HE : Hid (lnOf ([] : List UInt8) (T, E) = if E = 0 then (([] : List UInt8), T, 0) else ([], zT, E)) := Lib.hid rfl
    clear HTE
    simp only [] at P2
    go_wp2_with fail
    refine P2.out.mono ?_
    rintro e w2 ⟨u, rfl, hu, hb2⟩
    obtain ⟨k0, f0, a0, s0, A0, n0, q0, B0, m0, d0, rfl, -⟩ := RdQ_six hu
    obtain ⟨V, hV⟩ : ∃ V, V = w2.alloc (.cells #[.int .i64 k0, .int .i64 f0, .int .i64 a0, .string s0, .slice A0 n0 q0, .slice B0 m0 d0] 25) := ⟨_, rfl⟩
    obtain ⟨hS2, hb3, hs3⟩ := six_new hV
    have hbV : Below W.heap.size W V := HB1.out.trans ((hb2.trans (hb3.mono hb2.size)).mono HB1.out.size)
    obtain ⟨s0', s1', s2', s3', s4', s5', s6', sf⟩ := HS.out.below hbV
    have sf0 := sf 0; have sf1 := sf 1; have sf2 := sf 2; have sf3 := sf 3; have sf4 := sf 4; have sf5 := sf 5; have sf6 := sf 6
    obtain ⟨y0, y1, y2, y3, y4, y5, -⟩ := hS2
    have HU := Lib.hid ((hu.below hb3).le (Q' := fun k => W.heap.size ≤ k) fun k hk => Nat.le_trans HB1.out.size hk)
    have HBV := Lib.hid (HB.out.trans (hbV.mono HB.out.size))
    have ne : w.heap.size ≠ w2.heap.size := by have := HZ.out; have := HB1.out.size; have := hb2.size; omega
    have HV := Lib.hid hV
    clear hb2 hb3 hs3 hbV hV hu sf
    simp only [S6.agg]
    go_upto_region 7 with fail
    rw [← HV.out]
    by_cases hE : E = 0
    · subst hE
      go_wp2_with fail
      refine bodyPost_ret (v := .tuple #[.agg #[.string ⟨#[]⟩, .int .i64 k0, .int .i64 f0, .int .i64 a0, .string s0, .slice A0 n0 q0, .slice B0 m0 d0], .int .i64 0]) (by simp [results, Tryz.results29, go_sem, s0', s1', s2', s3', s4', s5', s6']) rfl ?_
      have hh := read7 (u := ⟨.int .i64 k0, .int .i64 f0, .int .i64 a0, .string s0, .slice A0 n0 q0, .slice B0 m0 d0⟩) ([] : List UInt8) HBV.out (by have := HZ.out; omega) HU.out 0
      try rw [str_nil] at hh
      rw [HE.out]
      first | rw [if_pos rfl] | rw [if_pos trivial]
      exact hh
    · have he1 : (E != 0) = true := by simpa using hE
      have he2 : (E == 0) = false := by simpa using hE
      go_wp2_with fail
      refine bodyPost_ret (v := .tuple #[.agg #[.string ⟨#[]⟩, .int .i64 0, .int .i64 0, .int .i64 0, .string ⟨#[]⟩, .slice none 0 0, .slice none 0 0], .int .i64 E]) (by simp [results, Tryz.results29, go_sem, s0', s1', s2', s3', s4', s5', s6']) rfl ?_
      rw [HE.out, if_neg hE]
      exact read0 HBV.out E
  · rw [hA]
    simp only []
    have hk1 : (t.k == 1) = true := by simpa using hk
    have hk2 : (t.k != 1) = false := by simpa using hk
    generalize hLL : t :: a :: R = L at *
    have g1 : (1 : Int) < (L.length : Int) := by rw [← hLL]; simp; omega
    have g0 : (0 : Int) < (L.length : Int) := by omega
    have g2 : 0 < L.length := by omega
    have ha1 : L[1]? = some a := by rw [← hLL]; rfl
    have hR : L.length = R.length + 2 := by rw [← hLL]; rfl
    have hokR : okL R := fun u hu => HOK.out u (by rw [← hLL]; simp [hu])
    clear hA
    obtain ⟨TE, hTE⟩ : ∃ TE, TE = tokTo ok R := ⟨_, rfl⟩
    rw [← hTE]
    obtain ⟨T, E⟩ := TE
    have HTE := Lib.hid hTE
    clear hTE
    go_enter Tryz.func29, Tryz.ntmps29
    go_upto_region 1 with fail
    rw [← HW.out]
    go_wp2_with fail
    refine PT.out.mono ?_
    rintro e w1 ⟨A, c, rfl, ho, hb⟩
    have HO := Lib.hid ho
    have HB1 := Lib.hid hb
    obtain ⟨A', c', e1, q1, q2, q3⟩ := ho.form
    injection e1 with e1 e2 e3
    subst e1 e3
    have HLL := Lib.hid hLL
    obtain ⟨ad, rfl, d0, d1⟩ := rdK_snd (R := R) (t := t) (a := a) (by rw [hLL]; exact HO.out.rd)
    obtain ⟨ad', e1', _, z0, z1, z2⟩ := rdK_at HO.out.rd (show L[0]? = some t by rw [← hLL]; rfl)
    have PG := Lib.hid (glyph_at (c := c) gArr HO.out.rd ha1 HLN.out)
    rw [decide_eq_true hg] at PG
    have hXL : RdK w1 (some (ad.add (2 * 3))) (L.length - 2) ((L.take L.length).drop 2) := rdK_cut HO.out.rd (by omega) (Nat.le_refl _) (fun a e _ => by injection e with e; rw [e])
    have eR : (L.take L.length).drop 2 = R := by rw [List.take_length, ← hLL]; rfl
    have e6 : ad.add (2 * 3) = ⟨ad.block, ad.off + 6, none⟩ := by unfold Addr.add; simp
    have ha0 : ad.add (0 * 3) = ad := by unfold Addr.add; simp
    rw [eR, e6] at hXL
    injection e1' with e1'
    subst e1'
    rw [ha0] at z1
    have hcut : (2 : Int) ≤ (L.length : Int) := by omega
    have hcut2 : 2 ≤ L.length := by omega
    have HR := Lib.hid hR
    clear hLL ha1 hg eR z0 z2 ha0 hR d1 e6
    by_cases hc : c = 2
    · subst hc
      have hRn : R = [] := by
        have := HR.out
        cases R with
        | nil => rfl
        | cons x y => simp at this; omega
      have P2 := Lib.hid (PX.out w1 (some ad) (L.length - 2) 0 R (by
        have h0 : L.length - 2 = 0 := by have := HR.out; rw [hRn] at this; simp at this; omega
        rw [h0, hRn]
        exact ⟨rfl, fun j x h => by cases h⟩) (by omega) (by have := HR.out; rw [hRn] at this; simp at this; omega) (by unfold maxLen; omega) (fun e => by cases e) hokR)
      clear hRn hXL
      go_wp2_with fail
      refine PG.out.mono ?_
      rintro e w9 ⟨rfl, hw9⟩
      obtain rfl := hw9.symm
      clear hw9
      have HQ := Lib.hid (And.intro q1 q2)
      clear q1 q2 q3 e2 ho hb
      rw [← HTE.out] at P2
      have HE : Hid (lnOf t.t (T, E) = if E = 0 then (t.t, T, 0) else ([], zT, E)) := Lib.hid rfl
      clear HTE
      simp only [] at P2
      go_wp2_with fail
      refine P2.out.mono ?_
      rintro e w2 ⟨u, rfl, hu, hb2⟩
      obtain ⟨k0, f0, a0, s0, A0, n0, q0, B0, m0, d0, rfl, -⟩ := RdQ_six hu
      obtain ⟨V, hV⟩ : ∃ V, V = w2.alloc (.cells #[.int .i64 k0, .int .i64 f0, .int .i64 a0, .string s0, .slice A0 n0 q0, .slice B0 m0 d0] 25) := ⟨_, rfl⟩
      obtain ⟨hS2, hb3, hs3⟩ := six_new hV
      have hbV : Below W.heap.size W V := HB1.out.trans ((hb2.trans (hb3.mono hb2.size)).mono HB1.out.size)
      obtain ⟨s0', s1', s2', s3', s4', s5', s6', sf⟩ := HS.out.below hbV
      have sf0 := sf 0; have sf1 := sf 1; have sf2 := sf 2; have sf3 := sf 3; have sf4 := sf 4; have sf5 := sf 5; have sf6 := sf 6
      obtain ⟨y0, y1, y2, y3, y4, y5, -⟩ := hS2
      have HU := Lib.hid ((hu.below hb3).le (Q' := fun k => W.heap.size ≤ k) fun k hk => Nat.le_trans HB1.out.size hk)
      have HBV := Lib.hid (HB.out.trans (hbV.mono HB.out.size))
      have ne : w.heap.size ≠ w2.heap.size := by have := HZ.out; have := HB1.out.size; have := hb2.size; omega
      have HV := Lib.hid hV
      clear hb2 hb3 hs3 hbV hV hu sf
      simp only [S6.agg]
      go_upto_region 7 with fail
      rw [← HV.out]
      by_cases hE : E = 0
      · subst hE
        go_wp2_with fail
        refine bodyPost_ret (v := .tuple #[.agg #[.string (txt.strOf t.t), .int .i64 k0, .int .i64 f0, .int .i64 a0, .string s0, .slice A0 n0 q0, .slice B0 m0 d0], .int .i64 0]) (by simp [results, Tryz.results29, go_sem, s0', s1', s2', s3', s4', s5', s6']) rfl ?_
        have hh := read7 (u := ⟨.int .i64 k0, .int .i64 f0, .int .i64 a0, .string s0, .slice A0 n0 q0, .slice B0 m0 d0⟩) t.t HBV.out (by have := HZ.out; omega) HU.out 0
        try rw [str_nil] at hh
        rw [HE.out]
        first | rw [if_pos rfl] | rw [if_pos trivial]
        exact hh
      · have he1 : (E != 0) = true := by simpa using hE
        have he2 : (E == 0) = false := by simpa using hE
        go_wp2_with fail
        refine bodyPost_ret (v := .tuple #[.agg #[.string ⟨#[]⟩, .int .i64 0, .int .i64 0, .int .i64 0, .string ⟨#[]⟩, .slice none 0 0, .slice none 0 0], .int .i64 E]) (by simp [results, Tryz.results29, go_sem, s0', s1', s2', s3', s4', s5', s6']) rfl ?_
        rw [HE.out, if_neg hE]
        exact read0 HBV.out E
    · have P2 := Lib.hid (PX.out w1 (some ⟨ad.block, ad.off + 6, none⟩) (L.length - 2) (c - 2) R hXL (by have := HLN.out; omega) (by omega) (by omega) (fun e => by cases e) hokR)
      have hc1 : 2 < c := by omega
      have hc2 : ¬ c - 2 = 0 := by omega
      clear hXL
      go_wp2_with fail
      refine PG.out.mono ?_
      rintro e w9 ⟨rfl, hw9⟩
      obtain rfl := hw9.symm
      clear hw9
      have HQ := Lib.hid (And.intro q1 q2)
      clear q1 q2 q3 e2 ho hb
      rw [← HTE.out] at P2
      have HE : Hid (lnOf t.t (T, E) = if E = 0 then (t.t, T, 0) else ([], zT, E)) := Lib.hid rfl
      clear HTE
      simp only [] at P2
      go_wp2_with fail
      refine P2.out.mono ?_
      rintro e w2 ⟨u, rfl, hu, hb2⟩
      obtain ⟨k0, f0, a0, s0, A0, n0, q0, B0, m0, d0, rfl, -⟩ := RdQ_six hu
      obtain ⟨V, hV⟩ : ∃ V, V = w2.alloc (.cells #[.int .i64 k0, .int .i64 f0, .int .i64 a0, .string s0, .slice A0 n0 q0, .slice B0 m0 d0] 25) := ⟨_, rfl⟩
      obtain ⟨hS2, hb3, hs3⟩ := six_new hV
      have hbV : Below W.heap.size W V := HB1.out.trans ((hb2.trans (hb3.mono hb2.size)).mono HB1.out.size)
      obtain ⟨s0', s1', s2', s3', s4', s5', s6', sf⟩ := HS.out.below hbV
      have sf0 := sf 0; have sf1 := sf 1; have sf2 := sf 2; have sf3 := sf 3; have sf4 := sf 4; have sf5 := sf 5; have sf6 := sf 6
      obtain ⟨y0, y1, y2, y3, y4, y5, -⟩ := hS2
      have HU := Lib.hid ((hu.below hb3).le (Q' := fun k => W.heap.size ≤ k) fun k hk => Nat.le_trans HB1.out.size hk)
      have HBV := Lib.hid (HB.out.trans (hbV.mono HB.out.size))
      have ne : w.heap.size ≠ w2.heap.size := by have := HZ.out; have := HB1.out.size; have := hb2.size; omega
      have HV := Lib.hid hV
      clear hb2 hb3 hs3 hbV hV hu sf
      simp only [S6.agg]
      go_upto_region 7 with fail
      rw [← HV.out]
      by_cases hE : E = 0
      · subst hE
        go_wp2_with fail
        refine bodyPost_ret (v := .tuple #[.agg #[.string (txt.strOf t.t), .int .i64 k0, .int .i64 f0, .int .i64 a0, .string s0, .slice A0 n0 q0, .slice B0 m0 d0], .int .i64 0]) (by simp [results, Tryz.results29, go_sem, s0', s1', s2', s3', s4', s5', s6']) rfl ?_
        have hh := read7 (u := ⟨.int .i64 k0, .int .i64 f0, .int .i64 a0, .string s0, .slice A0 n0 q0, .slice B0 m0 d0⟩) t.t HBV.out (by have := HZ.out; omega) HU.out 0
        try rw [str_nil] at hh
        rw [HE.out]
        first | rw [if_pos rfl] | rw [if_pos trivial]
        exact hh
      · have he1 : (E != 0) = true := by simpa using hE
        have he2 : (E == 0) = false := by simpa using hE
        go_wp2_with fail
        refine bodyPost_ret (v := .tuple #[.agg #[.string ⟨#[]⟩, .int .i64 0, .int .i64 0, .int .i64 0, .string ⟨#[]⟩, .slice none 0 0, .slice none 0 0], .int .i64 E]) (by simp [results, Tryz.results29, go_sem, s0', s1', s2', s3', s4', s5', s6']) rfl ?_
        rw [HE.out, if_neg hE]
        exact read0 HBV.out E
end Go.Proofs.YthgojbaindejjaaGreatDoor.ps
