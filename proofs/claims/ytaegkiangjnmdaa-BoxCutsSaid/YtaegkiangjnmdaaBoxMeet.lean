/- Package box: Intersect. -/
import Derived.Test.YtaegkiangjnmdaaBoxMake
import Derived.StillTailTactics
import Derived.Deep.QuietTactic
import Derived.BigQuiet
namespace Go.Proofs.Ytaegkiangjnmdaa.bx
open Go.ChangeShapes Go.WideShapes Go.ChangeAt Go.RowKit Go.Proofs.Ytaegkiangjnmdaa.mem Go.Proofs.Ytaegkiangjnmdaa.prod Go.Proofs.Ytaegkiangjnmdaa.shp Go.Proofs.Ytaegkiangjnmdaa.strd Go.Proofs.Ytaegkiangjnmdaa.gam Go.Proofs.Ytaegkiangjnmdaa.sml Go.Proofs.Ytaegkiangjnmdaa.all Go.Proofs.Ytaegkiangjnmdaa.odo Go.Proofs.Ytaegkiangjnmdaa.eql Go.Proofs.Ytaegkiangjnmdaa.arr
set_option linter.unusedVariables false

/-- Three structs of two cells, made one after the other. -/
theorem boxes3 {w W : World} {x0 x1 y0 y1 z0 z1 : Value} {t u v : TypeId} (hW : W = ((w.alloc (.cells #[x0, x1] t)).alloc (.cells #[y0, y1] u)).alloc (.cells #[z0, z1] v)) :
    Below w.heap.size w W ∧ W.heap.size = w.heap.size + 3 ∧ ∀ V, Below W.heap.size W V →
      V.cell? ⟨w.heap.size, 0, none⟩ = some x0 ∧ V.cell? ⟨w.heap.size, 1, none⟩ = some x1 ∧ V.cell? ⟨w.heap.size + 1, 0, none⟩ = some y0 ∧ V.cell? ⟨w.heap.size + 1, 1, none⟩ = some y1 ∧ V.cell? ⟨w.heap.size + 2, 0, none⟩ = some z0 ∧ V.cell? ⟨w.heap.size + 2, 1, none⟩ = some z1 ∧
      V.frozen? ⟨w.heap.size + 2, 0, none⟩ = false ∧ V.frozen? ⟨w.heap.size + 2, 1, none⟩ = false := by
  obtain ⟨V1, h1⟩ : ∃ V1, V1 = w.alloc (.cells #[x0, x1] t) := ⟨_, rfl⟩
  obtain ⟨V2, h2⟩ : ∃ V2, V2 = V1.alloc (.cells #[y0, y1] u) := ⟨_, rfl⟩
  rw [← h1, ← h2] at hW
  have s1 : V1.heap.size = w.heap.size + 1 := by rw [h1]; simp
  have s2 : V2.heap.size = w.heap.size + 2 := by rw [h2]; simp [s1]
  have hs : W.heap.size = w.heap.size + 3 := by rw [hW]; simp [s2]
  have b1 : Below w.heap.size w V1 := by rw [h1]; exact one_below _ _ _
  have b2 : Below V1.heap.size V1 V2 := by rw [h2]; exact one_below _ _ _
  have b3 : Below V2.heap.size V2 W := by rw [hW]; exact one_below _ _ _
  have c0 : V1.cell? ⟨w.heap.size, 0, none⟩ = some x0 ∧ V1.cell? ⟨w.heap.size, 1, none⟩ = some x1 := by rw [h1]; simp
  have c1 : V2.cell? ⟨w.heap.size + 1, 0, none⟩ = some y0 ∧ V2.cell? ⟨w.heap.size + 1, 1, none⟩ = some y1 := by rw [h2, ← s1]; simp
  have c2 : W.cell? ⟨w.heap.size + 2, 0, none⟩ = some z0 ∧ W.cell? ⟨w.heap.size + 2, 1, none⟩ = some z1 ∧ W.frozen? ⟨w.heap.size + 2, 0, none⟩ = false ∧ W.frozen? ⟨w.heap.size + 2, 1, none⟩ = false := by rw [hW, ← s2]; simp
  refine ⟨below_step (below_step b1 b2) b3, hs, fun V h => ?_⟩
  have h23 := below_step b3 h
  have h13 := below_step b2 h23
  have l2 : w.heap.size + 2 < W.heap.size := by omega
  exact ⟨(h13.cell (p := ⟨w.heap.size, 0, none⟩) (by show w.heap.size < _; omega)).trans c0.1, (h13.cell (p := ⟨w.heap.size, 1, none⟩) (by show w.heap.size < _; omega)).trans c0.2, (h23.cell (p := ⟨w.heap.size + 1, 0, none⟩) (by show w.heap.size + 1 < _; omega)).trans c1.1, (h23.cell (p := ⟨w.heap.size + 1, 1, none⟩) (by show w.heap.size + 1 < _; omega)).trans c1.2,
    (h.cell (p := ⟨w.heap.size + 2, 0, none⟩) l2).trans c2.1, (h.cell (p := ⟨w.heap.size + 2, 1, none⟩) l2).trans c2.2.1, (h.frozen (p := ⟨w.heap.size + 2, 0, none⟩) l2).trans c2.2.2.1, (h.frozen (p := ⟨w.heap.size + 2, 1, none⟩) l2).trans c2.2.2.2⟩

/-- The first k elements of U, the others of V. -/
def mixU (U V : List Int) (k : Nat) : List Int := U.take k ++ V.drop k
theorem mixU_zero (U V : List Int) : mixU U V 0 = V := by simp [mixU]
theorem mixU_all {U V : List Int} {k : Nat} (h : U.length = k) (h' : V.length = k) : mixU U V k = U := by
  unfold mixU; rw [List.take_of_length_le (by omega), List.drop_of_length_le (by omega), List.append_nil]
theorem mixU_len {U V : List Int} (k : Nat) (h : U.length = V.length) : (mixU U V k).length = V.length := by simp [mixU, h]; omega
theorem mixU_at {U V : List Int} {k : Nat} {x : Int} (h : U.length = V.length) (hx : V[k]? = some x) : (mixU U V k)[k]? = some x := by
  obtain ⟨hk, _⟩ := List.getElem?_eq_some_iff.1 hx
  have hl : (U.take k).length = k := by simp; omega
  unfold mixU
  rw [List.getElem?_append_right (by omega), hl, List.getElem?_drop]
  simpa using hx
theorem mixU_set {U V : List Int} {k : Nat} {u : Int} (h : U.length = V.length) (hu : U[k]? = some u) : (mixU U V k).set k u = mixU U V (k + 1) := by
  obtain ⟨hk, _⟩ := List.getElem?_eq_some_iff.1 hu
  have hl : (U.take k).length = k := by simp; omega
  unfold mixU
  rw [List.set_append_right _ _ (by omega), hl, drop_at (List.getElem?_eq_getElem (show k < V.length by omega)), take_snoc hu]
  simp only [Nat.sub_self, List.set_cons_zero, List.append_assoc, List.cons_append, List.nil_append]

theorem meet_right {al ah bl bh : List Int} (h1 : rgtB al ah = true) (h2 : rgtB bl bh = true) (h3 : al.length = bl.length) (h : insB (mxL al bl) (mnL ah bh) (mxL al bl) = true) : rgtB (mxL al bl) (mnL ah bh) = true := by
  obtain ⟨g1, g2, g3⟩ := rgt_out h1
  obtain ⟨f1, f2, f3⟩ := rgt_out h2
  have l1 := mx_len h3
  have l2 := mn_len (a := ah) (b := bh) (by omega)
  exact rgt_of (by omega) (by omega) (wi_end (wi_meet g1 f1 h3) g3 (ins_order h))

/-- A box that is not right has no cells. -/
theorem has_no (A B C : Option Addr) (n c d l e : Nat) (lo hi xs : List Int) (w : World) (hn : n ≤ maxLen) (hr : rgtB lo hi = false) (ha : Rd w A n lo) (hb : Rd w B n hi) :
    Calls Try.prog 16 #[.agg #[.slice A n c, .slice B n d], .slice C l e] w (Says w false) := by
  have P1 := fun W h1 h2 => Lib.hid (hr ▸ right_any A B n c n d lo hi W hn hn h1 h2)
  have hbl := one_below w #[.slice A n c, .slice B n d] 27
  have HA := Lib.hid (ha.below hbl); have HB := Lib.hid (hb.below hbl); have HBL := Lib.hid hbl
  clear ha hb hbl hr
  go_enter Try.func16, Try.ntmps16
  go_wp2_with fail
  refine (P1 _ HA.out HB.out).out.mono ?_
  rintro e w1 ⟨rfl, hb⟩
  have HW1 := Lib.hid (HBL.out.trans (hb.mono HBL.out.size))
  clear hb
  go_wp2_with fail
  go_ret
  exact ⟨rfl, HW1.out⟩
theorem empty_gen (A B : Option Addr) (n c d : Nat) (lo hi : List Int) (w : World) (hn : n ≤ maxLen) (hr : insB lo hi lo = true → rgtB lo hi = true) (ha : Rd w A n lo) (hb : Rd w B n hi) :
    Calls Try.prog 26 #[.agg #[.slice A n c, .slice B n d]] w (Says w (!insB lo hi lo)) := by
  cases h : rgtB lo hi
  · have hf : insB lo hi lo = false := by
      cases hv : insB lo hi lo
      · rfl
      · rw [hr hv] at h; cases h
    rw [hf]
    have P1 := fun W h1 h2 => Lib.hid (has_no A B A n c d n c lo hi lo W hn h h1 h2)
    have hbl := one_below w #[.slice A n c, .slice B n d] 27
    have HA := Lib.hid (ha.below hbl); have HB := Lib.hid (hb.below hbl); have HBL := Lib.hid hbl
    clear ha hb hbl hr h hf
    go_enter Try.func26, Try.ntmps26
    go_wp2_with fail
    refine (P1 _ HA.out HB.out).out.mono ?_
    rintro e w1 ⟨rfl, hb⟩
    have HW1 := Lib.hid (HBL.out.trans (hb.mono HBL.out.size))
    clear hb
    go_wp2_with fail
    go_ret
    exact ⟨rfl, HW1.out⟩
  · exact empty_any A B n c d lo hi w hn h ha hb

theorem meet_out (A B A' B' : Option Addr) (n c d n' c' d' : Nat) (al ah bl bh : List Int) (w : World) (hr : rgtB al ah = true) (hr' : rgtB bl bh = true) (ha : Rd w A n al) (hb : Rd w B n ah) (ha' : Rd w A' n' bl) (hb' : Rd w B' n' bh) (hne : n ≠ n') :
    Calls Try.prog 11 #[.agg #[.slice A n c, .slice B n d], .agg #[.slice A' n' c', .slice B' n' d']] w (NoX w) := by
  have hn : n ≤ maxLen := by have := (rgt_out hr).2.1; rw [ha.1] at this; unfold maxLen; omega
  have hn' : n' ≤ maxLen := by have := (rgt_out hr').2.1; rw [ha'.1] at this; unfold maxLen; omega
  have P1 := fun W h1 h2 => Lib.hid (hr ▸ right_any A B n c n d al ah W hn hn h1 h2)
  have P2 := fun W h1 h2 => Lib.hid (hr' ▸ right_any A' B' n' c' n' d' bl bh W hn' hn' h1 h2)
  obtain ⟨W, hW⟩ : ∃ W, W = ((w.alloc (.cells #[.slice A n c, .slice B n d] 27)).alloc (.cells #[.slice A' n' c', .slice B' n' d'] 27)).alloc (.cells #[.slice none 0 0, .slice none 0 0] 27) := ⟨_, rfl⟩
  obtain ⟨hbl, hsz, KC⟩ := boxes3 hW
  have HX := Lib.hid (ha.below hbl); have HY := Lib.hid (hb.below hbl); have HX' := Lib.hid (ha'.below hbl); have HY' := Lib.hid (hb'.below hbl)
  have HB := Lib.hid hbl
  have HW := Lib.hid hW
  have HKC := Lib.hid KC
  obtain ⟨k1, k2, k3, k4, k5, k6, k7, k8⟩ := KC W (Below.refl _ _)
  have hni : ¬ (n : Int) = (n' : Int) := by omega
  clear ha hb ha' hb' hbl hsz hW KC hr hr' hn hn' hne
  go_enter Try.func11, Try.ntmps11
  go_wp2_with fail
  rw [← HW.out]
  refine (P1 _ HX.out HY.out).out.mono ?_
  rintro e w1 ⟨rfl, hb⟩
  have HB1 := Lib.hid hb
  have HX1 := Lib.hid (HX'.out.below hb); have HY1 := Lib.hid (HY'.out.below hb)
  clear k1 k2 k3 k4 k5 k6 k7 k8
  obtain ⟨k1, k2, k3, k4, k5, k6, k7, k8⟩ := HKC.out _ hb
  clear hb
  go_wp2_with fail
  refine (P2 _ HX1.out HY1.out).out.mono ?_
  rintro e w2 ⟨rfl, hb⟩
  have HB2 := Lib.hid (below_step HB1.out hb)
  clear k1 k2 k3 k4 k5 k6 k7 k8
  obtain ⟨k1, k2, k3, k4, k5, k6, k7, k8⟩ := HKC.out _ HB2.out
  clear hb
  go_wp2_with fail
  refine bodyPost_ret (v := .tuple #[.agg #[.slice none 0 0, .slice none 0 0], .bool false]) (by simp [results, Try.results11, go_sem, *]) rfl ⟨rfl, two_below (HB.out.trans (HB2.out.mono HB.out.size)) (by omega)⟩

/-- What Intersect answers, the ranks being the same. -/
def MeetsR (r : Bool) (w : World) (n : Nat) (lo hi : List Int) (e : Ending) (w' : World) : Prop := if r = true then MakesXB w n n lo hi e w' else NoX w e w'
theorem MeetsR.yes {w : World} {n : Nat} {lo hi : List Int} {e : Ending} {w' : World} (h : MakesXB w n n lo hi e w') : MeetsR true w n lo hi e w' := h
theorem MeetsR.no {w : World} {n : Nat} {lo hi : List Int} {e : Ending} {w' : World} (h : NoX w e w') : MeetsR false w n lo hi e w' := h
theorem MeetsR.out {w : World} {n : Nat} {lo hi : List Int} {e : Ending} {w' : World} (h : MeetsR true w n lo hi e w') : MakesXB w n n lo hi e w' := h
theorem MeetsR.out_no {w : World} {n : Nat} {lo hi : List Int} {e : Ending} {w' : World} (h : MeetsR false w n lo hi e w') : NoX w e w' := h
theorem Box2.aside {w : World} {b g j : Nat} {x y v : Value} (h : Box2 w b x y) (hne : b ≠ g) : Box2 (w.setCell ⟨g, j, none⟩ v) b x y :=
  ⟨(World.cell?_of_block (a := ⟨b, 0, none⟩) (Below.heap_setCell _ _ _ _ hne)).trans h.1, (World.cell?_of_block (a := ⟨b, 1, none⟩) (Below.heap_setCell _ _ _ _ hne)).trans h.2.1, by simpa [World.setCell] using h.2.2⟩
theorem Two.set1 {w : World} {B g g' n p m q : Nat} {xs ys : List Int} (h : Two w B (.slice (some ⟨g, 0, none⟩) n p) (.slice (some ⟨g', 0, none⟩) m q) xs ys) (k : Nat) (x : Int) :
    Two (w.setCell ⟨g, k, none⟩ (.int .i64 x)) B (.slice (some ⟨g, 0, none⟩) n p) (.slice (some ⟨g', 0, none⟩) m q) (xs.set k x) ys :=
  ⟨h.fst.set_ k x, OwnT.own ((Own.t h.snd).aside (p := ⟨g, k, none⟩) (fun e => h.apart g rfl (by have e' : g = g' := e; rw [e']; rfl)) (.int .i64 x)), h.apart⟩
theorem Two.set2 {w : World} {B g g' n p m q : Nat} {xs ys : List Int} (h : Two w B (.slice (some ⟨g, 0, none⟩) n p) (.slice (some ⟨g', 0, none⟩) m q) xs ys) (k : Nat) (x : Int) :
    Two (w.setCell ⟨g', k, none⟩ (.int .i64 x)) B (.slice (some ⟨g, 0, none⟩) n p) (.slice (some ⟨g', 0, none⟩) m q) xs (ys.set k x) :=
  ⟨OwnT.own ((Own.t h.fst).aside (p := ⟨g', k, none⟩) (fun e => h.apart g rfl (by have e' : g' = g := e; rw [e']; rfl)) (.int .i64 x)), h.snd.set_ k x, h.apart⟩

set_option maxHeartbeats 4000000 in
theorem meet_in (A B A' B' : Option Addr) (n c d c' d' : Nat) (al ah bl bh : List Int) (w : World) (hr : rgtB al ah = true) (hr' : rgtB bl bh = true) (ha : Rd w A n al) (hb : Rd w B n ah) (ha' : Rd w A' n bl) (hb' : Rd w B' n bh) (hA : A = none → c = 0) (hB : B = none → d = 0) :
    Calls Try.prog 11 #[.agg #[.slice A n c, .slice B n d], .agg #[.slice A' n c', .slice B' n d']] w (MeetsR (insB (mxL al bl) (mnL ah bh) (mxL al bl)) w n (mxL al bl) (mnL ah bh)) := by
  have h16 : n ≤ 16 := by have := (rgt_out hr).2.1; rw [ha.1] at this; omega
  have hn : n ≤ maxLen := by unfold maxLen; omega
  have P1 := fun W h1 h2 => Lib.hid (hr ▸ right_any A B n c n d al ah W hn hn h1 h2)
  have P2 := fun W h1 h2 => Lib.hid (hr' ▸ right_any A' B' n c' n d' bl bh W hn hn h1 h2)
  have P3 := fun W h1 h2 => Lib.hid (duplicate_any A B n c n d al ah W (by omega) (by omega) h1 h2 hA hB)
  have P4 := fun P p Q q W h1 h2 => empty_gen P Q n p q (mxL al bl) (mnL ah bh) W hn (meet_right hr hr' (by rw [ha.1, ha'.1])) h1 h2
  obtain ⟨W, hW⟩ : ∃ W, W = ((w.alloc (.cells #[.slice A n c, .slice B n d] 27)).alloc (.cells #[.slice A' n c', .slice B' n d'] 27)).alloc (.cells #[.slice none 0 0, .slice none 0 0] 27) := ⟨_, rfl⟩
  obtain ⟨hbl, hsz, KC⟩ := boxes3 hW
  have HX := Lib.hid (ha.below hbl); have HY := Lib.hid (hb.below hbl); have HX' := Lib.hid (ha'.below hbl); have HY' := Lib.hid (hb'.below hbl)
  have HB := Lib.hid hbl; have HSZ := Lib.hid hsz
  have HW := Lib.hid hW
  have HKC := Lib.hid KC
  have HL1 := Lib.hid (show (mxL al bl).length = al.length from mx_len (by rw [ha.1, ha'.1])); have HL2 := Lib.hid (show (mnL ah bh).length = ah.length from mn_len (by rw [hb.1, hb'.1]))
  have HMX := Lib.hid (fun (k : Nat) x y (h1 : al[k]? = some x) (h2 : bl[k]? = some y) => mx_at h1 h2)
  have HMN := Lib.hid (fun (k : Nat) x y (h1 : ah[k]? = some x) (h2 : bh[k]? = some y) => mn_at h1 h2)
  obtain ⟨U1, hU1⟩ : ∃ U, U = mxL al bl := ⟨_, rfl⟩
  obtain ⟨U2, hU2⟩ : ∃ U, U = mnL ah bh := ⟨_, rfl⟩
  rw [← hU1, ← hU2] at P4 ⊢
  rw [← hU1] at HL1 HMX
  rw [← hU2] at HL2 HMN
  obtain ⟨k1, k2, k3, k4, k5, k6, k7, k8⟩ := KC W (Below.refl _ _)
  generalize insB U1 U2 U1 = r at *
  have P4 := fun P p Q q W h1 h2 => Lib.hid (P4 P p Q q W h1 h2)
  rename_i q1
  clear q1 ha hb ha' hb' hbl hsz hW KC hr hr' hn hU1 hU2 hA hB
  go_enter Try.func11, Try.ntmps11
  go_wp2_with fail
  rw [← HW.out]
  refine (P1 _ HX.out HY.out).out.mono ?_
  rintro e w1 ⟨rfl, hb⟩
  have HB1 := Lib.hid hb
  have HX1 := Lib.hid (HX'.out.below hb); have HY1 := Lib.hid (HY'.out.below hb)
  clear k1 k2 k3 k4 k5 k6 k7 k8
  obtain ⟨k1, k2, k3, k4, k5, k6, k7, k8⟩ := HKC.out _ hb
  clear hb
  go_wp2_with fail
  refine (P2 _ HX1.out HY1.out).out.mono ?_
  rintro e w2 ⟨rfl, hb⟩
  have HB2 := Lib.hid (below_step HB1.out hb)
  clear k1 k2 k3 k4 k5 k6 k7 k8
  obtain ⟨k1, k2, k3, k4, k5, k6, k7, k8⟩ := HKC.out _ HB2.out
  have HX2 := Lib.hid (HX.out.below HB2.out); have HY2 := Lib.hid (HY.out.below HB2.out)
  clear hb
  go_wp2_with fail
  refine (P3 _ HX2.out HY2.out).out.mono ?_
  rintro e w3 ⟨P, p, Q, q, rfl, hT, hb⟩
  have hbx := one_below w3 #[.slice P n p, .slice Q n q] 27
  have HB3 := Lib.hid (below_step (below_step HB2.out hb) hbx)
  have HT3 := Lib.hid ((hT.below hbx).le HB2.out.size)
  have HX3 := Lib.hid (box2_new w3 (.slice P n p) (.slice Q n q) 27)
  have HOLD := Lib.hid (show (∀ g, P = some ⟨g, 0, none⟩ → g < w3.heap.size) ∧ (∀ g, Q = some ⟨g, 0, none⟩ → g < w3.heap.size) from ⟨fun g e => (World.ownsRow.lt hT.fst g (by rw [e]; rfl)).2, fun g e => (World.ownsRow.lt hT.snd g (by rw [e]; rfl)).2⟩)
  have HST := Lib.hid (show Two (w3.alloc (.cells #[.slice P n p, .slice Q n q] 27)) W.heap.size (.slice P n p) (.slice Q n q) (mixU U1 al 0) (mixU U2 ah 0) by rw [mixU_zero, mixU_zero]; exact HT3.out)
  clear hb hbx hT k1 k2 k3 k4 k5 k6 k7 k8
  go_wp2_with fail
  go_loopw [31] (fun i wr => ∃ k : Nat, k ≤ n ∧ i = .int .i64 k ∧ Hid (Two wr W.heap.size (.slice P n p) (.slice Q n q) (mixU U1 al k) (mixU U2 ah k)) ∧ Hid (Box2 wr w3.heap.size (.slice P n p) (.slice Q n q)) ∧ Hid (Below W.heap.size W wr)) (fun i _ => n - (intOf i).toNat)
  case atStart => exact ⟨0, Nat.zero_le _, rfl, HST, HX3, HB3⟩
  case round =>
    obtain ⟨k, hk, rfl, HT, HBX, HBW⟩ := hrel
    by_cases hlt : k < n
    · obtain ⟨g, g', rfl, rfl, hne, hge, hge'⟩ : ∃ g g', P = some ⟨g, 0, none⟩ ∧ Q = some ⟨g', 0, none⟩ ∧ g ≠ g' ∧ W.heap.size ≤ g ∧ W.heap.size ≤ g' := by
        obtain ⟨g, cap, e, h1, _⟩ := World.ownsRow.form HT.out.fst (by rw [HT.out.fst.rd.1]; omega)
        obtain ⟨g', cap', e', h1', _⟩ := World.ownsRow.form HT.out.snd (by rw [HT.out.snd.rd.1]; omega)
        injection e with e1; injection e' with e1'
        subst e1; subst e1'
        exact ⟨g, g', rfl, rfl, fun e => HT.out.apart g rfl (by rw [e]; rfl), h1, h1'⟩
      obtain ⟨ad1, x, rfl, hx, hc1⟩ := (HX.out.below HBW.out).at_ hlt
      obtain ⟨ad2, y, rfl, hy, hc2⟩ := (HY.out.below HBW.out).at_ hlt
      obtain ⟨ad3, x', rfl, hx', hc3⟩ := (HX'.out.below HBW.out).at_ hlt
      obtain ⟨ad4, y', rfl, hy', hc4⟩ := (HY'.out.below HBW.out).at_ hlt
      obtain ⟨k1, k2, k3, k4, k5, k6, k7, k8⟩ := HKC.out _ HBW.out
      obtain ⟨j1, j2, _⟩ := HBX.out
      have hcg := HT.out.fst.cellAt (mixU_at HL1.out hx)
      have hfg := HT.out.fst.frozenAt k
      have hS1 := HT.out.set1 k (max x x')
      rw [mixU_set HL1.out (HMX.out k x x' hx hx')] at hS1
      have hi1 : (k : Int) < (n : Int) := by omega
      have HS1 := Lib.hid hS1
      have HQ := Lib.hid (And.intro hx (And.intro hy (And.intro hx' hy')))
      clear hx hx' hy hy' hS1 k5 k6 k7 k8
      go_wp2_with fail
      go_still_tail 15, (by kernel_rfl)
      have hcd : wr.drew.cell? ⟨g, k, none⟩ = some (.int .i64 x) := hcg
      have hfd : wr.drew.frozen? ⟨g, k, none⟩ = false := hfg
      have HSD := Lib.hid (show Two (wr.drew.setCell ⟨g, k, none⟩ (.int .i64 (max x x'))) W.heap.size (.slice (some ⟨g, 0, none⟩) n p) (.slice (some ⟨g', 0, none⟩) n q) (mixU U1 al (k + 1)) (mixU U2 ah k) from HS1.out.below (below_drewN (Below.refl _ _) 1))
      have HBD := Lib.hid (show Below W.heap.size W (wr.drew.setCell ⟨g, k, none⟩ (.int .i64 (max x x'))) from (below_drewN HBW.out 1).setCell hge _)
      have HOG := Lib.hid (HOLD.out.1 g rfl); have HOG' := Lib.hid (HOLD.out.2 g' rfl)
      have HXD := Lib.hid (show Box2 (wr.drew.setCell ⟨g, k, none⟩ (.int .i64 (max x x'))) w3.heap.size (.slice (some ⟨g, 0, none⟩) n p) (.slice (some ⟨g', 0, none⟩) n q) from (HBX.out.below (below_drewN (Below.refl _ _) 1)).aside (by have := HOG.out; omega))
      change wpList _ _ _ _ _ wr.drew
      generalize wr.drew = w4 at *
      clear hcg hfg hc1 hc2 hc3 hc4 k1 k2 k3 k4 j1 j2
      go_wp2_with fail
      all_goals
        obtain ⟨w5, hw5⟩ : ∃ w5, w5 = w4.setCell ⟨g, k, none⟩ (.int .i64 (max x x')) := ⟨_, rfl⟩
        rw [← hw5] at HSD HBD HXD
        first
          | (have e : max x x' = x' := by omega
             rw [e] at hw5)
          | (have e : max x x' = x := by omega
             rw [e] at hw5)
        rw [← hw5]
        obtain ⟨k1, k2, k3, k4, k5, k6, k7, k8⟩ := HKC.out _ HBD.out
        obtain ⟨j1, j2, _⟩ := HXD.out
        have hc1 := (HX.out.below HBD.out).cell_ HQ.out.1
        have hc2 := (HY.out.below HBD.out).cell_ HQ.out.2.1
        have hc3 := (HX'.out.below HBD.out).cell_ HQ.out.2.2.1
        have hc4 := (HY'.out.below HBD.out).cell_ HQ.out.2.2.2
        have hcg := HSD.out.snd.cellAt (mixU_at HL2.out HQ.out.2.1)
        have hfg := HSD.out.snd.frozenAt k
        have hS1 := HSD.out.set2 k (min y y')
        rw [mixU_set HL2.out (HMN.out k y y' HQ.out.2.1 HQ.out.2.2.2)] at hS1
        have HS1' := Lib.hid hS1
        clear hS1 hw5 k5 k6 k7 k8 hcd hfd
        go_still_tail 15, (by kernel_rfl)
        have hcd : w5.drew.cell? ⟨g', k, none⟩ = some (.int .i64 y) := hcg
        have hfd : w5.drew.frozen? ⟨g', k, none⟩ = false := hfg
        have HSE := Lib.hid (show Two (w5.drew.setCell ⟨g', k, none⟩ (.int .i64 (min y y'))) W.heap.size (.slice (some ⟨g, 0, none⟩) n p) (.slice (some ⟨g', 0, none⟩) n q) (mixU U1 al (k + 1)) (mixU U2 ah (k + 1)) from HS1'.out.below (below_drewN (Below.refl _ _) 1))
        have HBE := Lib.hid (show Below W.heap.size W (w5.drew.setCell ⟨g', k, none⟩ (.int .i64 (min y y'))) from (below_drewN HBD.out 1).setCell hge' _)
        have HXE := Lib.hid (show Box2 (w5.drew.setCell ⟨g', k, none⟩ (.int .i64 (min y y'))) w3.heap.size (.slice (some ⟨g, 0, none⟩) n p) (.slice (some ⟨g', 0, none⟩) n q) from (HXD.out.below (below_drewN (Below.refl _ _) 1)).aside (by have := HOG'.out; omega))
        change wpList _ _ _ _ _ w5.drew
        generalize w5.drew = w6 at *
        clear hcg hfg hc1 hc2 hc3 hc4 k1 k2 k3 k4 j1 j2
        go_wp2_with fail
        all_goals
          first
            | (have e : min y y' = (if y' < y then y' else y) := by split <;> omega
               rw [e] at HSE HBE HXE
               clear e)
            | skip
          go_roundw
          case rel => exact ⟨k + 1, by omega, by go_num, HSE, HXE, HBE⟩
          case measure => first | (simp [intOf]; done) | (simp [intOf]; omega)
    · obtain rfl : k = n := by omega
      have HTE := Lib.hid (show Two wr W.heap.size (.slice P k p) (.slice Q k q) U1 U2 by
        have := HT.out
        rwa [mixU_all (by rw [HL1.out]; exact HX.out.1) HX.out.1, mixU_all (by rw [HL2.out]; exact HY.out.1) HY.out.1] at this)
      obtain ⟨j1, j2, _⟩ := HBX.out
      go_wp2_with fail
      refine (P4 _ _ _ _ _ HTE.out.fst.rd HTE.out.snd.rd).out.mono ?_
      rintro e w7 ⟨rfl, hb⟩
      have HB7 := Lib.hid (below_step HBW.out hb)
      have HT7 := Lib.hid (HTE.out.below hb)
      clear j1 j2
      obtain ⟨k1, k2, k3, k4, k5, k6, k7, k8⟩ := HKC.out _ HB7.out
      obtain ⟨j1, j2, _⟩ := HBX.out.below hb
      clear hb k1 k2 k3 k4
      have HLE := Lib.hid (show W.heap.size ≥ w.heap.size + 3 from by have := HSZ.out; omega)
      cases r
      · go_wp2_with fail
        refine bodyPost_ret (v := .tuple #[.agg #[.slice none 0 0, .slice none 0 0], .bool false]) (by simp [results, Try.results11, go_sem, *]) rfl (MeetsR.no ⟨rfl, two_below (HB.out.trans (HB7.out.mono HB.out.size)) (by omega)⟩)
      · go_wp2_with fail
        have hle := HLE.out
        refine bodyPost_ret (v := .tuple #[.agg #[.slice P k p, .slice Q k q], .bool true]) (by simp [results, Try.results11, go_sem, *]) rfl (MeetsR.yes ⟨_, _, _, _, rfl, ?_, two_below (HB.out.trans (HB7.out.mono HB.out.size)) (by omega)⟩)
        exact (HT7.out.put (p := w.heap.size + 2) (by omega)).le (by omega)
end Go.Proofs.Ytaegkiangjnmdaa.bx
