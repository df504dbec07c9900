/- Package box: Minus. -/
import Derived.Test.YtaegkiangjnmdaaBoxRow
import Derived.Test.YtaegkiangjnmdaaBoxMeet
import Derived.Test.YtaegkiangjnmdaaBoxGrow
import Derived.Deep.RegionHeld3
import Derived.BigRegion
namespace Go.Proofs.Ytaegkiangjnmdaa.bx
open Go.ChangeShapes Go.WideShapes Go.ChangeAt Go.RowKit Go.Proofs.Ytaegkiangjnmdaa.mem Go.Proofs.Ytaegkiangjnmdaa.prod Go.Proofs.Ytaegkiangjnmdaa.shp Go.Proofs.Ytaegkiangjnmdaa.strd Go.Proofs.Ytaegkiangjnmdaa.gam Go.Proofs.Ytaegkiangjnmdaa.sml Go.Proofs.Ytaegkiangjnmdaa.all Go.Proofs.Ytaegkiangjnmdaa.odo Go.Proofs.Ytaegkiangjnmdaa.eql Go.Proofs.Ytaegkiangjnmdaa.arr
set_option linter.unusedVariables false

theorem fn_left (W0 : World) (x y z : Int) (p : Addr) (hp : p.block < W0.heap.size) (hc : W0.cell? p = some (.int .i64 z)) : Fn2 32 #[.pointer (some p)] W0 x y x z where
  enter := fun _ _ => rfl
  call := by
    intro V hb
    have h1 : V.cell? p = some (.int .i64 z) := (hb.cell hp).trans hc
    clear hc hp hb
    show Calls Try.prog 32 #[.int .i64 x, .int .i64 y, .pointer (some p)] V _
    go_enter Try.func32, Try.ntmps32
    go_wp2_with fail
    go_quiet (fail)
    go_wp2_with fail
    go_ret2
    exact ⟨rfl, _, rfl⟩
theorem fn_right (W0 : World) (x y z : Int) (p : Addr) (hp : p.block < W0.heap.size) (hc : W0.cell? p = some (.int .i64 z)) : Fn2 33 #[.pointer (some p)] W0 x y z y where
  enter := fun _ _ => rfl
  call := by
    intro V hb
    have h1 : V.cell? p = some (.int .i64 z) := (hb.cell hp).trans hc
    clear hc hp hb
    show Calls Try.prog 33 #[.int .i64 x, .int .i64 y, .pointer (some p)] V _
    go_enter Try.func33, Try.ntmps33
    go_wp2_with fail
    go_ret2
    exact ⟨rfl, 0, rfl⟩
theorem fn_mid (W0 : World) (x y z z' : Int) (p q : Addr) (hp : p.block < W0.heap.size) (hc : W0.cell? p = some (.int .i64 z)) (hq : q.block < W0.heap.size) (hd : W0.cell? q = some (.int .i64 z')) : Fn2 34 #[.pointer (some p), .pointer (some q)] W0 x y z z' where
  enter := fun _ _ => rfl
  call := by
    intro V hb
    have h1 : V.cell? p = some (.int .i64 z) := (hb.cell hp).trans hc
    have h2 : V.cell? q = some (.int .i64 z') := (hb.cell hq).trans hd
    clear hc hp hd hq hb
    show Calls Try.prog 34 #[.int .i64 x, .int .i64 y, .pointer (some p), .pointer (some q)] V _
    go_enter Try.func34, Try.ntmps34
    go_wp2_with fail
    go_quiet (fail)
    go_wp2_with fail
    go_ret2
    exact ⟨rfl, _, rfl⟩

theorem el_of_rd {w : World} {A : Option Addr} {n c : Nat} {xs : List Int} (h : Rd w A n xs) (h1 : n ≤ c) (h2 : c ≤ maxLen) (h3 : A = none → c = 0) : El w none (.slice A n c) xs := by
  obtain ⟨rfl, h4⟩ := h
  exact ⟨A, c, rfl, h1, h2, h3, fun k hk => by obtain ⟨ad, e, hl, hc⟩ := h4 k hk; exact ⟨ad, e, hl, by simp, hc⟩⟩
/-- What a call answers that makes a row of boxes. -/
def MakesXs (t : TypeId) (w : World) (L : List Bx) (e : Ending) (w' : World) : Prop := ∃ P c, e = .returned (.slice P L.length c) ∧ OwnX t w' w.heap.size (.slice P L.length c) L ∧ Below w.heap.size w w'
theorem rdXs_one {w : World} {b : Option Nat} {Bl : Nat} {u v : Value} {p : Bx} (h1 : El w b u p.1) (h2 : El w b v p.2) (h3 : Lies Bl u) (h4 : Lies Bl v) (hb : ∀ g, b = some g → g < w.heap.size) (t : TypeId) : RdXs (w.alloc (.cells #[u, v] t)) b Bl (some ⟨w.heap.size, 0, none⟩) 1 [p] :=
  ⟨rfl, fun k q hk => by
    rcases k with _ | k
    · simp at hk
      subst hk
      have hba := one_below w #[u, v] t
      refine ⟨_, u, v, rfl, by simp, fun e => by have := hb _ e.symm; exact absurd this (Nat.lt_irrefl _), by simp [Addr.add], by rw [add_at]; simp, h1.below hba, h2.below hba, h3, h4⟩
    · simp at hk⟩

theorem rdXs_two {w : World} {b : Option Nat} {Bl : Nat} {u v u' v' : Value} {p q : Bx} (h1 : El w b u p.1) (h2 : El w b v p.2) (h3 : Lies Bl u) (h4 : Lies Bl v) (g1 : El w b u' q.1) (g2 : El w b v' q.2) (g3 : Lies Bl u') (g4 : Lies Bl v') (hb : ∀ g, b = some g → g < w.heap.size) (t : TypeId) : RdXs (w.alloc (.cells #[u, v, u', v'] t)) b Bl (some ⟨w.heap.size, 0, none⟩) 2 [p, q] :=
  ⟨rfl, fun k r hk => by
    have hba := one_below w #[u, v, u', v'] t
    rcases k with _ | _ | k
    · simp at hk
      subst hk
      refine ⟨_, u, v, rfl, by simp, fun e => by have := hb _ e.symm; exact absurd this (Nat.lt_irrefl _), by simp [Addr.add], by rw [add_at]; simp, h1.below hba, h2.below hba, h3, h4⟩
    · simp at hk
      subst hk
      refine ⟨_, u', v', rfl, by simp, fun e => by have := hb _ e.symm; exact absurd this (Nat.lt_irrefl _), by rw [add_at]; simp, by rw [add_at]; simp, g1.below hba, g2.below hba, g3, g4⟩
    · simp at hk⟩

set_option maxHeartbeats 1000000 in
theorem minus_out (A B A' B' : Option Addr) (n c d n' c' d' : Nat) (al ah : List Int) (w : World) (hr : rgtB al ah = true) (ha : Rd w A n al) (hb : Rd w B n ah) (hA : A = none → c = 0) (hB : B = none → d = 0)
    (hI : ∀ V, Below w.heap.size w V → Calls Try.prog 11 #[.agg #[.slice A n c, .slice B n d], .agg #[.slice A' n' c', .slice B' n' d']] V (NoX V)) :
    Calls Try.prog 18 #[.agg #[.slice A n c, .slice B n d], .agg #[.slice A' n' c', .slice B' n' d']] w (MakesXs 27 w ([(al, ah)].filter neB)) := by
  have h16 : n ≤ 16 := by have := (rgt_out hr).2.1; rw [ha.1] at this; omega
  obtain ⟨W, hW⟩ : ∃ W, W = (w.alloc (.cells #[.slice A n c, .slice B n d] 27)).alloc (.cells #[.slice A' n' c', .slice B' n' d'] 27) := ⟨_, rfl⟩
  obtain ⟨hbl, hsz, KC⟩ := two_boxes hW
  have P1 := Lib.hid (hI W hbl)
  have P2 := fun V h1 h2 => Lib.hid (duplicate_any A B n c n d al ah V (by omega) (by omega) h1 h2 hA hB)
  have P3 := fun P p Q q V (h1 : Two V w.heap.size (.slice P n p) (.slice Q n q) al ah) (hBv : w.heap.size ≤ V.heap.size) => Lib.hid (show Calls Try.prog 30 #[.slice none 0 0, .slice (some ⟨V.heap.size, 0, none⟩) 1 1] (V.alloc (.cells #[.slice P n p, .slice Q n q] 27)) (Collects (V.alloc (.cells #[.slice P n p, .slice Q n q] 27)) w.heap.size (.slice none 0 0) ([] ++ [(al, ah)].filter neB)) from
    collect_any none (some ⟨V.heap.size, 0, none⟩) 0 0 1 1 w.heap.size [] [(al, ah)] _ (by simp; omega) (by omega) (by omega) (ownX_nil _ _ _) (rdXs_one (El.own h1.fst (fun g e => by cases e)) (El.own h1.snd (fun g e => by cases e)) (lies_own h1.fst) (lies_own h1.snd) (fun g e => by cases e) _) (fun p hp => by simp at hp; subst hp; exact hr))
  have HX := Lib.hid (ha.below hbl); have HY := Lib.hid (hb.below hbl)
  have HB := Lib.hid hbl
  have HW := Lib.hid hW
  have HKC := Lib.hid KC
  obtain ⟨L, hL⟩ : ∃ L, L = [(al, ah)].filter neB := ⟨_, rfl⟩
  rw [List.nil_append, ← hL] at P3
  rw [← hL]
  obtain ⟨k1, k2, k3, k4, _⟩ := KC W (Below.refl _ _)
  clear ha hb hA hB hI hbl hsz hW KC hr hL
  go_enter Try.func18, Try.ntmps18
  go_wp2_with fail
  rw [← HW.out]
  refine P1.out.mono ?_
  rintro e w1 ⟨rfl, hb⟩
  have hbx := one_below w1 #[.slice none 0 0, .slice none 0 0] 27
  have HB1 := Lib.hid (below_step hb hbx)
  clear k1 k2 k3 k4
  obtain ⟨k1, k2, k3, k4, _⟩ := HKC.out _ HB1.out
  clear hb hbx
  go_wp2_with fail
  refine (P2 _ (HX.out.below HB1.out) (HY.out.below HB1.out)).out.mono ?_
  rintro e w2 ⟨P, p, Q, q, rfl, hT, hb⟩
  have HB2 := Lib.hid (below_step HB1.out hb)
  have HT2 := Lib.hid (hT.le (Nat.le_trans HB.out.size HB1.out.size))
  have HS2 := Lib.hid (show w.heap.size ≤ w2.heap.size from Nat.le_trans HB.out.size HB2.out.size)
  clear hb hT k1 k2 k3 k4
  go_wp2_with fail
  refine (P3 _ _ _ _ _ HT2.out HS2.out).out.mono ?_
  rintro e w3 ⟨P3', c3, rfl, ho, hg, _⟩
  have hb3 : Below w2.heap.size w2 w3 := (one_below w2 #[.slice P n p, .slice Q n q] 27).trans (show Below w2.heap.size _ w3 from (Below.refl _ _).grown hg (by simp) (fun k hk => by cases hk))
  have HF := Lib.hid (show MakesXs 27 w L (.returned (.slice P3' L.length c3)) w3 from ⟨_, _, rfl, ho, HB.out.trans ((below_step HB2.out hb3).mono HB.out.size)⟩)
  clear ho hg hb3
  go_wp2_with fail
  go_ret
  exact HF.out

theorem end_of : ∀ {lo hi : List Int}, (∀ (k : Nat) a b, lo[k]? = some a → hi[k]? = some b → 0 ≤ a ∧ a ≤ b ∧ b ≤ 65536) → endB lo hi = true
  | [], _, _ => rfl
  | _ :: _, [], _ => rfl
  | a :: la, b :: lb, h => by
    simp only [endB, Bool.and_eq_true, decide_eq_true_eq]
    exact ⟨h 0 a b rfl rfl, end_of fun k x y h1 h2 => h (k + 1) x y (by simpa using h1) (by simpa using h2)⟩
theorem wi_at : ∀ {a h p q : List Int} {k : Nat} {x y u v : Int}, Wi a h p q → a[k]? = some x → h[k]? = some y → p[k]? = some u → q[k]? = some v → x ≤ u ∧ v ≤ y
  | a :: la, h :: lh, p :: lp, q :: lq, 0, x, y, u, v, w, h1, h2, h3, h4 => by
    simp at h1 h2 h3 h4
    subst h1 h2 h3 h4
    exact w.1
  | a :: la, h :: lh, p :: lp, q :: lq, k + 1, x, y, u, v, w, h1, h2, h3, h4 => wi_at (k := k) w.2 (by simpa using h1) (by simpa using h2) (by simpa using h3) (by simpa using h4)
  | [], _, _, _, k, x, y, u, v, _, h1, _, _, _ => by simp at h1
  | _ :: _, [], _, _, k, x, y, u, v, _, _, h1, _, _ => by simp at h1
  | _ :: _, _ :: _, [], _, k, x, y, u, v, _, _, _, h1, _ => by simp at h1
  | _ :: _, _ :: _, _ :: _, [], k, x, y, u, v, _, _, _, _, h1 => by simp at h1
theorem mixU_get {U V : List Int} {k : Nat} (h : U.length = V.length) (hk : k ≤ V.length) (j : Nat) : (mixU U V k)[j]? = if j < k then U[j]? else V[j]? := by
  have hl : (U.take k).length = k := by simp; omega
  unfold mixU
  split
  · rw [List.getElem?_append_left (by omega), List.getElem?_take, if_pos (by assumption)]
  · rw [List.getElem?_append_right (by omega), hl, List.getElem?_drop]
    congr 1; omega
theorem mixU_setV {U V : List Int} {k : Nat} {v : Int} (h : U.length = V.length) (hv : V[k]? = some v) (z : Int) : (mixU U V k).set k z = U.take k ++ z :: V.drop (k + 1) := by
  obtain ⟨hk, _⟩ := List.getElem?_eq_some_iff.1 hv
  have hl : (U.take k).length = k := by simp; omega
  unfold mixU
  rw [List.set_append_right _ _ (by omega), hl, drop_at hv]
  simp
/-- The two pieces of an axis. -/
def pc1 (al ah U1 U2 : List Int) (k : Nat) (a c : Int) : Bx := ((mixU U1 al k).set k a, (mixU U2 ah k).set k c)
theorem piece_right {al ah U1 U2 : List Int} {k : Nat} {a h c d : Int} (h1 : rgtB al ah = true) (h2 : rgtB U1 U2 = true) (hw : Wi al ah U1 U2) (ha : al[k]? = some a) (hh : ah[k]? = some h) (hc : U1[k]? = some c) (hd : U2[k]? = some d) :
    rgtB ((mixU U1 al k).set k a) ((mixU U2 ah k).set k c) = true ∧ rgtB ((mixU U1 al k).set k d) ((mixU U2 ah k).set k h) = true := by
  obtain ⟨g1, g2, g3⟩ := rgt_out h1
  obtain ⟨f1, f2, f3⟩ := rgt_out h2
  obtain ⟨l1, l2, l3⟩ := wi_len hw
  obtain ⟨hk, _⟩ := List.getElem?_eq_some_iff.1 ha
  have m1 := mixU_len (U := U1) (V := al) k (by omega)
  have m2 := mixU_len (U := U2) (V := ah) k (by omega)
  have e0 := end_at g3 ha hh
  have e1 := end_at f3 hc hd
  have e2 := wi_at hw ha hh hc hd
  have key : ∀ (z z' : Int), (0 ≤ z ∧ z ≤ z' ∧ z' ≤ 65536) → rgtB ((mixU U1 al k).set k z) ((mixU U2 ah k).set k z') = true := by
    intro z z' hz
    refine rgt_of (by simp [m1, m2]; omega) (by simp [m1]; omega) (end_of fun j x y hx hy => ?_)
    rw [List.getElem?_set] at hx hy
    by_cases hj : k = j
    · rw [if_pos hj, if_pos (by omega)] at hx hy
      injection hx with hx; injection hy with hy
      omega
    · rw [if_neg hj, mixU_get (by omega) (by omega)] at hx
      rw [if_neg hj, mixU_get (by omega) (by omega)] at hy
      by_cases hlt : j < k
      · rw [if_pos hlt] at hx hy
        exact end_at f3 hx hy
      · rw [if_neg hlt] at hx hy
        exact end_at g3 hx hy
  exact ⟨key a c (by omega), key d h (by omega)⟩
theorem pcs_step {al ah U1 U2 : List Int} {k : Nat} {a h c d : Int} (l1 : U1.length = al.length) (l2 : U2.length = ah.length) (ha : al[k]? = some a) (hh : ah[k]? = some h) (hc : U1[k]? = some c) (hd : U2[k]? = some d) :
    pcs (U1.take k) (U2.take k) (al.drop k) (ah.drop k) (U1.drop k) (U2.drop k) = [((mixU U1 al k).set k a, (mixU U2 ah k).set k c), ((mixU U1 al k).set k d, (mixU U2 ah k).set k h)].filter neB ++ pcs (U1.take (k + 1)) (U2.take (k + 1)) (al.drop (k + 1)) (ah.drop (k + 1)) (U1.drop (k + 1)) (U2.drop (k + 1)) := by
  rw [mixU_setV l1 ha, mixU_setV l2 hh, mixU_setV l1 ha, mixU_setV l2 hh, drop_at ha, drop_at hh, drop_at hc, drop_at hd, take_snoc hc, take_snoc hd]
  rfl

set_option maxHeartbeats 8000000 in
set_option maxRecDepth 100000 in
theorem minus_in (A B A' B' : Option Addr) (n c d c' d' : Nat) (al ah bl bh : List Int) (w : World) (hr : rgtB al ah = true) (hr' : rgtB bl bh = true) (ha : Rd w A n al) (hb : Rd w B n ah) (ha' : Rd w A' n bl) (hb' : Rd w B' n bh) (hA : A = none → c = 0) (hB : B = none → d = 0) (hcm : c ≤ maxLen) (hdm : d ≤ maxLen) (hnc : n ≤ c) (hnd : n ≤ d)
    (hm : insB (mxL al bl) (mnL ah bh) (mxL al bl) = true) :
    Calls Try.prog 18 #[.agg #[.slice A n c, .slice B n d], .agg #[.slice A' n c', .slice B' n d']] w (MakesXs 27 w (pcs [] [] al ah (mxL al bl) (mnL ah bh))) := by
  have hmf : ∀ (fn : Fn) (first cap : Array Value) (w : World), (Instr.makeFunc fn first cap).run Try.prog w = .ok (.func fn first cap) w := fun _ _ _ _ => rfl
  have h16 : n ≤ 16 := by have := (rgt_out hr).2.1; rw [ha.1] at this; omega
  have hll : al.length = bl.length := by rw [ha.1, ha'.1]
  have hru := meet_right hr hr' hll hm
  have hwi := wi_meet (rgt_out hr).1 (rgt_out hr').1 hll
  obtain ⟨W, hW⟩ : ∃ W, W = (w.alloc (.cells #[.slice A n c, .slice B n d] 27)).alloc (.cells #[.slice A' n c', .slice B' n d'] 27) := ⟨_, rfl⟩
  obtain ⟨hbl, hsz, KC⟩ := two_boxes hW
  have P1 := Lib.hid ((hm ▸ meet_in A B A' B' n c d c' d' al ah bl bh W hr hr' (ha.below hbl) (hb.below hbl) (ha'.below hbl) (hb'.below hbl) hA hB : Calls _ _ _ _ (MeetsR true W n _ _)))
  have HX := Lib.hid (ha.below hbl); have HY := Lib.hid (hb.below hbl)
  have HB := Lib.hid hbl
  have HW := Lib.hid hW
  have HKC := Lib.hid KC
  have HL1 := Lib.hid (show (mxL al bl).length = al.length from mx_len hll); have HL2 := Lib.hid (show (mnL ah bh).length = ah.length from mn_len (by rw [hb.1, hb'.1]))
  obtain ⟨U1, hU1⟩ : ∃ U, U = mxL al bl := ⟨_, rfl⟩
  obtain ⟨U2, hU2⟩ : ∃ U, U = mnL ah bh := ⟨_, rfl⟩
  rw [← hU1, ← hU2] at P1 hru hwi ⊢
  rw [← hU1] at HL1
  rw [← hU2] at HL2
  have HRU := Lib.hid hru; have HWI := Lib.hid hwi; have HRA := Lib.hid hr
  obtain ⟨T, hT⟩ : ∃ T, T = pcs [] [] al ah U1 U2 := ⟨_, rfl⟩
  rw [← hT]
  have HT0 := Lib.hid (show ([] : List Bx) ++ pcs (U1.take 0) (U2.take 0) (al.drop 0) (ah.drop 0) (U1.drop 0) (U2.drop 0) = T by rw [hT]; simp)
  have HLA := Lib.hid ha.1; have HLB := Lib.hid hb.1
  have HAN := Lib.hid (show A = none → c = 0 from hA); have HBN := Lib.hid (show B = none → d = 0 from hB)
  have HTL := Lib.hid (show T.length ≤ 2 * n by rw [hT, ← ha.1]; exact pcs_len)
  obtain ⟨k1, k2, k3, k4, _⟩ := KC W (Below.refl _ _)
  clear ha hb ha' hb' hA hB hbl hsz hW KC hr hr' hm hru hwi hU1 hU2 hll hT
  go_enter Try.func18, Try.ntmps18
  go_wp2_with fail
  rw [← HW.out]
  refine P1.out.mono ?_
  intro e w1 hm
  obtain ⟨P, p, Q, q, rfl, hTw, hb⟩ := hm.out
  obtain ⟨w2, hw2⟩ : ∃ w2, w2 = w1.alloc (.cells #[.slice P n p, .slice Q n q] 27) := ⟨_, rfl⟩
  have hbx : Below w1.heap.size w1 w2 := by rw [hw2]; exact one_below _ _ _
  have hs2 : w2.heap.size = w1.heap.size + 1 := by rw [hw2]; simp
  have HB2 := Lib.hid (below_step hb hbx)
  have HC1 := Lib.hid (hTw.fst.rd.below hbx); have HC2 := Lib.hid (hTw.snd.rd.below hbx)
  have HBX2 := Lib.hid (show Box2 w2 w1.heap.size (.slice P n p) (.slice Q n q) by rw [hw2]; exact box2_new _ _ _ _)
  have HS2 := Lib.hid hs2
  have HW2 := Lib.hid hw2
  have HX2 := Lib.hid (HX.out.below HB2.out); have HY2 := Lib.hid (HY.out.below HB2.out)
  clear k1 k2 k3 k4
  obtain ⟨k1, k2, k3, k4, _⟩ := HKC.out _ HB2.out
  rw [hw2] at k1 k2 k3 k4
  clear hm hb hbx hTw hw2 hs2
  go_wp2_with fail
  have HSX := Lib.hid (show El (w2.alloc (.cells #[.slice A n c, .slice B n d] 27)) none (.slice A n c) (mixU U1 al 0) ∧ El (w2.alloc (.cells #[.slice A n c, .slice B n d] 27)) none (.slice B n d) (mixU U2 ah 0) by
    rw [mixU_zero, mixU_zero]
    exact ⟨el_of_rd (HX2.out.below (one_below _ _ _)) hnc hcm HAN.out, el_of_rd (HY2.out.below (one_below _ _ _)) hnd hdm HBN.out⟩)
  have HSV := Lib.hid (show Var2 (w2.alloc (.cells #[.slice A n c, .slice B n d] 27)) (w1.heap.size + 1) (.slice A n c) (.slice B n d) by have := var2_new w2 (.slice A n c) (.slice B n d) 27; rw [HS2.out] at this; exact this)
  have HSS := Lib.hid (show w1.heap.size + 2 ≤ (w2.alloc (.cells #[.slice A n c, .slice B n d] 27)).heap.size by rw [World.size_alloc, HS2.out]; omega)
  have HSB := Lib.hid (show Below w2.heap.size w2 ((w1.alloc (.cells #[.slice P n p, .slice Q n q] 27)).alloc (.cells #[.slice A n c, .slice B n d] 27)) by rw [← HW2.out]; exact one_below _ _ _)
  rw [HW2.out] at HSX HSV HSS
  clear k1 k2 k3 k4 hnc hcm hnd hdm
  go_loopw [7, 28] (fun v i wr => ∃ k : Nat, k ≤ n ∧ i = .int .i64 k ∧ ∃ P' n' c' X x Y y L, v = .slice P' n' c' ∧ Hid (L.length = n') ∧ Hid (OwnX 27 wr (w1.heap.size + 2) (.slice P' n' c') L) ∧ Hid (L ++ pcs (U1.take k) (U2.take k) (al.drop k) (ah.drop k) (U1.drop k) (U2.drop k) = T) ∧ Hid (Var2 wr (w1.heap.size + 1) (.slice X n x) (.slice Y n y)) ∧ Hid (El wr (Value.slice P' n' c').ownBlock (.slice X n x) (mixU U1 al k) ∧ El wr (Value.slice P' n' c').ownBlock (.slice Y n y) (mixU U2 ah k)) ∧ Hid (Below w2.heap.size w2 wr) ∧ Hid (w1.heap.size + 2 ≤ wr.heap.size)) (fun _ i _ => n - (intOf i).toNat)
  case atStart => exact ⟨0, Nat.zero_le _, rfl, none, 0, 0, A, c, B, d, [], rfl, Lib.hid rfl, Lib.hid (ownX_nil _ _ _), HT0, HSV, HSX, HSB, HSS⟩
  case round =>
    obtain ⟨k, hk, rfl, P', n', c', X, x, Y, y, L, rfl, HLL, HO, HT, HV, HE, HBW, HSW⟩ := hrel
    by_cases hlt : k < n
    · obtain ⟨a, hla⟩ : ∃ a, al[k]? = some a := ⟨_, List.getElem?_eq_getElem (by rw [HLA.out]; exact hlt)⟩
      obtain ⟨h, hlh⟩ : ∃ a, ah[k]? = some a := ⟨_, List.getElem?_eq_getElem (by rw [HLB.out]; exact hlt)⟩
      obtain ⟨ad1, f, rfl, hlf, hc1⟩ := (HC1.out.below HBW.out).at_ hlt
      obtain ⟨ad2, g, rfl, hlg, hc2⟩ := (HC2.out.below HBW.out).at_ hlt
      have HST := Lib.hid (pcs_step HL1.out HL2.out hla hlh hlf hlg)
      have HPR := Lib.hid (piece_right HRA.out HRU.out HWI.out hla hlh hlf hlg)
      have HQ := Lib.hid (And.intro hla (And.intro hlh (And.intro hlf hlg)))
      obtain ⟨j1, j2, _⟩ := HBX2.out.below HBW.out
      obtain ⟨⟨i1, i2, _⟩, i3, i4⟩ := HV.out
      have hi1 : (k : Int) < (n : Int) := by omega
      clear hla hlh hlf hlg
      go_wp2_with fail
      go_region_held3 (fun w' => w'.cell? ⟨w1.heap.size, 0, none⟩ = some (.slice (some ad1) n p) ∧ w'.cell? ⟨w1.heap.size, 1, none⟩ = some (.slice (some ad2) n q) ∧ w'.cell? (ad1.add k) = some (.int .i64 f) ∧ w'.cell? (ad2.add k) = some (.int .i64 g)) (go_keep) (fail)
      · obtain ⟨V, hV⟩ : ∃ V, V = ((wr.alloc (.cells #[.int .i64 f] 3)).alloc (.cells #[.int .i64 g] 3)).drew := ⟨_, rfl⟩
        have hVs : V.heap.size = wr.heap.size + 2 := by rw [hV]; simp
        have hVb : Below wr.heap.size wr V := by rw [hV]; exact Below.drew (((Below.refl _ wr).alloc (Nat.le_refl _) _).alloc (by simp) _)
        have hF1 : V.cell? ⟨wr.heap.size, 0, none⟩ = some (.int .i64 f) := by rw [hV]; simp
        have hF2 : V.cell? ⟨wr.heap.size + 1, 0, none⟩ = some (.int .i64 g) := by rw [hV]; simp
        rw [← hV]
        obtain ⟨E1, hE1⟩ : ∃ E1, E1 = wr.heap.size := ⟨_, rfl⟩
        obtain ⟨E2, hE2⟩ : ∃ E2, E2 = wr.heap.size + 1 := ⟨_, rfl⟩
        rw [← hE1] at hF1
        rw [← hE2] at hF2
        have hge : wr.heap.size ≤ E1 ∧ E1 < V.heap.size ∧ wr.heap.size ≤ E2 ∧ E2 < V.heap.size := by omega
        have hlt0 : ∀ b, (Value.slice P' n' c').ownBlock = some b → w1.heap.size + 2 ≤ b ∧ b < wr.heap.size := HO.out.lt
        have hR := HE.out
        obtain ⟨hRX, hRXn⟩ : Rd wr X n (mixU U1 al k) ∧ (X = none → x = 0) := by
          obtain ⟨_, _, e, h1, _, _, h2⟩ := hR.1.rd
          injection e with e0 e1 e2
          subst e0; subst e2
          rw [← e1] at h1
          exact ⟨h1, h2⟩
        obtain ⟨hRY, hRYn⟩ : Rd wr Y n (mixU U2 ah k) ∧ (Y = none → y = 0) := by
          obtain ⟨_, _, e, h1, _, _, h2⟩ := hR.2.rd
          injection e with e0 e1 e2
          subst e0; subst e2
          rw [← e1] at h1
          exact ⟨h1, h2⟩
        have hxa := mixU_at HL1.out HQ.out.1
        have hxh := mixU_at HL2.out HQ.out.2.1
        have PA1 := Lib.hid (show ∀ V', Below V.heap.size V V' → Hid (Calls Try.prog 31 #[.agg #[.slice X n x, .slice Y n y], .int .i64 (k : Int), .func (.func 32) #[] #[.pointer (some ⟨E1, 0, none⟩)]] V' (MakesX V' n n ((mixU U1 al k).set k a) ((mixU U2 ah k).set k f))) from fun V' hb =>
          Lib.hid (along_any X Y n x y k _ _ _ _ a h a f V' (by omega) hlt ((hRX.below hVb).below hb) ((hRY.below hVb).below hb) hRXn hRYn hxa hxh (fn_left V' a h f ⟨E1, 0, none⟩ (by have := hb.size; show E1 < _; omega) ((hb.cell (p := ⟨E1, 0, none⟩) hge.2.1).trans hF1))))
        have PA2 := Lib.hid (show ∀ V', Below V.heap.size V V' → Hid (Calls Try.prog 31 #[.agg #[.slice X n x, .slice Y n y], .int .i64 (k : Int), .func (.func 33) #[] #[.pointer (some ⟨E2, 0, none⟩)]] V' (MakesX V' n n ((mixU U1 al k).set k g) ((mixU U2 ah k).set k h))) from fun V' hb =>
          Lib.hid (along_any X Y n x y k _ _ _ _ a h g h V' (by omega) hlt ((hRX.below hVb).below hb) ((hRY.below hVb).below hb) hRXn hRYn hxa hxh (fn_right V' a h g ⟨E2, 0, none⟩ (by have := hb.size; show E2 < _; omega) ((hb.cell (p := ⟨E2, 0, none⟩) hge.2.2.2).trans hF2))))
        have HF1 := Lib.hid hF1; have HF2 := Lib.hid hF2; have HVB := Lib.hid hVb; have HVS := Lib.hid hVs; have HGE := Lib.hid hge; have HLT := Lib.hid hlt0; have HE1 := Lib.hid hE1; have HE2 := Lib.hid hE2
        have HRX := Lib.hid (And.intro hRX hRXn); have HRY := Lib.hid (And.intro hRY hRYn); have HXA := Lib.hid (And.intro hxa hxh)
        have HKL := Lib.hid (show ∀ V', Below V.heap.size V V' → V'.cell? ⟨w1.heap.size + 1, 0, none⟩ = some (.slice X n x) ∧ V'.cell? ⟨w1.heap.size + 1, 1, none⟩ = some (.slice Y n y) from fun V' hb => by
          have h1 := HSW.out
          exact ⟨below_cell hb (by omega) (below_cell hVb (by omega) i1), below_cell hb (by omega) (below_cell hVb (by omega) i2)⟩)
        obtain ⟨m1, m2⟩ := HKL.out V (Below.refl _ _)
        clear hV hE1 hE2 hVs hVb hF1 hF2 hge hlt0 hR hRX hRXn hRY hRYn hxa hxh i1 i2 i3 i4 j1 j2 hc1 hc2
        rw [← HE2.out, ← HE1.out]
        go_wp2_with fail
        obtain ⟨L', hL'⟩ : ∃ L', L' = L ++ [((mixU U1 al k).set k a, (mixU U2 ah k).set k f), ((mixU U1 al k).set k g, (mixU U2 ah k).set k h)].filter neB := ⟨_, rfl⟩
        have HL' := Lib.hid hL'
        have HLT' := Lib.hid (show L' ++ pcs (U1.take (k + 1)) (U2.take (k + 1)) (al.drop (k + 1)) (ah.drop (k + 1)) (U1.drop (k + 1)) (U2.drop (k + 1)) = T by rw [hL', List.append_assoc, ← HST.out]; exact HT.out)
        have HN32 := Lib.hid (show n' ≤ 1048576 by have h1 := congrArg List.length HT.out; rw [List.length_append] at h1; have h2 := HTL.out; have h3 := HLL.out; omega)
        clear hL'
        go_region_held3 (fun w' => w'.cell? ⟨w1.heap.size + 1, 0, none⟩ = some (.slice X n x) ∧ w'.cell? ⟨w1.heap.size + 1, 1, none⟩ = some (.slice Y n y)) (go_keep)
          (first
            | (go_at_call 31; (with_reducible refine (PA1.out _ (by repeat (first | exact HK2.out | exact HK1.out | exact Below.refl _ _ | refine below_more ?_ _ | refine Below.drew ?_))).out.mono ?_)
               rintro e V1 ⟨X1, x1, Y1, y1, rfl, hT1, hb1⟩
               have HK1 := Lib.hid (below_step (W := V) (by repeat (first | exact HK2.out | exact HK1.out | exact Below.refl _ _ | refine below_more ?_ _ | refine Below.drew ?_)) hb1)
               have HT1 := Lib.hid (show Two V1 V.heap.size (.slice X1 n x1) (.slice Y1 n y1) ((mixU U1 al k).set k a) ((mixU U2 ah k).set k f) from hT1)
               obtain ⟨r1, r2⟩ := HKL.out _ HK1.out
               clear hT1 hb1)
            | (go_at_call 31; (with_reducible refine (PA2.out _ (by repeat (first | exact HK2.out | exact HK1.out | exact Below.refl _ _ | refine below_more ?_ _ | refine Below.drew ?_))).out.mono ?_)
               rintro e V2 ⟨X2, x2, Y2, y2, rfl, hT2, hb2⟩
               have HK2 := Lib.hid (below_step (W := V) (by repeat (first | exact HK2.out | exact HK1.out | exact Below.refl _ _ | refine below_more ?_ _ | refine Below.drew ?_)) hb2)
               have HT2 := Lib.hid (hT2.le HK1.out.size)
               have HT12 := Lib.hid (HT1.out.below hb2)
               obtain ⟨r3, r4⟩ := HKL.out _ HK2.out
               have hbV : Below wr.heap.size wr (V2.alloc (.cells #[.slice X1 n x1, .slice Y1 n y1, .slice X2 n x2, .slice Y2 n y2] 27)) := HVB.out.trans ((below_more HK2.out _).mono HVB.out.size)
               have hlow : ∀ b, (Value.slice P' n' c').ownBlock = some b → b < V.heap.size := fun b e => Nat.lt_of_lt_of_le (HLT.out b e).2 HVB.out.size
               have hB2 : w1.heap.size + 2 ≤ V.heap.size := Nat.le_trans HSW.out HVB.out.size
               have PC := Lib.hid (show Calls Try.prog 30 #[.slice P' n' c', .slice (some ⟨V2.heap.size, 0, none⟩) 2 2] (V2.alloc (.cells #[.slice X1 n x1, .slice Y1 n y1, .slice X2 n x2, .slice Y2 n y2] 27)) (Collects (V2.alloc (.cells #[.slice X1 n x1, .slice Y1 n y1, .slice X2 n x2, .slice Y2 n y2] 27)) (w1.heap.size + 2) (.slice P' n' c') L') from by
                 rw [HL'.out]
                 refine collect_any P' (some ⟨V2.heap.size, 0, none⟩) n' c' 2 2 (w1.heap.size + 2) L _ _ (Nat.le_trans HSW.out hbV.size) HN32.out (by omega) (HO.out.below hbV)
                   (rdXs_two (El.own HT12.out.fst hlow) (El.own HT12.out.snd hlow) ((lies_own HT12.out.fst).le hB2) ((lies_own HT12.out.snd).le hB2) (El.own HT2.out.fst hlow) (El.own HT2.out.snd hlow) ((lies_own HT2.out.fst).le hB2) ((lies_own HT2.out.snd).le hB2) (fun b e => Nat.lt_of_lt_of_le (hlow b e) HK2.out.size) _) ?_
                 intro pp hpp
                 simp only [List.mem_cons, List.not_mem_nil, or_false] at hpp
                 rcases hpp with rfl | rfl
                 · exact HPR.out.1
                 · exact HPR.out.2)
               have HBV := Lib.hid hbV; have HLOW := Lib.hid hlow
               clear hT2 hb2 hbV hlow hB2)
            | (go_at_call 30; (with_reducible refine PC.out.mono ?_)
               rintro e V3 ⟨P3, c3, rfl, ho3, hg3, hn3⟩
               have HO3 := Lib.hid ho3; have HG3 := Lib.hid hg3
               have hblk : ∀ b, b < V.heap.size → (b < w1.heap.size + 2 ∨ wr.heap.size ≤ b) → V3.heap[b]? = V.heap[b]? := fun b hb ho => (hg3.block b (Nat.lt_of_lt_of_le hb (below_more HK2.out _).size) (fun e => by have := HLT.out b e.symm; omega)).trans ((below_more HK2.out _).block b hb)
               have HBLK := Lib.hid hblk
               obtain ⟨s1, s2⟩ := HKL.out V (Below.refl _ _)
               have hw12 := HSW.out
               have hw13 := HVB.out.size
               have q1 := (World.cell?_of_block (a := ⟨w1.heap.size + 1, 0, none⟩) (hblk (w1.heap.size + 1) (by omega) (.inl (by omega)))).trans s1
               have q2 := (World.cell?_of_block (a := ⟨w1.heap.size + 1, 1, none⟩) (hblk (w1.heap.size + 1) (by omega) (.inl (by omega)))).trans s2
               clear ho3 hg3 hn3 hblk s1 s2 hw12 hw13))
        all_goals
          have hel : El V3 (Value.slice P' n' c').ownBlock (.slice X n x) (mixU U1 al k) ∧ El V3 (Value.slice P' n' c').ownBlock (.slice Y n y) (mixU U2 ah k) := ⟨(HE.out.1.below HBV.out).grown HG3.out (.inl rfl), (HE.out.2.below HBV.out).grown HG3.out (.inl rfl)⟩
          obtain ⟨hRX, hRY⟩ : Rd V3 X n (mixU U1 al k) ∧ Rd V3 Y n (mixU U2 ah k) := by
            constructor
            · obtain ⟨_, _, e, h1, _⟩ := hel.1.rd
              injection e with e0 e1 e2
              subst e0
              rwa [← e1] at h1
            · obtain ⟨_, _, e, h1, _⟩ := hel.2.rd
              injection e with e0 e1 e2
              subst e0
              rwa [← e1] at h1
          have hV3 : V.heap.size ≤ V3.heap.size := Nat.le_trans (below_more HK2.out _).size HG3.out.size
          have hF1 : V3.cell? ⟨E1, 0, none⟩ = some (.int .i64 f) := (World.cell?_of_block (a := ⟨E1, 0, none⟩) (HBLK.out E1 HGE.out.2.1 (.inr HGE.out.1))).trans HF1.out
          have hF2 : V3.cell? ⟨E2, 0, none⟩ = some (.int .i64 g) := (World.cell?_of_block (a := ⟨E2, 0, none⟩) (HBLK.out E2 HGE.out.2.2.2 (.inr HGE.out.2.2.1))).trans HF2.out
          have PA3 := Lib.hid (along_any X Y n x y k 34 #[.pointer (some ⟨E1, 0, none⟩), .pointer (some ⟨E2, 0, none⟩)] _ _ a h f g V3 (by omega) hlt hRX hRY HRX.out.2 HRY.out.2 HXA.out.1 HXA.out.2
            (fn_mid V3 a h f g ⟨E1, 0, none⟩ ⟨E2, 0, none⟩ (by have := HGE.out.2.1; show E1 < _; omega) hF1 (by have := HGE.out.2.2.2; show E2 < _; omega) hF2))
          have HV3 := Lib.hid hV3
          have HFZ := Lib.hid (show V3.frozen? ⟨w1.heap.size + 1, 0, none⟩ = false ∧ V3.frozen? ⟨w1.heap.size + 1, 1, none⟩ = false from by
            have h1 := HSW.out
            have h2 := HVB.out.size
            have h3 := HV.out.below HVB.out HV.out.1.2.2
            exact ⟨(World.frozen?_of_block (a := ⟨w1.heap.size + 1, 0, none⟩) (HBLK.out (w1.heap.size + 1) (by omega) (.inl (by omega)))).trans h3.2.1, (World.frozen?_of_block (a := ⟨w1.heap.size + 1, 1, none⟩) (HBLK.out (w1.heap.size + 1) (by omega) (.inl (by omega)))).trans h3.2.2⟩)
          have HQ12 := Lib.hid (And.intro q1 q2)
          clear hel hRX hRY hF1 hF2 hV3
          clear r1 r2 r3 r4 m1 m2
          go_wp2_with fail
          refine PA3.out.mono ?_
          rintro e V4 ⟨X4, x4, Y4, y4, rfl, hT4, hb4⟩
          have hv3 : w1.heap.size + 1 < V3.heap.size := by have := HV3.out; have := HSW.out; have := HVB.out.size; omega
          have f1 := below_frozen hb4 hv3 HFZ.out.1
          have f2 := below_frozen hb4 hv3 HFZ.out.2
          have t1 := below_cell hb4 hv3 HQ12.out.1
          have t2 := below_cell hb4 hv3 HQ12.out.2
          have HT4 := Lib.hid hT4; have HB4 := Lib.hid hb4; have HH := Lib.hid hv3
          have HV4 := Lib.hid (show Var2 V4 (w1.heap.size + 1) (.slice X n x) (.slice Y n y) from ⟨⟨t1, t2, Nat.lt_of_lt_of_le hv3 hb4.size⟩, f1, f2⟩)
          clear hT4 hb4 hv3 q1 q2
          go_wp2_with fail
          obtain ⟨V5, hV5⟩ : ∃ V5, V5 = (V4.setCell ⟨w1.heap.size + 1, 0, none⟩ (.slice X4 n x4)).setCell ⟨w1.heap.size + 1, 1, none⟩ (.slice Y4 n y4) := ⟨_, rfl⟩
          have G1 := Lib.hid (show OwnX 27 V5 (w1.heap.size + 2) (.slice P3 L'.length c3) L' by rw [hV5]; exact (((HO3.out.below HB4.out).set_ (p := ⟨w1.heap.size + 1, 0, none⟩) (by show w1.heap.size + 1 < _; omega) _).set_ (p := ⟨w1.heap.size + 1, 1, none⟩) (by show w1.heap.size + 1 < _; omega) _))
          have G2 := Lib.hid (show Var2 V5 (w1.heap.size + 1) (.slice X4 n x4) (.slice Y4 n y4) by rw [hV5]; exact (HV4.out.set0 _).set1 _)
          have G3 := Lib.hid (show El V5 (Value.slice P3 L'.length c3).ownBlock (.slice X4 n x4) (mixU U1 al (k + 1)) ∧ El V5 (Value.slice P3 L'.length c3).ownBlock (.slice Y4 n y4) (mixU U2 ah (k + 1)) by
            have h1 := HT4.out.put (p := w1.heap.size + 1) (x := .slice X4 n x4) (y := .slice Y4 n y4) HH.out
            rw [← hV5, mixU_set HL1.out HQ.out.2.2.1, mixU_set HL2.out HQ.out.2.2.2] at h1
            exact ⟨El.own h1.fst (fun b e => (HO3.out.lt b e).2), El.own h1.snd (fun b e => (HO3.out.lt b e).2)⟩)
          have hs2 := HS2.out
          have G4 := Lib.hid (show Below w2.heap.size w2 V5 by
            rw [hV5]
            have h1 : Below w2.heap.size w2 V3 := (below_step HBW.out HBV.out).grown HG3.out (by have := HBV.out.size; have := HBW.out.size; omega) (fun b e => by have := (HLT.out b e).1; omega)
            exact two_below (h1.trans (HB4.out.mono (by have := h1.size; omega))) (by omega))
          have G5 := Lib.hid (show w1.heap.size + 2 ≤ V5.heap.size by have := G2.out.1.2.2; omega)
          go_roundw
          case rel => exact ⟨k + 1, by omega, by go_num, P3, L'.length, c3, X4, x4, Y4, y4, L', rfl, Lib.hid rfl, by rw [← hV5]; exact G1, HLT', by rw [← hV5]; exact G2, by rw [← hV5]; exact G3, by rw [← hV5]; exact G4, by rw [← hV5]; exact G5⟩
          case measure => first | (simp [intOf]; done) | (simp [intOf]; omega)
      · obtain ⟨V, hV⟩ : ∃ V, V = ((wr.alloc (.cells #[.int .i64 g] 3)).alloc (.cells #[.int .i64 f] 3)).drew := ⟨_, rfl⟩
        have hVs : V.heap.size = wr.heap.size + 2 := by rw [hV]; simp
        have hVb : Below wr.heap.size wr V := by rw [hV]; exact Below.drew (((Below.refl _ wr).alloc (Nat.le_refl _) _).alloc (by simp) _)
        have hF1 : V.cell? ⟨wr.heap.size + 1, 0, none⟩ = some (.int .i64 f) := by rw [hV]; simp
        have hF2 : V.cell? ⟨wr.heap.size, 0, none⟩ = some (.int .i64 g) := by rw [hV]; simp
        rw [← hV]
        obtain ⟨E1, hE1⟩ : ∃ E1, E1 = wr.heap.size + 1 := ⟨_, rfl⟩
        obtain ⟨E2, hE2⟩ : ∃ E2, E2 = wr.heap.size := ⟨_, rfl⟩
        rw [← hE1] at hF1
        rw [← hE2] at hF2
        have hge : wr.heap.size ≤ E1 ∧ E1 < V.heap.size ∧ wr.heap.size ≤ E2 ∧ E2 < V.heap.size := by omega
        have hlt0 : ∀ b, (Value.slice P' n' c').ownBlock = some b → w1.heap.size + 2 ≤ b ∧ b < wr.heap.size := HO.out.lt
        have hR := HE.out
        obtain ⟨hRX, hRXn⟩ : Rd wr X n (mixU U1 al k) ∧ (X = none → x = 0) := by
          obtain ⟨_, _, e, h1, _, _, h2⟩ := hR.1.rd
          injection e with e0 e1 e2
          subst e0; subst e2
          rw [← e1] at h1
          exact ⟨h1, h2⟩
        obtain ⟨hRY, hRYn⟩ : Rd wr Y n (mixU U2 ah k) ∧ (Y = none → y = 0) := by
          obtain ⟨_, _, e, h1, _, _, h2⟩ := hR.2.rd
          injection e with e0 e1 e2
          subst e0; subst e2
          rw [← e1] at h1
          exact ⟨h1, h2⟩
        have hxa := mixU_at HL1.out HQ.out.1
        have hxh := mixU_at HL2.out HQ.out.2.1
        have PA1 := Lib.hid (show ∀ V', Below V.heap.size V V' → Hid (Calls Try.prog 31 #[.agg #[.slice X n x, .slice Y n y], .int .i64 (k : Int), .func (.func 32) #[] #[.pointer (some ⟨E1, 0, none⟩)]] V' (MakesX V' n n ((mixU U1 al k).set k a) ((mixU U2 ah k).set k f))) from fun V' hb =>
          Lib.hid (along_any X Y n x y k _ _ _ _ a h a f V' (by omega) hlt ((hRX.below hVb).below hb) ((hRY.below hVb).below hb) hRXn hRYn hxa hxh (fn_left V' a h f ⟨E1, 0, none⟩ (by have := hb.size; show E1 < _; omega) ((hb.cell (p := ⟨E1, 0, none⟩) hge.2.1).trans hF1))))
        have PA2 := Lib.hid (show ∀ V', Below V.heap.size V V' → Hid (Calls Try.prog 31 #[.agg #[.slice X n x, .slice Y n y], .int .i64 (k : Int), .func (.func 33) #[] #[.pointer (some ⟨E2, 0, none⟩)]] V' (MakesX V' n n ((mixU U1 al k).set k g) ((mixU U2 ah k).set k h))) from fun V' hb =>
          Lib.hid (along_any X Y n x y k _ _ _ _ a h g h V' (by omega) hlt ((hRX.below hVb).below hb) ((hRY.below hVb).below hb) hRXn hRYn hxa hxh (fn_right V' a h g ⟨E2, 0, none⟩ (by have := hb.size; show E2 < _; omega) ((hb.cell (p := ⟨E2, 0, none⟩) hge.2.2.2).trans hF2))))
        have HF1 := Lib.hid hF1; have HF2 := Lib.hid hF2; have HVB := Lib.hid hVb; have HVS := Lib.hid hVs; have HGE := Lib.hid hge; have HLT := Lib.hid hlt0; have HE1 := Lib.hid hE1; have HE2 := Lib.hid hE2
        have HRX := Lib.hid (And.intro hRX hRXn); have HRY := Lib.hid (And.intro hRY hRYn); have HXA := Lib.hid (And.intro hxa hxh)
        have HKL := Lib.hid (show ∀ V', Below V.heap.size V V' → V'.cell? ⟨w1.heap.size + 1, 0, none⟩ = some (.slice X n x) ∧ V'.cell? ⟨w1.heap.size + 1, 1, none⟩ = some (.slice Y n y) from fun V' hb => by
          have h1 := HSW.out
          exact ⟨below_cell hb (by omega) (below_cell hVb (by omega) i1), below_cell hb (by omega) (below_cell hVb (by omega) i2)⟩)
        obtain ⟨m1, m2⟩ := HKL.out V (Below.refl _ _)
        clear hV hE1 hE2 hVs hVb hF1 hF2 hge hlt0 hR hRX hRXn hRY hRYn hxa hxh i1 i2 i3 i4 j1 j2 hc1 hc2
        rw [← HE1.out, ← HE2.out]
        go_wp2_with fail
        obtain ⟨L', hL'⟩ : ∃ L', L' = L ++ [((mixU U1 al k).set k a, (mixU U2 ah k).set k f), ((mixU U1 al k).set k g, (mixU U2 ah k).set k h)].filter neB := ⟨_, rfl⟩
        have HL' := Lib.hid hL'
        have HLT' := Lib.hid (show L' ++ pcs (U1.take (k + 1)) (U2.take (k + 1)) (al.drop (k + 1)) (ah.drop (k + 1)) (U1.drop (k + 1)) (U2.drop (k + 1)) = T by rw [hL', List.append_assoc, ← HST.out]; exact HT.out)
        have HN32 := Lib.hid (show n' ≤ 1048576 by have h1 := congrArg List.length HT.out; rw [List.length_append] at h1; have h2 := HTL.out; have h3 := HLL.out; omega)
        clear hL'
        go_region_held3 (fun w' => w'.cell? ⟨w1.heap.size + 1, 0, none⟩ = some (.slice X n x) ∧ w'.cell? ⟨w1.heap.size + 1, 1, none⟩ = some (.slice Y n y)) (go_keep)
          (first
            | (go_at_call 31; (with_reducible refine (PA1.out _ (by repeat (first | exact HK2.out | exact HK1.out | exact Below.refl _ _ | refine below_more ?_ _ | refine Below.drew ?_))).out.mono ?_)
               rintro e V1 ⟨X1, x1, Y1, y1, rfl, hT1, hb1⟩
               have HK1 := Lib.hid (below_step (W := V) (by repeat (first | exact HK2.out | exact HK1.out | exact Below.refl _ _ | refine below_more ?_ _ | refine Below.drew ?_)) hb1)
               have HT1 := Lib.hid (show Two V1 V.heap.size (.slice X1 n x1) (.slice Y1 n y1) ((mixU U1 al k).set k a) ((mixU U2 ah k).set k f) from hT1)
               obtain ⟨r1, r2⟩ := HKL.out _ HK1.out
               clear hT1 hb1)
            | (go_at_call 31; (with_reducible refine (PA2.out _ (by repeat (first | exact HK2.out | exact HK1.out | exact Below.refl _ _ | refine below_more ?_ _ | refine Below.drew ?_))).out.mono ?_)
               rintro e V2 ⟨X2, x2, Y2, y2, rfl, hT2, hb2⟩
               have HK2 := Lib.hid (below_step (W := V) (by repeat (first | exact HK2.out | exact HK1.out | exact Below.refl _ _ | refine below_more ?_ _ | refine Below.drew ?_)) hb2)
               have HT2 := Lib.hid (hT2.le HK1.out.size)
               have HT12 := Lib.hid (HT1.out.below hb2)
               obtain ⟨r3, r4⟩ := HKL.out _ HK2.out
               have hbV : Below wr.heap.size wr (V2.alloc (.cells #[.slice X1 n x1, .slice Y1 n y1, .slice X2 n x2, .slice Y2 n y2] 27)) := HVB.out.trans ((below_more HK2.out _).mono HVB.out.size)
               have hlow : ∀ b, (Value.slice P' n' c').ownBlock = some b → b < V.heap.size := fun b e => Nat.lt_of_lt_of_le (HLT.out b e).2 HVB.out.size
               have hB2 : w1.heap.size + 2 ≤ V.heap.size := Nat.le_trans HSW.out HVB.out.size
               have PC := Lib.hid (show Calls Try.prog 30 #[.slice P' n' c', .slice (some ⟨V2.heap.size, 0, none⟩) 2 2] (V2.alloc (.cells #[.slice X1 n x1, .slice Y1 n y1, .slice X2 n x2, .slice Y2 n y2] 27)) (Collects (V2.alloc (.cells #[.slice X1 n x1, .slice Y1 n y1, .slice X2 n x2, .slice Y2 n y2] 27)) (w1.heap.size + 2) (.slice P' n' c') L') from by
                 rw [HL'.out]
                 refine collect_any P' (some ⟨V2.heap.size, 0, none⟩) n' c' 2 2 (w1.heap.size + 2) L _ _ (Nat.le_trans HSW.out hbV.size) HN32.out (by omega) (HO.out.below hbV)
                   (rdXs_two (El.own HT12.out.fst hlow) (El.own HT12.out.snd hlow) ((lies_own HT12.out.fst).le hB2) ((lies_own HT12.out.snd).le hB2) (El.own HT2.out.fst hlow) (El.own HT2.out.snd hlow) ((lies_own HT2.out.fst).le hB2) ((lies_own HT2.out.snd).le hB2) (fun b e => Nat.lt_of_lt_of_le (hlow b e) HK2.out.size) _) ?_
                 intro pp hpp
                 simp only [List.mem_cons, List.not_mem_nil, or_false] at hpp
                 rcases hpp with rfl | rfl
                 · exact HPR.out.1
                 · exact HPR.out.2)
               have HBV := Lib.hid hbV; have HLOW := Lib.hid hlow
               clear hT2 hb2 hbV hlow hB2)
            | (go_at_call 30; (with_reducible refine PC.out.mono ?_)
               rintro e V3 ⟨P3, c3, rfl, ho3, hg3, hn3⟩
               have HO3 := Lib.hid ho3; have HG3 := Lib.hid hg3
               have hblk : ∀ b, b < V.heap.size → (b < w1.heap.size + 2 ∨ wr.heap.size ≤ b) → V3.heap[b]? = V.heap[b]? := fun b hb ho => (hg3.block b (Nat.lt_of_lt_of_le hb (below_more HK2.out _).size) (fun e => by have := HLT.out b e.symm; omega)).trans ((below_more HK2.out _).block b hb)
               have HBLK := Lib.hid hblk
               obtain ⟨s1, s2⟩ := HKL.out V (Below.refl _ _)
               have hw12 := HSW.out
               have hw13 := HVB.out.size
               have q1 := (World.cell?_of_block (a := ⟨w1.heap.size + 1, 0, none⟩) (hblk (w1.heap.size + 1) (by omega) (.inl (by omega)))).trans s1
               have q2 := (World.cell?_of_block (a := ⟨w1.heap.size + 1, 1, none⟩) (hblk (w1.heap.size + 1) (by omega) (.inl (by omega)))).trans s2
               clear ho3 hg3 hn3 hblk s1 s2 hw12 hw13))
        all_goals
          have hel : El V3 (Value.slice P' n' c').ownBlock (.slice X n x) (mixU U1 al k) ∧ El V3 (Value.slice P' n' c').ownBlock (.slice Y n y) (mixU U2 ah k) := ⟨(HE.out.1.below HBV.out).grown HG3.out (.inl rfl), (HE.out.2.below HBV.out).grown HG3.out (.inl rfl)⟩
          obtain ⟨hRX, hRY⟩ : Rd V3 X n (mixU U1 al k) ∧ Rd V3 Y n (mixU U2 ah k) := by
            constructor
            · obtain ⟨_, _, e, h1, _⟩ := hel.1.rd
              injection e with e0 e1 e2
              subst e0
              rwa [← e1] at h1
            · obtain ⟨_, _, e, h1, _⟩ := hel.2.rd
              injection e with e0 e1 e2
              subst e0
              rwa [← e1] at h1
          have hV3 : V.heap.size ≤ V3.heap.size := Nat.le_trans (below_more HK2.out _).size HG3.out.size
          have hF1 : V3.cell? ⟨E1, 0, none⟩ = some (.int .i64 f) := (World.cell?_of_block (a := ⟨E1, 0, none⟩) (HBLK.out E1 HGE.out.2.1 (.inr HGE.out.1))).trans HF1.out
          have hF2 : V3.cell? ⟨E2, 0, none⟩ = some (.int .i64 g) := (World.cell?_of_block (a := ⟨E2, 0, none⟩) (HBLK.out E2 HGE.out.2.2.2 (.inr HGE.out.2.2.1))).trans HF2.out
          have PA3 := Lib.hid (along_any X Y n x y k 34 #[.pointer (some ⟨E1, 0, none⟩), .pointer (some ⟨E2, 0, none⟩)] _ _ a h f g V3 (by omega) hlt hRX hRY HRX.out.2 HRY.out.2 HXA.out.1 HXA.out.2
            (fn_mid V3 a h f g ⟨E1, 0, none⟩ ⟨E2, 0, none⟩ (by have := HGE.out.2.1; show E1 < _; omega) hF1 (by have := HGE.out.2.2.2; show E2 < _; omega) hF2))
          have HV3 := Lib.hid hV3
          have HFZ := Lib.hid (show V3.frozen? ⟨w1.heap.size + 1, 0, none⟩ = false ∧ V3.frozen? ⟨w1.heap.size + 1, 1, none⟩ = false from by
            have h1 := HSW.out
            have h2 := HVB.out.size
            have h3 := HV.out.below HVB.out HV.out.1.2.2
            exact ⟨(World.frozen?_of_block (a := ⟨w1.heap.size + 1, 0, none⟩) (HBLK.out (w1.heap.size + 1) (by omega) (.inl (by omega)))).trans h3.2.1, (World.frozen?_of_block (a := ⟨w1.heap.size + 1, 1, none⟩) (HBLK.out (w1.heap.size + 1) (by omega) (.inl (by omega)))).trans h3.2.2⟩)
          have HQ12 := Lib.hid (And.intro q1 q2)
          clear hel hRX hRY hF1 hF2 hV3
          clear r1 r2 r3 r4 m1 m2
          go_wp2_with fail
          refine PA3.out.mono ?_
          rintro e V4 ⟨X4, x4, Y4, y4, rfl, hT4, hb4⟩
          have hv3 : w1.heap.size + 1 < V3.heap.size := by have := HV3.out; have := HSW.out; have := HVB.out.size; omega
          have f1 := below_frozen hb4 hv3 HFZ.out.1
          have f2 := below_frozen hb4 hv3 HFZ.out.2
          have t1 := below_cell hb4 hv3 HQ12.out.1
          have t2 := below_cell hb4 hv3 HQ12.out.2
          have HT4 := Lib.hid hT4; have HB4 := Lib.hid hb4; have HH := Lib.hid hv3
          have HV4 := Lib.hid (show Var2 V4 (w1.heap.size + 1) (.slice X n x) (.slice Y n y) from ⟨⟨t1, t2, Nat.lt_of_lt_of_le hv3 hb4.size⟩, f1, f2⟩)
          clear hT4 hb4 hv3 q1 q2
          go_wp2_with fail
          obtain ⟨V5, hV5⟩ : ∃ V5, V5 = (V4.setCell ⟨w1.heap.size + 1, 0, none⟩ (.slice X4 n x4)).setCell ⟨w1.heap.size + 1, 1, none⟩ (.slice Y4 n y4) := ⟨_, rfl⟩
          have G1 := Lib.hid (show OwnX 27 V5 (w1.heap.size + 2) (.slice P3 L'.length c3) L' by rw [hV5]; exact (((HO3.out.below HB4.out).set_ (p := ⟨w1.heap.size + 1, 0, none⟩) (by show w1.heap.size + 1 < _; omega) _).set_ (p := ⟨w1.heap.size + 1, 1, none⟩) (by show w1.heap.size + 1 < _; omega) _))
          have G2 := Lib.hid (show Var2 V5 (w1.heap.size + 1) (.slice X4 n x4) (.slice Y4 n y4) by rw [hV5]; exact (HV4.out.set0 _).set1 _)
          have G3 := Lib.hid (show El V5 (Value.slice P3 L'.length c3).ownBlock (.slice X4 n x4) (mixU U1 al (k + 1)) ∧ El V5 (Value.slice P3 L'.length c3).ownBlock (.slice Y4 n y4) (mixU U2 ah (k + 1)) by
            have h1 := HT4.out.put (p := w1.heap.size + 1) (x := .slice X4 n x4) (y := .slice Y4 n y4) HH.out
            rw [← hV5, mixU_set HL1.out HQ.out.2.2.1, mixU_set HL2.out HQ.out.2.2.2] at h1
            exact ⟨El.own h1.fst (fun b e => (HO3.out.lt b e).2), El.own h1.snd (fun b e => (HO3.out.lt b e).2)⟩)
          have hs2 := HS2.out
          have G4 := Lib.hid (show Below w2.heap.size w2 V5 by
            rw [hV5]
            have h1 : Below w2.heap.size w2 V3 := (below_step HBW.out HBV.out).grown HG3.out (by have := HBV.out.size; have := HBW.out.size; omega) (fun b e => by have := (HLT.out b e).1; omega)
            exact two_below (h1.trans (HB4.out.mono (by have := h1.size; omega))) (by omega))
          have G5 := Lib.hid (show w1.heap.size + 2 ≤ V5.heap.size by have := G2.out.1.2.2; omega)
          go_roundw
          case rel => exact ⟨k + 1, by omega, by go_num, P3, L'.length, c3, X4, x4, Y4, y4, L', rfl, Lib.hid rfl, by rw [← hV5]; exact G1, HLT', by rw [← hV5]; exact G2, by rw [← hV5]; exact G3, by rw [← hV5]; exact G4, by rw [← hV5]; exact G5⟩
          case measure => first | (simp [intOf]; done) | (simp [intOf]; omega)
    · obtain rfl : k = n := by omega
      have HLT := Lib.hid (show L = T by
        have := HT.out
        rw [List.drop_of_length_le (l := al) (by rw [HLA.out]; omega)] at this
        simpa [pcs] using this)
      have HF := Lib.hid (show MakesXs 27 w T (.returned (.slice P' n' c')) wr by
        have h1 := HLL.out
        have h2 := HO.out
        rw [HLT.out] at h1 h2
        subst h1
        have h3 := HB2.out.size
        have h4 := HB.out.size
        have h5 := HS2.out
        exact ⟨_, _, rfl, h2.le (by omega), HB.out.trans ((below_step HB2.out HBW.out).mono HB.out.size)⟩)
      go_wp2_with fail
      go_ret
      exact HF.out
end Go.Proofs.Ytaegkiangjnmdaa.bx
