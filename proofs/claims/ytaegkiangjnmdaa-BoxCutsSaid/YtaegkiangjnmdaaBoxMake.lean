/- Package box, what makes a box: duplicate, changed, along, Shift; two rows of the call's own in blocks of their own. -/
import Derived.Test.YtaegkiangjnmdaaBox
import Derived.Deep.RegionWith
import Derived.RegionTactic
namespace Go.Proofs.Ytaegkiangjnmdaa.bx
open Go.ChangeShapes Go.WideShapes Go.ChangeAt Go.RowKit Go.Proofs.Ytaegkiangjnmdaa.mem Go.Proofs.Ytaegkiangjnmdaa.prod Go.Proofs.Ytaegkiangjnmdaa.shp Go.Proofs.Ytaegkiangjnmdaa.strd Go.Proofs.Ytaegkiangjnmdaa.gam Go.Proofs.Ytaegkiangjnmdaa.sml Go.Proofs.Ytaegkiangjnmdaa.all Go.Proofs.Ytaegkiangjnmdaa.odo Go.Proofs.Ytaegkiangjnmdaa.eql Go.Proofs.Ytaegkiangjnmdaa.arr
set_option linter.unusedVariables false

/-- Two rows of the call's own, in blocks of their own. -/
structure Two (w : World) (B : Nat) (u v : Value) (xs ys : List Int) : Prop where
  fst : Own w B u xs
  snd : Own w B v ys
  apart : ∀ g, u.ownBlock = some g → v.ownBlock ≠ some g
theorem Two.below {w w' : World} {B : Nat} {u v : Value} {xs ys : List Int} (h : Two w B u v xs ys) (hb : Below w.heap.size w w') : Two w' B u v xs ys := ⟨h.fst.below hb, h.snd.below hb, h.apart⟩
theorem Two.le {w : World} {B B' : Nat} {u v : Value} {xs ys : List Int} (h : Two w B u v xs ys) (hb : B' ≤ B) : Two w B' u v xs ys := ⟨h.fst.le hb, h.snd.le hb, h.apart⟩
theorem Two.put {w : World} {B p : Nat} {u v x y : Value} {xs ys : List Int} (h : Two w B u v xs ys) (hp : p < B) : Two ((w.setCell ⟨p, 0, none⟩ x).setCell ⟨p, 1, none⟩ y) B u v xs ys :=
  ⟨OwnT.own ((Own.t h.fst).two hp), OwnT.own ((Own.t h.snd).two hp), h.apart⟩
/-- The second row was made behind the first one. -/
theorem two_of {w1 w2 : World} {B : Nat} {u v : Value} {xs ys : List Int} (h1 : Own w1 B u xs) (hb : Below w1.heap.size w1 w2) (h2 : Own w2 w1.heap.size v ys) (hB : B ≤ w1.heap.size) : Two w2 B u v xs ys :=
  ⟨h1.below hb, h2.le hB, fun g hg hv => by have := (World.ownsRow.lt h1 g hg).2; have := (World.ownsRow.lt h2 g hv).1; omega⟩
/-- What a call answers that makes a box. -/
def MakesX (w : World) (n m : Nat) (lo hi : List Int) (e : Ending) (w' : World) : Prop :=
  ∃ A c B d, e = .returned (.agg #[.slice A n c, .slice B m d]) ∧ Two w' w.heap.size (.slice A n c) (.slice B m d) lo hi ∧ Below w.heap.size w w'
/-- .. and that there is one. -/
def MakesXB (w : World) (n m : Nat) (lo hi : List Int) (e : Ending) (w' : World) : Prop :=
  ∃ A c B d, e = .returned (.tuple #[.agg #[.slice A n c, .slice B m d], .bool true]) ∧ Two w' w.heap.size (.slice A n c) (.slice B m d) lo hi ∧ Below w.heap.size w w'
def NoX (w : World) (e : Ending) (w' : World) : Prop := e = .returned (.tuple #[.agg #[.slice none 0 0, .slice none 0 0], .bool false]) ∧ Below w.heap.size w w'
theorem Two.sets {w : World} {B g g' n p m q : Nat} {xs ys : List Int} (h : Two w B (.slice (some ⟨g, 0, none⟩) n p) (.slice (some ⟨g', 0, none⟩) m q) xs ys) (hne : g ≠ g') (k : Nat) (x y : Int) :
    Two ((w.setCell ⟨g, k, none⟩ (.int .i64 x)).setCell ⟨g', k, none⟩ (.int .i64 y)) B (.slice (some ⟨g, 0, none⟩) n p) (.slice (some ⟨g', 0, none⟩) m q) (xs.set k x) (ys.set k y) := by
  have h1 := h.fst.set_ k x
  have h2 := OwnT.own ((Own.t h.snd).aside (p := ⟨g, k, none⟩) hne (.int .i64 x))
  exact ⟨OwnT.own ((Own.t h1).aside (p := ⟨g', k, none⟩) (fun e => hne e.symm) (.int .i64 y)), h2.set_ k y, h.apart⟩
theorem own_none {w : World} {B n c : Nat} {xs : List Int} (h : Own w B (.slice none n c) xs) : c = 0 := by
  rcases h.2 with ⟨e, _⟩ | ⟨g, cap, cur, e, _⟩
  · injection e
  · injection e with e; cases e

set_option maxHeartbeats 1000000 in
theorem duplicate_any (A B : Option Addr) (n c m d : Nat) (lo hi : List Int) (w : World) (hn : n ≤ 1099511627776) (hm : m ≤ 1099511627776) (ha : Rd w A n lo) (hb : Rd w B m hi) (hA : A = none → c = 0) (hB : B = none → d = 0) :
    Calls Try.prog 25 #[.agg #[.slice A n c, .slice B m d]] w (MakesX w n m lo hi) := by
  obtain ⟨W, hW⟩ : ∃ W, W = (w.alloc (.cells #[.slice A n c, .slice B m d] 27)).alloc (.cells #[.slice none 0 0, .slice none 0 0] 27) := ⟨_, rfl⟩
  obtain ⟨hbl, hsz, KC⟩ := two_boxes hW
  have HX := Lib.hid (ha.below hbl)
  have HY := Lib.hid (hb.below hbl)
  have HSZ := Lib.hid hsz
  have HB := Lib.hid hbl
  have HW := Lib.hid hW
  have HD := Lib.hid (show Below W.heap.size W W.drew from Below.drew (Below.refl _ _))
  obtain ⟨hk0, hk1, _⟩ := KC W (Below.refl _ _)
  have P1 : ∀ V, Hid (Below W.heap.size W V) → Hid (Calls Try.prog 36 #[.slice A n c] V fun e V' => ∃ P k, e = .returned (.slice P n k) ∧ Hid (Own V' V.heap.size (.slice P n k) lo) ∧ Hid (Below V.heap.size V V') ∧ Hid (Below W.heap.size W V')) := fun V h =>
    Lib.hid ((clone_any A n c lo V hn (HX.out.below h.out) hA).mono fun e V' hm => by
      obtain ⟨P, k, rfl, ho, hb, _⟩ := hm.out
      rw [HX.out.1] at ho ⊢
      exact ⟨P, k, rfl, Lib.hid ho, Lib.hid hb, Lib.hid (below_step h.out hb)⟩)
  have P2 : ∀ V, Hid (Below W.heap.size W V) → Hid (Calls Try.prog 36 #[.slice B m d] V fun e V' => ∃ P k, e = .returned (.slice P m k) ∧ Hid (Own V' V.heap.size (.slice P m k) hi) ∧ Hid (Below V.heap.size V V') ∧ Hid (Below W.heap.size W V')) := fun V h =>
    Lib.hid ((clone_any B m d hi V hm (HY.out.below h.out) hB).mono fun e V' hm => by
      obtain ⟨P, k, rfl, ho, hb, _⟩ := hm.out
      rw [HY.out.1] at ho ⊢
      exact ⟨P, k, rfl, Lib.hid ho, Lib.hid hb, Lib.hid (below_step h.out hb)⟩)
  have HKC := Lib.hid KC
  clear ha hb hbl hsz hW hA hB KC
  go_enter Try.func25, Try.ntmps25
  go_wp2_with fail
  rw [← HW.out]
  go_region_held3 (fun w' => w'.cell? ⟨w.heap.size, 0, none⟩ = some (.slice A n c) ∧ w'.cell? ⟨w.heap.size, 1, none⟩ = some (.slice B m d)) (go_keep)
    (first
      | (go_at_call 36; (with_reducible refine (P1 _ (by assumption)).out.mono ?_); rintro e w1 ⟨P1', k1, rfl, HO1, HB1, HK1⟩; obtain ⟨e1, e2, e3, e4, e5, e6, e7, e8⟩ := HKC.out _ HK1.out; clear e5 e6)
      | (go_at_call 36; (with_reducible refine (P2 _ (by assumption)).out.mono ?_); rintro e w2 ⟨P2', k2, rfl, HO2, HB2, HK2⟩; obtain ⟨u1, u2, u3, u4, u5, u6, u7, u8⟩ := HKC.out _ HK2.out; clear u5 u6))
  all_goals
    have HLE := Lib.hid (show W.heap.size ≥ w.heap.size + 2 from by have := HSZ.out; omega)
    clear e1 e2 u1 u2 hk0 hk1
    go_wp2_with fail
    have HT := Lib.hid (two_of HO1.out HB2.out HO2.out (HB1.out.size))
    have hle := HLE.out
    have l0 : W.heap.size ≤ W.drew.heap.size := HD.out.size
    refine bodyPost_ret (v := .agg #[.slice P1' n k1, .slice P2' m k2]) (by simp [results, Try.results25, go_sem, *]) rfl ⟨_, _, _, _, rfl, ?_, two_below (HB.out.trans (HK2.out.mono HB.out.size)) (by omega)⟩
    exact (HT.out.put (p := w.heap.size + 1) (by omega)).le (by omega)

/-- A function value that changes two ends: at x and y it answers fx and fy. -/
structure Fn2 (K : Nat) (lb : Array Value) (W0 : World) (x y fx fy : Int) : Prop where
  enter : ∀ args w, (callFunc K args).run Try.prog w = .ok (.enter K args) w
  call : ∀ V, Below W0.heap.size W0 V → Calls Try.prog K (#[.int .i64 x, .int .i64 y] ++ lb) V fun e w' => e = .returned (.tuple #[.int .i64 fx, .int .i64 fy]) ∧ ∃ q, w' = V.drewN q

set_option maxHeartbeats 2000000 in
theorem changed_any (A B : Option Addr) (n c d k K : Nat) (lb : Array Value) (xs ys : List Int) (x y fx fy : Int) (w : World) (hn : n ≤ 1099511627776) (hk : k < n) (ha : Rd w A n xs) (hb : Rd w B n ys) (hA : A = none → c = 0) (hB : B = none → d = 0)
    (hx : xs[k]? = some x) (hy : ys[k]? = some y) (hf : Fn2 K lb w x y fx fy) :
    Calls Try.prog 46 #[.slice A n c, .slice B n d, .int .i64 (k : Int), .func (.func K) #[] lb] w fun e w' => ∃ P p Q q, e = .returned (.tuple #[.slice P n p, .slice Q n q]) ∧ Two w' w.heap.size (.slice P n p) (.slice Q n q) (xs.set k fx) (ys.set k fy) ∧ Below w.heap.size w w' := by
  have P1 := Lib.hid (clone_any A n c xs w hn ha hA)
  have P2 := fun W h => Lib.hid (clone_any B n d ys W hn (hb.below h) hB)
  have HLX := Lib.hid ha.1; have HLY := Lib.hid hb.1
  have HX := Lib.hid hx; have HY := Lib.hid hy
  have HF := Lib.hid hf.call
  have eg := hf.enter
  clear ha hb hA hB hx hy hf
  go_enter Try.func46, Try.ntmps46
  go_wp2_with fail
  refine P1.out.mono ?_
  intro e w1 hm
  obtain ⟨P, p, rfl, ho1, hb1, _⟩ := hm.out
  rw [HLX.out] at ho1
  simp only [HLX.out]
  have HO1 := Lib.hid ho1; have HB1 := Lib.hid hb1
  clear hm ho1 hb1
  go_wp2_with fail
  refine (P2 _ HB1.out).out.mono ?_
  intro e w2 hm
  obtain ⟨Q, q, rfl, ho2, hb2, _⟩ := hm.out
  rw [HLY.out] at ho2
  simp only [HLY.out]
  have hT := two_of HO1.out hb2 ho2 HB1.out.size
  have HB2 := Lib.hid (HB1.out.trans (hb2.mono HB1.out.size))
  clear hm ho2 hb2
  obtain ⟨g, g', rfl, rfl, hne, hge, hge'⟩ : ∃ g g', P = some ⟨g, 0, none⟩ ∧ Q = some ⟨g', 0, none⟩ ∧ g ≠ g' ∧ w.heap.size ≤ g ∧ w.heap.size ≤ g' := by
    obtain ⟨g, cap, e, h1, _⟩ := World.ownsRow.form hT.fst (by rw [HLX.out]; omega)
    obtain ⟨g', cap', e', h1', _⟩ := World.ownsRow.form hT.snd (by rw [HLY.out]; omega)
    injection e with e1; injection e' with e1'
    subst e1; subst e1'
    exact ⟨g, g', rfl, rfl, fun e => hT.apart g rfl (by rw [e]; rfl), h1, h1'⟩
  have HT := Lib.hid hT
  have hc1 : w2.cell? ⟨g, k, none⟩ = some (.int .i64 x) := hT.fst.cellAt HX.out
  have hc2 : w2.cell? ⟨g', k, none⟩ = some (.int .i64 y) := hT.snd.cellAt HY.out
  have hf1 := hT.fst.frozenAt k
  have hf2 := hT.snd.frozenAt k
  have hi1 : (k : Int) < (n : Int) := by omega
  have hne' : g' ≠ g := fun e => hne e.symm
  clear hT
  go_wp2_with fail
  go_region_with ((refine (HF.out _ (by repeat (first | exact HB2.out | refine Below.drew ?_))).mono ?_; rintro e w3 ⟨rfl, q3, rfl⟩))
  all_goals (go_wp2_with fail)
  all_goals
    go_ret2
    exact ⟨_, _, _, _, rfl, Two.sets (HT.out.below (below_drewN (Below.refl _ _) _)) hne k fx fy, ((below_drewN HB2.out _).setCell hge _).setCell hge' _⟩

set_option maxHeartbeats 1000000 in
theorem along_any (A B : Option Addr) (n c d k K : Nat) (lb : Array Value) (lo hi : List Int) (x y fx fy : Int) (w : World) (hn : n ≤ 1099511627776) (hk : k < n) (ha : Rd w A n lo) (hb : Rd w B n hi) (hA : A = none → c = 0) (hB : B = none → d = 0)
    (hx : lo[k]? = some x) (hy : hi[k]? = some y) (hf : Fn2 K lb w x y fx fy) :
    Calls Try.prog 31 #[.agg #[.slice A n c, .slice B n d], .int .i64 (k : Int), .func (.func K) #[] lb] w (MakesX w n n (lo.set k fx) (hi.set k fy)) := by
  obtain ⟨W, hW⟩ : ∃ W, W = (w.alloc (.cells #[.slice A n c, .slice B n d] 27)).alloc (.cells #[.slice none 0 0, .slice none 0 0] 27) := ⟨_, rfl⟩
  obtain ⟨hbl, hsz, KC⟩ := two_boxes hW
  have P1 := Lib.hid (changed_any A B n c d k K lb lo hi x y fx fy W hn hk (ha.below hbl) (hb.below hbl) hA hB hx hy ⟨hf.enter, fun V h => hf.call V (hbl.trans (h.mono hbl.size))⟩)
  have HSZ := Lib.hid hsz
  have HB := Lib.hid hbl
  have HW := Lib.hid hW
  have HKC := Lib.hid KC
  clear ha hb hbl hsz hW hA hB KC hx hy hf
  go_enter Try.func31, Try.ntmps31
  go_wp2_with fail
  rw [← HW.out]
  refine P1.out.mono ?_
  rintro e w1 ⟨P, p, Q, q, rfl, hT, hb⟩
  have HT := Lib.hid hT; have HB1 := Lib.hid hb
  obtain ⟨u1, u2, u3, u4, u5, u6, u7, u8⟩ := HKC.out _ hb
  clear hT hb u1 u2 u5 u6
  have HLE := Lib.hid (show W.heap.size ≥ w.heap.size + 2 from by have := HSZ.out; omega)
  go_wp2_with fail
  have hle := HLE.out
  refine bodyPost_ret (v := .agg #[.slice P n p, .slice Q n q]) (by simp [results, Try.results31, go_sem, u3, u4]) rfl ⟨_, _, _, _, rfl, ?_, two_below (HB.out.trans (HB1.out.mono HB.out.size)) (by omega)⟩
  exact (HT.out.put (p := w.heap.size + 1) (by omega)).le (by omega)
end Go.Proofs.Ytaegkiangjnmdaa.bx
