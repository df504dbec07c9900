/- Package box: Shift and the function values that change two ends. -/
import Derived.Test.YtaegkiangjnmdaaBoxMake
import Derived.Deep.QuietTactic
import Derived.BigQuiet
namespace Go.Proofs.Ytaegkiangjnmdaa.bx
open Go.ChangeShapes Go.WideShapes Go.ChangeAt Go.RowKit Go.Proofs.Ytaegkiangjnmdaa.mem Go.Proofs.Ytaegkiangjnmdaa.prod Go.Proofs.Ytaegkiangjnmdaa.shp Go.Proofs.Ytaegkiangjnmdaa.strd Go.Proofs.Ytaegkiangjnmdaa.gam Go.Proofs.Ytaegkiangjnmdaa.sml Go.Proofs.Ytaegkiangjnmdaa.all Go.Proofs.Ytaegkiangjnmdaa.odo Go.Proofs.Ytaegkiangjnmdaa.eql Go.Proofs.Ytaegkiangjnmdaa.arr
set_option linter.unusedVariables false

theorem fn_shift (W0 : World) (x y z : Int) (p : Addr) (hp : p.block < W0.heap.size) (hc : W0.cell? p = some (.int .i64 z)) : Fn2 35 #[.pointer (some p)] W0 x y (wrap64 (x + z)) (wrap64 (y + z)) where
  enter := fun _ _ => rfl
  call := by
    intro V hb
    have h1 : V.cell? p = some (.int .i64 z) := (hb.cell hp).trans hc
    clear hc hp hb
    show Calls Try.prog 35 #[.int .i64 x, .int .i64 y, .pointer (some p)] V _
    go_enter Try.func35, Try.ntmps35
    go_wp2_with fail
    go_quiet (fail)
    go_wp2_with fail
    go_ret2
    exact ⟨ret_two (by rfl) (by rfl), _, rfl⟩

/-- Three variables, made one after the other. -/
theorem three_boxes {w W : World} {x0 x1 y0 z0 z1 : Value} {t u v : TypeId} (hW : W = ((w.alloc (.cells #[x0, x1] t)).alloc (.cells #[y0] u)).alloc (.cells #[z0, z1] v)) :
    Below w.heap.size w W ∧ W.heap.size = w.heap.size + 3 ∧ ∀ V, Below W.heap.size W V →
      V.cell? ⟨w.heap.size, 0, none⟩ = some x0 ∧ V.cell? ⟨w.heap.size, 1, none⟩ = some x1 ∧ V.cell? ⟨w.heap.size + 1, 0, none⟩ = some y0 ∧ V.cell? ⟨w.heap.size + 2, 0, none⟩ = some z0 ∧ V.cell? ⟨w.heap.size + 2, 1, none⟩ = some z1 ∧
      V.frozen? ⟨w.heap.size + 2, 0, none⟩ = false ∧ V.frozen? ⟨w.heap.size + 2, 1, none⟩ = false := by
  obtain ⟨V1, h1⟩ : ∃ V1, V1 = w.alloc (.cells #[x0, x1] t) := ⟨_, rfl⟩
  obtain ⟨V2, h2⟩ : ∃ V2, V2 = V1.alloc (.cells #[y0] u) := ⟨_, rfl⟩
  rw [← h1, ← h2] at hW
  have s1 : V1.heap.size = w.heap.size + 1 := by rw [h1]; simp
  have s2 : V2.heap.size = w.heap.size + 2 := by rw [h2]; simp [s1]
  have hs : W.heap.size = w.heap.size + 3 := by rw [hW]; simp [s2]
  have b1 : Below w.heap.size w V1 := by rw [h1]; exact one_below _ _ _
  have b2 : Below V1.heap.size V1 V2 := by rw [h2]; exact one_below _ _ _
  have b3 : Below V2.heap.size V2 W := by rw [hW]; exact one_below _ _ _
  have c0 : V1.cell? ⟨w.heap.size, 0, none⟩ = some x0 ∧ V1.cell? ⟨w.heap.size, 1, none⟩ = some x1 := by rw [h1]; simp
  have c1 : V2.cell? ⟨w.heap.size + 1, 0, none⟩ = some y0 := by rw [h2, ← s1]; simp
  have c2 : W.cell? ⟨w.heap.size + 2, 0, none⟩ = some z0 ∧ W.cell? ⟨w.heap.size + 2, 1, none⟩ = some z1 ∧ W.frozen? ⟨w.heap.size + 2, 0, none⟩ = false ∧ W.frozen? ⟨w.heap.size + 2, 1, none⟩ = false := by rw [hW, ← s2]; simp
  refine ⟨below_step (below_step b1 b2) b3, hs, fun V h => ?_⟩
  have h23 := below_step b3 h
  have h13 := below_step b2 h23
  have l2 : w.heap.size + 2 < W.heap.size := by omega
  exact ⟨(h13.cell (p := ⟨w.heap.size, 0, none⟩) (by show w.heap.size < _; omega)).trans c0.1, (h13.cell (p := ⟨w.heap.size, 1, none⟩) (by show w.heap.size < _; omega)).trans c0.2, (h23.cell (p := ⟨w.heap.size + 1, 0, none⟩) (by show w.heap.size + 1 < _; omega)).trans c1,
    (h.cell (p := ⟨w.heap.size + 2, 0, none⟩) l2).trans c2.1, (h.cell (p := ⟨w.heap.size + 2, 1, none⟩) l2).trans c2.2.1, (h.frozen (p := ⟨w.heap.size + 2, 0, none⟩) l2).trans c2.2.2.1, (h.frozen (p := ⟨w.heap.size + 2, 1, none⟩) l2).trans c2.2.2.2⟩

set_option maxHeartbeats 1000000 in
theorem shift_out (A B : Option Addr) (n c d : Nat) (lo hi : List Int) (i z : Int) (w : World) (hr : rgtB lo hi = true) (ha : Rd w A n lo) (hb : Rd w B n hi) (hi' : i < 0 ∨ (n : Int) ≤ i) :
    Calls Try.prog 20 #[.agg #[.slice A n c, .slice B n d], .int .i64 i, .int .i64 z] w (NoX w) := by
  have hn : n ≤ maxLen := by have := (rgt_out hr).2.1; rw [ha.1] at this; unfold maxLen; omega
  have P1 := fun W h1 h2 => Lib.hid (hr ▸ right_any A B n c n d lo hi W hn hn h1 h2)
  obtain ⟨W, hW⟩ : ∃ W, W = ((w.alloc (.cells #[.slice A n c, .slice B n d] 27)).alloc (.cells #[.int .i64 z] 3)).alloc (.cells #[.slice none 0 0, .slice none 0 0] 27) := ⟨_, rfl⟩
  obtain ⟨hbl, hsz, KC⟩ := three_boxes hW
  have HX := Lib.hid (ha.below hbl); have HY := Lib.hid (hb.below hbl)
  have HB := Lib.hid hbl
  have HW := Lib.hid hW
  have HKC := Lib.hid KC
  obtain ⟨k1, k2, k3, k4, k5, k6, k7⟩ := KC W (Below.refl _ _)
  clear ha hb hbl hsz hW KC hr hn
  rcases hi' with hi' | hi'
  · go_enter Try.func20, Try.ntmps20
    go_wp2_with fail
    rw [← HW.out]
    refine (P1 _ HX.out HY.out).out.mono ?_
    rintro e w1 ⟨rfl, hb⟩
    have HB1 := Lib.hid hb
    clear k1 k2 k3 k4 k5 k6 k7
    obtain ⟨k1, k2, k3, k4, k5, k6, k7⟩ := HKC.out _ hb
    clear hb
    go_wp2_with fail
    refine bodyPost_ret (v := .tuple #[.agg #[.slice none 0 0, .slice none 0 0], .bool false]) (by simp [results, Try.results20, go_sem, *]) rfl ⟨rfl, two_below (HB.out.trans (HB1.out.mono HB.out.size)) (by omega)⟩
  · have hi2 : ¬ i < 0 := by omega
    go_enter Try.func20, Try.ntmps20
    go_wp2_with fail
    rw [← HW.out]
    refine (P1 _ HX.out HY.out).out.mono ?_
    rintro e w1 ⟨rfl, hb⟩
    have HB1 := Lib.hid hb
    clear k1 k2 k3 k4 k5 k6 k7
    obtain ⟨k1, k2, k3, k4, k5, k6, k7⟩ := HKC.out _ hb
    clear hb
    go_wp2_with fail
    refine bodyPost_ret (v := .tuple #[.agg #[.slice none 0 0, .slice none 0 0], .bool false]) (by simp [results, Try.results20, go_sem, *]) rfl ⟨rfl, two_below (HB.out.trans (HB1.out.mono HB.out.size)) (by omega)⟩

/-- What Shift answers. -/
def ShiftsTo (w : World) (n : Nat) (lo hi : List Int) (e : Ending) (w' : World) : Prop := if rgtB lo hi = true then MakesXB w n n lo hi e w' else NoX w e w'
set_option maxHeartbeats 2000000 in
theorem shift_in (A B : Option Addr) (n c d k : Nat) (lo hi : List Int) (x y z : Int) (w : World) (hr : rgtB lo hi = true) (hk : k < n) (ha : Rd w A n lo) (hb : Rd w B n hi) (hA : A = none → c = 0) (hB : B = none → d = 0) (hx : lo[k]? = some x) (hy : hi[k]? = some y) :
    Calls Try.prog 20 #[.agg #[.slice A n c, .slice B n d], .int .i64 (k : Int), .int .i64 z] w (ShiftsTo w n (lo.set k (wrap64 (x + z))) (hi.set k (wrap64 (y + z)))) := by
  have hmf : ∀ (fn : Fn) (first cap : Array Value) (w : World), (Instr.makeFunc fn first cap).run Try.prog w = .ok (.func fn first cap) w := fun _ _ _ _ => rfl
  have h16 : n ≤ 16 := by have := (rgt_out hr).2.1; rw [ha.1] at this; omega
  have hn : n ≤ maxLen := by unfold maxLen; omega
  have P1 := fun W h1 h2 => Lib.hid (hr ▸ right_any A B n c n d lo hi W hn hn h1 h2)
  obtain ⟨W, hW⟩ : ∃ W, W = ((w.alloc (.cells #[.slice A n c, .slice B n d] 27)).alloc (.cells #[.int .i64 z] 3)).alloc (.cells #[.slice none 0 0, .slice none 0 0] 27) := ⟨_, rfl⟩
  obtain ⟨hbl, hsz, KC⟩ := three_boxes hW
  have HX := Lib.hid (ha.below hbl); have HY := Lib.hid (hb.below hbl)
  have P2 : ∀ V, Below W.heap.size W V → Hid (Calls Try.prog 31 #[.agg #[.slice A n c, .slice B n d], .int .i64 (k : Int), .func (.func 35) #[] #[.pointer (some ⟨w.heap.size + 1, 0, none⟩)]] V (MakesX V n n (lo.set k (wrap64 (x + z))) (hi.set k (wrap64 (y + z))))) := fun V h =>
    Lib.hid (along_any A B n c d k _ _ lo hi x y _ _ V (by omega) hk (HX.out.below h) (HY.out.below h) hA hB hx hy (fn_shift V x y z ⟨w.heap.size + 1, 0, none⟩ (by have := h.size; show w.heap.size + 1 < _; omega) (KC V h).2.2.1))
  obtain ⟨lo', hlo⟩ : ∃ l, l = lo.set k (wrap64 (x + z)) := ⟨_, rfl⟩
  obtain ⟨hi', hhi⟩ : ∃ l, l = hi.set k (wrap64 (y + z)) := ⟨_, rfl⟩
  rw [← hlo, ← hhi] at P2 ⊢
  have P3 := fun P p Q q W h1 h2 => right_any P Q n p n q lo' hi' W hn hn h1 h2
  unfold ShiftsTo
  have HB := Lib.hid hbl; have HSZ := Lib.hid hsz
  have HW := Lib.hid hW
  have HKC := Lib.hid KC
  have HP2 := Lib.hid P2
  obtain ⟨k1, k2, k3, k4, k5, k6, k7⟩ := KC W (Below.refl _ _)
  clear ha hb hbl hsz hW KC hr hn hx hy hA hB P2 hlo hhi
  generalize rgtB lo' hi' = r at *
  have P3 := fun P p Q q W h1 h2 => Lib.hid (P3 P p Q q W h1 h2)
  rename_i q1
  clear q1
  cases r
  · show Calls _ _ _ _ (NoX w)
    go_enter Try.func20, Try.ntmps20
    go_wp2_with fail
    rw [← HW.out]
    refine (P1 _ HX.out HY.out).out.mono ?_
    rintro e w1 ⟨rfl, hb⟩
    have HB1 := Lib.hid hb
    have HP := HP2.out _ hb
    clear k1 k2 k3 k4 k5 k6 k7
    obtain ⟨k1, k2, k3, k4, k5, k6, k7⟩ := HKC.out _ hb
    clear hb
    go_wp2_with fail
    refine HP.out.mono ?_
    rintro e w2 ⟨P, p, Q, q, rfl, hT, hb⟩
    have hbx := one_below w2 #[.slice P n p, .slice Q n q] 27
    have HB2 := Lib.hid ((HB1.out.trans (hb.mono HB1.out.size)).trans (hbx.mono (Nat.le_trans HB1.out.size hb.size)))
    have HT2 := Lib.hid (hT.below hbx)
    clear k1 k2 k3 k4 k5 k6 k7
    clear hb hT hbx HP
    go_wp2_with fail
    refine (P3 _ _ _ _ _ HT2.out.fst.rd HT2.out.snd.rd).out.mono ?_
    rintro e w3 ⟨rfl, hb⟩
    have HB3 := Lib.hid (HB2.out.trans (hb.mono HB2.out.size))
    obtain ⟨k1, k2, k3, k4, k5, k6, k7⟩ := HKC.out _ HB3.out
    clear hb
    go_wp2_with fail
    refine bodyPost_ret (v := .tuple #[.agg #[.slice none 0 0, .slice none 0 0], .bool false]) (by simp [results, Try.results20, go_sem, *]) rfl ⟨rfl, two_below (HB.out.trans (HB3.out.mono HB.out.size)) (by omega)⟩
  · show Calls _ _ _ _ (MakesXB w n n lo' hi')
    go_enter Try.func20, Try.ntmps20
    go_wp2_with fail
    rw [← HW.out]
    refine (P1 _ HX.out HY.out).out.mono ?_
    rintro e w1 ⟨rfl, hb⟩
    have HB1 := Lib.hid hb
    have HP := HP2.out _ hb
    clear k1 k2 k3 k4 k5 k6 k7
    obtain ⟨k1, k2, k3, k4, k5, k6, k7⟩ := HKC.out _ hb
    clear hb
    go_wp2_with fail
    refine HP.out.mono ?_
    rintro e w2 ⟨P, p, Q, q, rfl, hT, hb⟩
    have hbx := one_below w2 #[.slice P n p, .slice Q n q] 27
    have HB2 := Lib.hid ((HB1.out.trans (hb.mono HB1.out.size)).trans (hbx.mono (Nat.le_trans HB1.out.size hb.size)))
    have HT2 := Lib.hid ((hT.below hbx).le HB1.out.size)
    have HX2 := Lib.hid (box2_new w2 (.slice P n p) (.slice Q n q) 27)
    clear k1 k2 k3 k4 k5 k6 k7
    clear hb hT hbx HP
    go_wp2_with fail
    refine (P3 _ _ _ _ _ HT2.out.fst.rd HT2.out.snd.rd).out.mono ?_
    rintro e w3 ⟨rfl, hb⟩
    have HB3 := Lib.hid (HB2.out.trans (hb.mono HB2.out.size))
    have HT3 := Lib.hid (HT2.out.below hb)
    obtain ⟨k1, k2, k3, k4, k5, k6, k7⟩ := HKC.out _ HB3.out
    obtain ⟨j1, j2, _⟩ := HX2.out.below hb
    clear hb k1 k2 k3
    go_wp2_with fail
    have hs := HSZ.out
    refine bodyPost_ret (v := .tuple #[.agg #[.slice P n p, .slice Q n q], .bool true]) (by simp [results, Try.results20, go_sem, *]) rfl ⟨_, _, _, _, rfl, ?_, two_below (HB.out.trans (HB3.out.mono HB.out.size)) (by omega)⟩
    exact (HT3.out.put (p := w.heap.size + 2) (by omega)).le (by omega)
end Go.Proofs.Ytaegkiangjnmdaa.bx
