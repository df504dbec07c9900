/- Package parse: operands. Package parse: operands, all of them. Package parse: expressions. -/
import Derived.Test.YthgojbaindejjaaGreatDoorPsNode
import Derived.Deep.RegionHeld3
/- Package parse: operands. Package parse: operands, all of them. -/
/- Package parse: operands. -/
namespace Go.Proofs.YthgojbaindejjaaGreatDoor.ps
open Go.ChangeShapes Go.WideShapes Go.ChangeAt Go.RowKit Go.Proofs.YthgojbaindejjaaGreatDoor.mem Go.Proofs.YthgojbaindejjaaGreatDoor.lx Go.Proofs.YthgojbaindejjaaGreatDoor.tr
set_option linter.unusedVariables false
set_option linter.unusedSimpArgs false
attribute [local go_sem] tk_kind tk_text tk_num

/-- The block of an answer: seven cells that are not frozen. -/
structure Seven (g : Nat) (X : World) (x0 x1 x2 x3 x4 x5 x6 : Value) : Prop where
  c0 : X.cell? ⟨g, 0, none⟩ = some x0
  c1 : X.cell? ⟨g, 1, none⟩ = some x1
  c2 : X.cell? ⟨g, 2, none⟩ = some x2
  c3 : X.cell? ⟨g, 3, none⟩ = some x3
  c4 : X.cell? ⟨g, 4, none⟩ = some x4
  c5 : X.cell? ⟨g, 5, none⟩ = some x5
  c6 : X.cell? ⟨g, 6, none⟩ = some x6
  f : ∀ j, X.frozen? ⟨g, j, none⟩ = false
theorem Seven.lt {g : Nat} {X : World} {x0 x1 x2 x3 x4 x5 x6 : Value} (h : Seven g X x0 x1 x2 x3 x4 x5 x6) : g < X.heap.size := cell_lt h.c0
theorem Seven.as {g : Nat} {X X' : World} {x0 x1 x2 x3 x4 x5 x6 : Value} (h : Seven g X x0 x1 x2 x3 x4 x5 x6) (e : X'.heap[g]? = X.heap[g]?) : Seven g X' x0 x1 x2 x3 x4 x5 x6 := by
  have hc : ∀ j, X'.cell? ⟨g, j, none⟩ = X.cell? ⟨g, j, none⟩ := fun j => World.cell?_of_block (a := ⟨g, j, none⟩) e
  exact ⟨(hc _).trans h.c0, (hc _).trans h.c1, (hc _).trans h.c2, (hc _).trans h.c3, (hc _).trans h.c4, (hc _).trans h.c5, (hc _).trans h.c6, fun j => (World.frozen?_of_block (a := ⟨g, j, none⟩) e).trans (h.f j)⟩
theorem Seven.mv {b g : Nat} {X X' : World} {x0 x1 x2 x3 x4 x5 x6 : Value} (h : Seven g X x0 x1 x2 x3 x4 x5 x6) (hm : Mv b X X') (hg : g ≠ b) : Seven g X' x0 x1 x2 x3 x4 x5 x6 := h.as (hm.block g h.lt hg)
theorem Seven.below {g : Nat} {X X' : World} {x0 x1 x2 x3 x4 x5 x6 : Value} (h : Seven g X x0 x1 x2 x3 x4 x5 x6) (hm : Below X.heap.size X X') : Seven g X' x0 x1 x2 x3 x4 x5 x6 := h.as (hm.block g h.lt)
theorem seven_new {w W : World} {x0 x1 x2 x3 x4 x5 x6 : Value} {t : TypeId} (hW : W = w.alloc (.cells #[x0, x1, x2, x3, x4, x5, x6] t)) : Seven w.heap.size W x0 x1 x2 x3 x4 x5 x6 ∧ Below w.heap.size w W ∧ W.heap.size = w.heap.size + 1 := by
  obtain ⟨b, s, k⟩ := one_box7 hW
  obtain ⟨f, c0, c1, c2, c3, c4, c5, c6⟩ := k W (Below.refl _ _)
  exact ⟨⟨c0, c1, c2, c3, c4, c5, c6, f⟩, b, s⟩
/-- The seven cells of an answer are stored. -/
def put7 (X : World) (g : Nat) (x0 x1 x2 x3 x4 x5 x6 : Value) : World := ((((((X.setCell ⟨g, 0, none⟩ x0).setCell ⟨g, 1, none⟩ x1).setCell ⟨g, 2, none⟩ x2).setCell ⟨g, 3, none⟩ x3).setCell ⟨g, 4, none⟩ x4).setCell ⟨g, 5, none⟩ x5).setCell ⟨g, 6, none⟩ x6
theorem put7_block {X : World} {g : Nat} {x0 x1 x2 x3 x4 x5 x6 : Value} {i : Nat} (h : i ≠ g) : (put7 X g x0 x1 x2 x3 x4 x5 x6).heap[i]? = X.heap[i]? :=
  ((((((Below.heap_setCell _ _ _ _ h).trans (Below.heap_setCell _ _ _ _ h)).trans (Below.heap_setCell _ _ _ _ h)).trans (Below.heap_setCell _ _ _ _ h)).trans (Below.heap_setCell _ _ _ _ h)).trans (Below.heap_setCell _ _ _ _ h)).trans (Below.heap_setCell _ _ _ _ h)
theorem put7_below {B : Nat} {X : World} {g : Nat} {x0 x1 x2 x3 x4 x5 x6 : Value} (h : B ≤ g) : Below B X (put7 X g x0 x1 x2 x3 x4 x5 x6) :=
  ((((((((Below.refl B X).setCell (p := ⟨g, 0, none⟩) h x0).setCell (p := ⟨g, 1, none⟩) h x1).setCell (p := ⟨g, 2, none⟩) h x2).setCell (p := ⟨g, 3, none⟩) h x3).setCell (p := ⟨g, 4, none⟩) h x4).setCell (p := ⟨g, 5, none⟩) h x5).setCell (p := ⟨g, 6, none⟩) h x6)
/-- A tree's six cells, one by one. -/
theorem RdQ_six {Q : Nat → Prop} {w : World} {T : Tr} {u : S6} (h : RdQ Q w T u.agg) : ∃ k f a s A n c B m d, u = ⟨.int .i64 k, .int .i64 f, .int .i64 a, .string s, .slice A n c, .slice B m d⟩ ∧ k = T.kind := by
  rw [show T = .node T.kind T.fn T.axis T.name T.nums T.kids by cases T; rfl, rdQ_node] at h
  obtain ⟨A', n', c', B', m', d', h0, -⟩ := h
  obtain ⟨v0, v1, v2, v3, v4, v5⟩ := u
  simp only [S6.agg, Value.agg.injEq, Array.mk.injEq, List.cons.injEq, and_true] at h0
  obtain ⟨rfl, rfl, rfl, rfl, rfl, rfl⟩ := h0
  exact ⟨_, _, _, _, _, _, _, _, _, _, rfl, rfl⟩
/-- An answer that was stored, of a method. -/
theorem ansT_put {b m1 m2 : Nat} {w X : World} {T : Tr} {R : List Tk} {g B : Nat} {x0 x1 x2 x3 x4 x5 : Value} (hm : Mv b w X) (ha : At b m1 m2 X R) (hT : RdQ (fun k => B ≤ k) X T (.agg #[x0, x1, x2, x3, x4, x5])) (hg : w.heap.size ≤ g) (hgB : g < B) (hb : b < g) :
    AnsT b m1 m2 w (some (T, R)) (.returned (.agg #[x0, x1, x2, x3, x4, x5, .int .i64 (deepT T)])) (put7 X g x0 x1 x2 x3 x4 x5 (.int .i64 (deepT T))) := by
  refine ⟨hm.lo hg (put7_below (Nat.le_refl _)), ⟨x0, x1, x2, x3, x4, x5⟩, rfl, hT.keep ?_ (fun a hq _ => World.cell?_of_block (put7_block ?_)) (fun k hk => ?_), ha.lo hb (put7_below (Nat.le_refl _))⟩
  · exact (put7_below (B := 0) (Nat.zero_le _)).size
  · have : B ≤ a.block := hq
    omega
  · show w.heap.size ≤ k
    have : B ≤ k := hk
    omega
theorem tail_len {L : List Tk} {g : List UInt8} (hg : g ≠ []) (h : hd L = g) : L.tail.length + 1 = L.length := by
  obtain ⟨t, r, rfl, _⟩ := hd_some hg h
  simp
theorem deep_lit (ns : List Int) : deepT (lit ns) = 1 := by unfold lit; rw [deep_node]; simp [deepL]
/-- What holds of expr with the fuel n. -/
def ExAt (b m1 m2 n : Nat) : Prop := ∀ w L, At b m1 m2 w L → L.length < n → Calls Tryz.prog 42 #[.pointer (some ⟨b, 0, none⟩)] w (AnsT b m1 m2 w (dEx n L))
set_option maxHeartbeats 4000000 in
theorem operand_paren {b m1 m2 : Nat} {w : World} {L : List Tk} (n : Nat) (h : At b m1 m2 w L) (hE : ExAt b m1 m2 n) (hn : L.length ≤ n) (hc : hd L = gL) :
    Calls Tryz.prog 57 #[.pointer (some ⟨b, 0, none⟩)] w (AnsT b m1 m2 w (dOp (dEx n) L)) := by
  obtain ⟨W, hW⟩ : ∃ W, W = w.alloc (.cells #[.int .i64 0, .int .i64 0, .int .i64 0, .string ⟨#[]⟩, .slice none 0 0, .slice none 0 0, .int .i64 0] 68) := ⟨_, rfl⟩
  obtain ⟨hS, hbW, hsW⟩ := seven_new hW
  have hlb : b < w.heap.size := h.lt
  have HAW := Lib.hid (h.below hbW)
  have HMW := Lib.hid (Mv.of_below (b := b) hbW)
  have PA := Lib.hid (accept_any gL (by decide) HAW.out)
  rw [decide_eq_true hc, if_pos hc] at PA
  have hlen := tail_len (by decide) hc
  have e0 : dOp (dEx n) L = (match dEx n L.tail with
      | none => none
      | some (T, r) => if hd r = gR then some (T, r.tail) else none) := by
    conv => lhs; unfold dOp
    rw [if_pos hc]
    rfl
  rw [e0]
  have PX := Lib.hid (fun V (h : At b m1 m2 V L.tail) => hE V L.tail h (by omega))
  have PE := Lib.hid (fun V R (h : At b m1 m2 V R) => expect_any gR (by decide) h)
  have HW := Lib.hid hW
  have HS := Lib.hid hS
  have HLB := Lib.hid (And.intro hlb hsW)
  generalize L.tail = R at *
  clear h hE hn hc hlen e0 hS hbW hsW hW hlb
  cases hx : dEx n R with
  | none =>
    rw [hx] at PX
    clear hx
    go_enter Tryz.func57, Tryz.ntmps57
    go_upto_region 1 with fail
    rw [← HW.out]
    go_wp2_with fail
    refine PA.out.mono ?_
    rintro e w1 ⟨rfl, hm, ha⟩
    have HM := Lib.hid (HMW.out.trans hm)
    have P1 := Lib.hid (PX.out w1 ha)
    clear hm ha
    go_wp2_with fail
    refine P1.out.mono ?_
    rintro e w2 ⟨hm, rfl⟩
    exact ⟨rfl, HM.out.trans hm, rfl⟩
  | some p =>
    obtain ⟨T, r⟩ := p
    rw [hx] at PX
    clear hx
    simp only [] at PX ⊢
    have PE := Lib.hid (fun V h => PE.out V r h)
    by_cases hb : hd r = gR
    · rw [if_pos hb] at PE ⊢
      generalize r.tail = r2 at *
      clear hb
      go_enter Tryz.func57, Tryz.ntmps57
      go_upto_region 1 with fail
      rw [← HW.out]
      go_wp2_with fail
      refine PA.out.mono ?_
      rintro e w1 ⟨rfl, hm, ha⟩
      have HM := Lib.hid (HMW.out.trans hm)
      have P1 := Lib.hid (PX.out w1 ha)
      have HS1 := Lib.hid (HS.out.mv hm (by have := HLB.out; omega))
      have HL1 := Lib.hid (show W.heap.size ≤ w1.heap.size from hm.size)
      clear hm ha
      go_wp2_with fail
      refine P1.out.mono ?_
      rintro e w2 ⟨hm, u, rfl, hu, ha⟩
      obtain ⟨k, f, a, s, A, nn, c, B, m, d, rfl, -⟩ := RdQ_six hu
      obtain ⟨V, hV⟩ : ∃ V, V = w2.alloc (.cells #[.int .i64 k, .int .i64 f, .int .i64 a, .string s, .slice A nn c, .slice B m d, .int .i64 (deepT T)] 68) := ⟨_, rfl⟩
      obtain ⟨hS3, hb3, hs3⟩ := seven_new hV
      have HMV := Lib.hid (HM.out.trans (hm.trans (Mv.of_below hb3)))
      have HU := Lib.hid (hu.below hb3)
      have HS2 := Lib.hid ((HS1.out.mv hm (by have := HLB.out; omega)).below hb3)
      have HS3 := Lib.hid hS3
      have P2 := Lib.hid (PE.out V (ha.below hb3))
      have HV := Lib.hid hV
      have HZ := Lib.hid (show b < w2.heap.size ∧ W.heap.size ≤ w2.heap.size by have := ha.lt; have := hm.size; have := HL1.out; omega)
      clear hm ha hu hV hb3 hs3 hS3
      go_wp2_with fail
      rw [← HV.out]
      refine P2.out.mono ?_
      rintro e w3 ⟨hm, rfl, ha⟩
      obtain ⟨s0, s1, s2, s3, s4, s5, s6, sf⟩ := HS2.out.mv hm (by have := HLB.out; omega)
      have sf0 := sf 0; have sf1 := sf 1; have sf2 := sf 2; have sf3 := sf 3; have sf4 := sf 4; have sf5 := sf 5; have sf6 := sf 6
      obtain ⟨t0, t1, t2, t3, t4, t5, t6, tf⟩ := HS3.out.mv hm (by have := HZ.out; omega)
      have HM3 := Lib.hid (HMV.out.trans hm)
      have HA3 := Lib.hid ha
      have HU3 := Lib.hid (HU.out.keep hm.size (fun ad hq hl => World.cell?_of_block (hm.block _ hl (by have : w1.heap.size ≤ ad.block := hq; have := HLB.out; have := HL1.out; omega))) (fun _ h => h))
      clear hm ha sf tf
      go_wp2_with fail
      refine bodyPost_ret (v := .agg #[.int .i64 k, .int .i64 f, .int .i64 a, .string s, .slice A nn c, .slice B m d, .int .i64 (deepT T)]) (by simp [results, Tryz.results57, go_sem, s0, s1, s2, s3, s4, s5, s6]) rfl ?_
      exact ansT_put (B := w1.heap.size) HM3.out HA3.out HU3.out (Nat.le_refl _) (by have := HLB.out; have := HL1.out; omega) HLB.out.1
    · rw [if_neg hb] at PE ⊢
      clear hb
      go_enter Tryz.func57, Tryz.ntmps57
      go_upto_region 1 with fail
      rw [← HW.out]
      go_wp2_with fail
      refine PA.out.mono ?_
      rintro e w1 ⟨rfl, hm, ha⟩
      have HM := Lib.hid (HMW.out.trans hm)
      have P1 := Lib.hid (PX.out w1 ha)
      clear hm ha
      go_wp2_with fail
      refine P1.out.mono ?_
      rintro e w2 ⟨hm, u, rfl, hu, ha⟩
      obtain ⟨k, f, a, s, A, nn, c, B, m, d, rfl, -⟩ := RdQ_six hu
      obtain ⟨V, hV⟩ : ∃ V, V = w2.alloc (.cells #[.int .i64 k, .int .i64 f, .int .i64 a, .string s, .slice A nn c, .slice B m d, .int .i64 (deepT T)] 68) := ⟨_, rfl⟩
      obtain ⟨hS3, hb3, hs3⟩ := seven_new hV
      have HMV := Lib.hid (HM.out.trans (hm.trans (Mv.of_below hb3)))
      have P2 := Lib.hid (PE.out V (ha.below hb3))
      have HV := Lib.hid hV
      clear hm ha hu hV hb3 hs3 hS3
      go_wp2_with fail
      rw [← HV.out]
      refine P2.out.mono ?_
      rintro e w3 ⟨hm, rfl⟩
      exact ⟨rfl, HMV.out.trans hm, rfl⟩
end Go.Proofs.YthgojbaindejjaaGreatDoor.ps

/- Package parse: operands, all of them. -/
namespace Go.Proofs.YthgojbaindejjaaGreatDoor.ps
open Go.ChangeShapes Go.WideShapes Go.ChangeAt Go.RowKit Go.Proofs.YthgojbaindejjaaGreatDoor.mem Go.Proofs.YthgojbaindejjaaGreatDoor.lx Go.Proofs.YthgojbaindejjaaGreatDoor.tr
set_option linter.unusedVariables false
set_option linter.unusedSimpArgs false
attribute [local go_sem] tk_kind tk_text tk_num

/-- What an operand's answer lies on. -/
structure Op0 (b m1 m2 : Nat) (w W : World) (L : List Tk) : Prop where
  at_ : At b m1 m2 W L
  mv : Mv b w W
  seven : Seven w.heap.size W (.int .i64 0) (.int .i64 0) (.int .i64 0) (.string ⟨#[]⟩) (.slice none 0 0) (.slice none 0 0) (.int .i64 0)
  lt : b < w.heap.size
  size : w.heap.size < W.heap.size
theorem Op0.mvs {b m1 m2 : Nat} {w W V : World} {L R : List Tk} (h : Op0 b m1 m2 w W L) (hm : Mv b W V) (ha : At b m1 m2 V R) : Op0 b m1 m2 w V R :=
  ⟨ha, h.mv.trans hm, h.seven.mv hm (by have := h.lt; omega), h.lt, Nat.lt_of_lt_of_le h.size hm.size⟩
theorem Op0.below {b m1 m2 : Nat} {w W V : World} {L : List Tk} (h : Op0 b m1 m2 w W L) (hb : Below W.heap.size W V) : Op0 b m1 m2 w V L := h.mvs (Mv.of_below hb) (h.at_.below hb)
theorem op0_new {b m1 m2 : Nat} {w W : World} {L : List Tk} (h : At b m1 m2 w L) (hW : W = w.alloc (.cells #[.int .i64 0, .int .i64 0, .int .i64 0, .string ⟨#[]⟩, .slice none 0 0, .slice none 0 0, .int .i64 0] 68)) : Op0 b m1 m2 w W L := by
  obtain ⟨hS, hbW, hsW⟩ := seven_new hW
  exact ⟨h.below hbW, Mv.of_below hbW, hS, h.lt, by omega⟩
theorem Op0.put {b m1 m2 : Nat} {w X : World} {R : List Tk} (h : Op0 b m1 m2 w X R) {T : Tr} {x0 x1 x2 x3 x4 x5 : Value} {B : Nat} (hB : w.heap.size < B) (hT : RdQ (fun k => B ≤ k) X T (.agg #[x0, x1, x2, x3, x4, x5])) :
    AnsT b m1 m2 w (some (T, R)) (.returned (.agg #[x0, x1, x2, x3, x4, x5, .int .i64 (deepT T)])) (put7 X w.heap.size x0 x1 x2 x3 x4 x5 (.int .i64 (deepT T))) :=
  ansT_put h.mv h.at_ hT (Nat.le_refl _) hB h.lt

set_option maxHeartbeats 4000000 in
theorem operand_zil {b m1 m2 : Nat} {w : World} {L : List Tk} (n : Nat) (h : At b m1 m2 w L) (hc1 : ¬ hd L = gL) (hc : hd L = gZil) :
    Calls Tryz.prog 57 #[.pointer (some ⟨b, 0, none⟩)] w (AnsT b m1 m2 w (dOp (dEx n) L)) := by
  obtain ⟨W, hW⟩ : ∃ W, W = w.alloc (.cells #[.int .i64 0, .int .i64 0, .int .i64 0, .string ⟨#[]⟩, .slice none 0 0, .slice none 0 0, .int .i64 0] 68) := ⟨_, rfl⟩
  have HO := Lib.hid (op0_new h hW)
  have PA := Lib.hid (accept_any gL (by decide) HO.out.at_)
  rw [decide_eq_false hc1, if_neg hc1] at PA
  have PB := Lib.hid (fun V (h : At b m1 m2 V L) => accept_any gZil (by decide) h)
  rw [decide_eq_true hc, if_pos hc] at PB
  have e0 : dOp (dEx n) L = some (lit [], L.tail) := by
    conv => lhs; unfold dOp
    rw [if_neg hc1, if_pos hc]
  rw [e0]
  have PL := Lib.hid (leaf_any 1 0 0 ⟨#[]⟩ none none 0 0 0 0)
  have HW := Lib.hid hW
  have HD : Hid (((deepT (lit []) : Nat) : Int) = 1) := Lib.hid (by rw [deep_lit]; rfl)
  generalize L.tail = R at *
  clear h hc hc1 e0 hW
  go_enter Tryz.func57, Tryz.ntmps57
  go_upto_region 1 with fail
  rw [← HW.out]
  go_wp2_with fail
  refine PA.out.mono ?_
  rintro e w1 ⟨rfl, hm, ha⟩
  have HO1 := Lib.hid (HO.out.mvs hm ha)
  have P1 := Lib.hid (PB.out w1 ha)
  clear hm ha
  go_wp2_with fail
  refine P1.out.mono ?_
  rintro e w2 ⟨rfl, hm, ha⟩
  have HO2 := Lib.hid (HO1.out.mvs hm ha)
  clear hm ha
  go_wp2_with fail
  refine (PL.out _).mono ?_
  rintro e w3 ⟨rfl, hb⟩
  have HO3 := Lib.hid (HO2.out.below hb)
  clear hb
  obtain ⟨s0, s1, s2, s3, s4, s5, s6, sf⟩ := HO3.out.seven
  have sf0 := sf 0; have sf1 := sf 1; have sf2 := sf 2; have sf3 := sf 3; have sf4 := sf 4; have sf5 := sf 5; have sf6 := sf 6
  clear sf
  go_wp2_with fail
  refine bodyPost_ret (v := .agg #[.int .i64 1, .int .i64 0, .int .i64 (-1), .string ⟨#[]⟩, .slice none 0 0, .slice none 0 0, .int .i64 1]) (by simp [results, Tryz.results57, go_sem, s0, s1, s2, s3, s4, s5, s6]) rfl ?_
  have := HO3.out.put (Nat.lt_succ_self _) (rd_lit (Q := fun k => w.heap.size + 1 ≤ k) (w := w3) (P := none) (n := 0) (c := 0) (ns := []) Rd.nil_ (Nat.le_refl _) (by omega) (fun _ => rfl) (fun x hx => by simp at hx) (fun ad e _ => by cases e))
  rw [HD.out] at this
  exact this
set_option maxHeartbeats 4000000 in
theorem operand_name {b m1 m2 : Nat} {w : World} {L : List Tk} (n : Nat) (h : At b m1 m2 w L) (hc1 : ¬ hd L = gL) (hc2 : ¬ hd L = gZil) (hc : hk L = 1) :
    Calls Tryz.prog 57 #[.pointer (some ⟨b, 0, none⟩)] w (AnsT b m1 m2 w (dOp (dEx n) L)) := by
  obtain ⟨W, hW⟩ : ∃ W, W = w.alloc (.cells #[.int .i64 0, .int .i64 0, .int .i64 0, .string ⟨#[]⟩, .slice none 0 0, .slice none 0 0, .int .i64 0] 68) := ⟨_, rfl⟩
  have HO := Lib.hid (op0_new h hW)
  have PA := Lib.hid (accept_any gL (by decide) HO.out.at_)
  rw [decide_eq_false hc1, if_neg hc1] at PA
  have PB := Lib.hid (fun V (h : At b m1 m2 V L) => accept_any gZil (by decide) h)
  rw [decide_eq_false hc2, if_neg hc2] at PB
  obtain ⟨t, R, rfl, ht⟩ := hk_some (by decide) hc
  have e0 : dOp (dEx n) (t :: R) = some (.node 2 0 (-1) (txt.strOf t.t) [] [], R) := by
    conv => lhs; unfold dOp
    rw [if_neg hc1, if_neg hc2, if_pos hc]
    rfl
  rw [e0]
  have PP := Lib.hid (fun V (h : At b m1 m2 V (t :: R)) => peek_any h)
  have PN := Lib.hid (fun V (h : At b m1 m2 V (t :: R)) => next_any h)
  unfold tkV at PP PN
  rw [hc, show hd (t :: R) = t.t from rfl] at PP PN
  have PL := Lib.hid (fun V => leaf_any 2 0 0 (txt.strOf t.t) none none 0 0 0 0 V)
  have HW := Lib.hid hW
  have HD : Hid (((deepT (.node 2 0 (-1) (txt.strOf t.t) [] []) : Nat) : Int) = 1) := Lib.hid (by rw [deep_node]; simp [deepL])
  have HT := Lib.hid (h.ok.cons.1.2.2.2.2.2)
  generalize ((t :: R).head?.map Tk.n).getD 0 = nn at *
  generalize t.t = tt at *
  clear h hc hc1 hc2 e0 hW ht
  go_enter Tryz.func57, Tryz.ntmps57
  go_upto_region 1 with fail
  rw [← HW.out]
  go_wp2_with fail
  refine PA.out.mono ?_
  rintro e w1 ⟨rfl, hm, ha⟩
  have HO1 := Lib.hid (HO.out.mvs hm ha)
  have P1 := Lib.hid (PB.out w1 ha)
  clear hm ha
  go_wp2_with fail
  refine P1.out.mono ?_
  rintro e w2 ⟨rfl, hm, ha⟩
  have HO2 := Lib.hid (HO1.out.mvs hm ha)
  have P2 := Lib.hid (PP.out w2 ha)
  clear hm ha
  go_wp2_with fail
  refine P2.out.mono ?_
  rintro e w3 ⟨rfl, hb⟩
  have HO3 := Lib.hid (HO2.out.below hb)
  have P3 := Lib.hid (PN.out w3 HO3.out.at_)
  clear hb
  go_wp2_with fail
  refine P3.out.mono ?_
  rintro e w4 ⟨rfl, hm, ha⟩
  have HO4 := Lib.hid (HO3.out.mvs hm ha)
  clear hm ha
  go_wp2_with fail
  refine (PL.out _).mono ?_
  rintro e w5 ⟨rfl, hb⟩
  have HO5 := Lib.hid (HO4.out.below hb)
  clear hb
  obtain ⟨s0, s1, s2, s3, s4, s5, s6, sf⟩ := HO5.out.seven
  have sf0 := sf 0; have sf1 := sf 1; have sf2 := sf 2; have sf3 := sf 3; have sf4 := sf 4; have sf5 := sf 5; have sf6 := sf 6
  clear sf
  go_wp2_with fail
  refine bodyPost_ret (v := .agg #[.int .i64 2, .int .i64 0, .int .i64 (-1), .string (txt.strOf tt), .slice none 0 0, .slice none 0 0, .int .i64 1]) (by simp [results, Tryz.results57, go_sem, s0, s1, s2, s3, s4, s5, s6]) rfl ?_
  have := HO5.out.put (Nat.lt_succ_self _) (rd_nm (Q := fun k => w.heap.size + 1 ≤ k) (w := w5) (t := tt) HT.out)
  rw [HD.out] at this
  exact this
set_option maxHeartbeats 4000000 in
theorem operand_none {b m1 m2 : Nat} {w : World} {L : List Tk} (n : Nat) (h : At b m1 m2 w L) (hc1 : ¬ hd L = gL) (hc2 : ¬ hd L = gZil) (hc3 : ¬ hk L = 1) (hc : ¬ hk L = 2) :
    Calls Tryz.prog 57 #[.pointer (some ⟨b, 0, none⟩)] w (AnsT b m1 m2 w (dOp (dEx n) L)) := by
  obtain ⟨W, hW⟩ : ∃ W, W = w.alloc (.cells #[.int .i64 0, .int .i64 0, .int .i64 0, .string ⟨#[]⟩, .slice none 0 0, .slice none 0 0, .int .i64 0] 68) := ⟨_, rfl⟩
  have HO := Lib.hid (op0_new h hW)
  have PA := Lib.hid (accept_any gL (by decide) HO.out.at_)
  rw [decide_eq_false hc1, if_neg hc1] at PA
  have PB := Lib.hid (fun V (h : At b m1 m2 V L) => accept_any gZil (by decide) h)
  rw [decide_eq_false hc2, if_neg hc2] at PB
  have e0 : dOp (dEx n) L = none := by
    conv => lhs; unfold dOp
    rw [if_neg hc1, if_neg hc2, if_neg hc3, if_neg hc]
  rw [e0]
  have PP := Lib.hid (fun V (h : At b m1 m2 V L) => peek_any h)
  have PN := Lib.hid (fun V (h : At b m1 m2 V L) => number_any h)
  unfold tkV at PP
  have e1 : dNum L = none := by
    cases L with
    | nil => rfl
    | cons t R => unfold dNum; simp only []; rw [if_neg (show ¬ t.k = 2 from hc)]
  rw [e1] at PN
  have HW := Lib.hid hW
  have hk1 : (hk L == 1) = false := by simpa using hc3
  generalize hk L = kk, hd L = tt, (L.head?.map Tk.n).getD 0 = nn at *
  clear h hc hc1 hc2 hc3 e0 e1 hW
  go_enter Tryz.func57, Tryz.ntmps57
  go_upto_region 1 with fail
  rw [← HW.out]
  go_wp2_with fail
  refine PA.out.mono ?_
  rintro e w1 ⟨rfl, hm, ha⟩
  have HO1 := Lib.hid (HO.out.mvs hm ha)
  have P1 := Lib.hid (PB.out w1 ha)
  clear hm ha
  go_wp2_with fail
  refine P1.out.mono ?_
  rintro e w2 ⟨rfl, hm, ha⟩
  have HO2 := Lib.hid (HO1.out.mvs hm ha)
  have P2 := Lib.hid (PP.out w2 ha)
  clear hm ha
  go_wp2_with fail
  refine P2.out.mono ?_
  rintro e w3 ⟨rfl, hb⟩
  have HO3 := Lib.hid (HO2.out.below hb)
  have P3 := Lib.hid (PN.out w3 HO3.out.at_)
  clear hb
  go_wp2_with fail
  refine P3.out.mono ?_
  rintro e w4 ⟨hm, rfl⟩
  exact ⟨rfl, HO3.out.mv.trans hm, rfl⟩
def lenS : Value → Nat
  | .slice _ n _ => n
  | _ => 0
/-- Between two numbers. -/
structure Nums (b m1 m2 B : Nat) (w X : World) (P : Option Addr) (k c : Nat) (xs : List Int) (R : List Tk) : Prop where
  op : Op0 b m1 m2 w X R
  own : Own8 X B (.slice P k c) xs
  len : xs.length = k
  inn : ∀ x ∈ xs, -9223372036854775808 ≤ x ∧ x ≤ 9223372036854775807
  lo : w.heap.size < B
  size : B ≤ X.heap.size
set_option maxHeartbeats 4000000 in
theorem operand_nums {b m1 m2 : Nat} {w : World} {L : List Tk} (n : Nat) (h : At b m1 m2 w L) (hc1 : ¬ hd L = gL) (hc2 : ¬ hd L = gZil) (hc : hk L = 2) :
    Calls Tryz.prog 57 #[.pointer (some ⟨b, 0, none⟩)] w (AnsT b m1 m2 w (dOp (dEx n) L)) := by
  obtain ⟨W, hW⟩ : ∃ W, W = w.alloc (.cells #[.int .i64 0, .int .i64 0, .int .i64 0, .string ⟨#[]⟩, .slice none 0 0, .slice none 0 0, .int .i64 0] 68) := ⟨_, rfl⟩
  have HO := Lib.hid (op0_new h hW)
  have PA := Lib.hid (accept_any gL (by decide) HO.out.at_)
  rw [decide_eq_false hc1, if_neg hc1] at PA
  have PB := Lib.hid (fun V (h : At b m1 m2 V L) => accept_any gZil (by decide) h)
  rw [decide_eq_false hc2, if_neg hc2] at PB
  have hc3 : ¬ hk L = 1 := by omega
  have e0 : dOp (dEx n) L = some (lit ((L.takeWhile isN).map Tk.n), L.dropWhile isN) := by
    conv => lhs; unfold dOp
    rw [if_neg hc1, if_neg hc2, if_neg hc3, if_pos hc]
  rw [e0]
  have PP := Lib.hid (fun V R (h : At b m1 m2 V R) => peek_any h)
  have PN := Lib.hid (fun V R (h : At b m1 m2 V R) => number_any h)
  unfold tkV at PP
  have PP0 := Lib.hid (fun V h => PP.out V L h)
  have hk1 : (hk L == 1) = false := by simpa using hc3
  obtain ⟨t, R0, rfl, ht⟩ := hk_some (by decide) hc
  have e1 : dNum (t :: R0) = some (t.n, R0) := by unfold dNum; simp only []; rw [if_pos ht]
  have PN0 := Lib.hid (fun V h => PN.out V (t :: R0) h)
  rw [e1] at PN0
  simp only [Option.map_some] at PN0
  have e2 : (t :: R0).takeWhile isN = t :: R0.takeWhile isN := by simp [List.takeWhile_cons, isN, ht]
  have e3 : (t :: R0).dropWhile isN = R0.dropWhile isN := by simp [List.dropWhile_cons, isN, ht]
  rw [e2, e3, List.map_cons]
  have HB : Hid (∀ t' ∈ t :: R0, -9223372036854775808 ≤ t'.n ∧ t'.n ≤ 9223372036854775807) := Lib.hid (fun t' h' => ⟨(h.ok t' h').2.2.2.1, (h.ok t' h').2.2.2.2.1⟩)
  have HLN := Lib.hid h.len
  have PL := Lib.hid (fun P k c V => leaf_any 1 0 0 ⟨#[]⟩ P none k c 0 0 V)
  have HW := Lib.hid hW
  generalize hk (t :: R0) = kk, hd (t :: R0) = tt, ((t :: R0).head?.map Tk.n).getD 0 = nn at *
  generalize htn : t.n = tn at *
  clear h hc hc1 hc2 hc3 e0 e1 e2 e3 hW ht
  have HTN := Lib.hid htn
  clear htn
  go_enter Tryz.func57, Tryz.ntmps57
  go_upto_region 1 with fail
  rw [← HW.out]
  go_wp2_with fail
  refine PA.out.mono ?_
  rintro e w1 ⟨rfl, hm, ha⟩
  have HO1 := Lib.hid (HO.out.mvs hm ha)
  have P1 := Lib.hid (PB.out w1 ha)
  clear hm ha
  go_wp2_with fail
  refine P1.out.mono ?_
  rintro e w2 ⟨rfl, hm, ha⟩
  have HO2 := Lib.hid (HO1.out.mvs hm ha)
  have P2 := Lib.hid (PP0.out w2 ha)
  clear hm ha
  go_wp2_with fail
  refine P2.out.mono ?_
  rintro e w3 ⟨rfl, hb⟩
  have HO3 := Lib.hid (HO2.out.below hb)
  have P3 := Lib.hid (PN0.out w3 HO3.out.at_)
  clear hb
  go_wp2_with fail
  refine P3.out.mono ?_
  rintro e w4 ⟨hm, rfl, ha⟩
  have HO4 := Lib.hid (HO3.out.mvs hm ha)
  clear hm ha
  have HNU : Hid (Nums b m1 m2 w4.heap.size w (w4.alloc (.cells #[.int .i64 tn] 2)) (some ⟨w4.heap.size, 0, none⟩) 1 1 [tn] R0) := Lib.hid ⟨HO4.out.below (Joins.below_alloc1 _ _), own8_one _ _, rfl, (fun x hx => by simp at hx; subst hx; rw [← HTN.out]; exact HB.out t (by simp)), HO4.out.size, (Joins.below_alloc1 _ _).size⟩
  have HEQ : Hid (tn :: (R0.takeWhile isN).map Tk.n = [tn] ++ (R0.takeWhile isN).map Tk.n) := Lib.hid rfl
  have HLN2 := Lib.hid (show 1 + R0.length ≤ 65536 by have := HLN.out; simp at this; omega)
  obtain ⟨BB, hBB⟩ : ∃ BB, BB = w4.heap.size := ⟨_, rfl⟩
  obtain ⟨Z, hZ⟩ : ∃ Z, Z = tn :: (R0.takeWhile isN).map Tk.n := ⟨_, rfl⟩
  obtain ⟨D, hD⟩ : ∃ D, D = R0.dropWhile isN := ⟨_, rfl⟩
  rw [← hBB] at HNU
  rw [← hZ] at HEQ
  have HD := Lib.hid hD
  have HZ0 := Lib.hid hZ
  clear hZ hD
  have HBB := Lib.hid hBB.symm
  clear hBB
  go_wp2_with fail
  go_loopw [4] (fun v wr => ∃ P k c xs R, v = .slice P k c ∧ k + R.length ≤ 65536 ∧ Hid (Nums b m1 m2 BB w wr P k c xs R) ∧ Hid (Z = xs ++ (R.takeWhile isN).map Tk.n) ∧ Hid (D = R.dropWhile isN)) (fun v _ => 70000 - lenS v)
  case atStart => exact ⟨some ⟨w4.heap.size, 0, none⟩, 1, 1, [tn], R0, rfl, HLN2.out, by rw [HBB.out]; exact HNU, HEQ, HD⟩
  case round =>
    obtain ⟨P, k, c, xs, R, rfl, hkR, HNR, HZ, HDR⟩ := hrel
    have PR := Lib.hid (PP.out wr R HNR.out.op.at_)
    by_cases hc : hk R = 2
    · obtain ⟨t', R', rfl, ht'⟩ := hk_some (by decide) hc
      have PR2 := Lib.hid (fun V h => PN.out V (t' :: R') h)
      rw [show dNum (t' :: R') = some (t'.n, R') by unfold dNum; simp only []; rw [if_pos ht']] at PR2
      simp only [Option.map_some] at PR2
      have HZ2 : Hid (Z = (xs ++ [t'.n]) ++ (R'.takeWhile isN).map Tk.n) := Lib.hid (by rw [HZ.out]; simp [List.takeWhile_cons, isN, ht'])
      have HD2 : Hid (D = R'.dropWhile isN) := Lib.hid (by rw [HDR.out]; simp [List.dropWhile_cons, isN, ht'])
      have HI2 : Hid (-9223372036854775808 ≤ t'.n ∧ t'.n ≤ 9223372036854775807) := Lib.hid (by have := HNR.out.op.at_.ok.cons.1; exact ⟨this.2.2.2.1, this.2.2.2.2.1⟩)
      have hk2 : (hk (t' :: R') == 2) = true := by simpa using hc
      have hkb : k + R'.length + 1 ≤ 65536 := by simp at hkR; omega
      generalize hk (t' :: R') = kk', hd (t' :: R') = tt', ((t' :: R').head?.map Tk.n).getD 0 = nn' at *
      generalize t'.n = y at *
      clear hc ht'
      go_wp2_with fail
      refine PR.out.mono ?_
      rintro e w5 ⟨rfl, hb⟩
      have HX5 := Lib.hid (HNR.out.op.below hb)
      have P5 := Lib.hid (PR2.out w5 HX5.out.at_)
      have HW5 := Lib.hid (HNR.out.own.as (fun g e => hb.block g (HNR.out.own.lt g e).2))
      have HS5 := Lib.hid (Nat.le_trans HNR.out.size hb.size)
      clear hb
      go_wp2_with fail
      refine P5.out.mono ?_
      rintro e w6 ⟨hm, rfl, ha⟩
      have HX6 := Lib.hid (HX5.out.mvs hm ha)
      have HW6 := Lib.hid (HW5.out.as (fun g e => hm.block g (HW5.out.lt g e).2 (by have := (HW5.out.lt g e).1; have := HNR.out.lo; have := HX6.out.lt; omega)))
      have HS6 := Lib.hid (Nat.le_trans HS5.out hm.size)
      clear hm ha
      have hk40 : k ≤ 1000000 := by omega
      go_wp2_with (at_builtin; refine wpList_push8 rfl (.tmp 32) (.tmp 35) (by rfl) BB P k c xs (by rfl) HW6.out HS6.out HNR.out.len hk40 y _ _ (by rfl) (by simp) ?_; intro P2 c2 w7 ho7 hb7; have HO7 := Lib.hid ho7; have HB7 := Lib.hid hb7; clear ho7 hb7)
      have HBm := Lib.hid (show b < BB by have := HNR.out.lo; have := HX6.out.lt; omega)
      refine ⟨⟨P2, k + 1, c2, xs ++ [y], R', rfl, by omega, Lib.hid ⟨?_, HO7.out, by rw [List.length_append, HNR.out.len]; rfl, ?_, HNR.out.lo, Nat.le_trans HS6.out HB7.out.size⟩, HZ2, HD2⟩, ?_⟩
      · have l1 := HNR.out.lo
        have l2 := HX6.out.size
        exact ⟨HX6.out.at_.lo HBm.out HB7.out, HX6.out.mv.lo (by omega) HB7.out, HX6.out.seven.as (HB7.out.block _ l1), HX6.out.lt, Nat.lt_of_lt_of_le l2 HB7.out.size⟩
      · intro x hx
        rcases List.mem_append.1 hx with hx | hx
        · exact HNR.out.inn x hx
        · simp at hx; subst hx; exact HI2.out
      · simp only [lenS]; omega
    · have HZ2 : Hid (Z = xs) := Lib.hid (by
        rw [HZ.out]
        cases R with
        | nil => simp
        | cons t' R' => simp [List.takeWhile_cons, isN, show ¬ t'.k = 2 from hc])
      have HD2 : Hid (D = R) := Lib.hid (by
        rw [HDR.out]
        cases R with
        | nil => simp
        | cons t' R' => simp [List.dropWhile_cons, isN, show ¬ t'.k = 2 from hc])
      have hk2 : (hk R == 2) = false := by simpa using hc
      generalize hk R = kk', hd R = tt', (R.head?.map Tk.n).getD 0 = nn' at *
      clear hc
      go_wp2_with fail
      refine PR.out.mono ?_
      rintro e w5 ⟨rfl, hb⟩
      have HX5 := Lib.hid (HNR.out.op.below hb)
      have HW5 := Lib.hid (HNR.out.own.as (fun g e => hb.block g (HNR.out.own.lt g e).2))
      clear hb
      go_wp2_with fail
      refine (PL.out _ _ _ _).mono ?_
      rintro e w6 ⟨rfl, hb⟩
      have HX6 := Lib.hid (HX5.out.below hb)
      have HW6 := Lib.hid (HW5.out.as (fun g e => hb.block g (HW5.out.lt g e).2))
      clear hb
      obtain ⟨s0, s1, s2, s3, s4, s5, s6, sf⟩ := HX6.out.seven
      have sf0 := sf 0; have sf1 := sf 1; have sf2 := sf 2; have sf3 := sf 3; have sf4 := sf 4; have sf5 := sf 5; have sf6 := sf 6
      clear sf
      go_wp2_with fail
      refine bodyPost_ret (v := .agg #[.int .i64 1, .int .i64 0, .int .i64 (-1), .string ⟨#[]⟩, .slice P k c, .slice none 0 0, .int .i64 1]) (by simp [results, Tryz.results57, go_sem, s0, s1, s2, s3, s4, s5, s6]) rfl ?_
      rw [← HZ0.out, ← HD.out, HZ2.out, HD2.out]
      obtain ⟨A0, c0, e0, g1, g2, g3, g4⟩ := HW6.out.form
      injection e0 with e1 e2 e3
      subst e1; subst e3
      have := HX6.out.put HNR.out.lo (rd_lit (Q := fun k => BB ≤ k) (w := w6) (P := P) (n := k) (c := c) (ns := xs) HW6.out.rd (by omega) (by omega) g3 HNR.out.inn (fun ad e _ => (g4 ad e).1))
      rw [show ((deepT (lit xs) : Nat) : Int) = 1 by rw [deep_lit]; rfl] at this
      exact this
theorem operand_any {b m1 m2 : Nat} {w : World} {L : List Tk} (n : Nat) (h : At b m1 m2 w L) (hE : ExAt b m1 m2 n) (hn : L.length ≤ n) :
    Calls Tryz.prog 57 #[.pointer (some ⟨b, 0, none⟩)] w (AnsT b m1 m2 w (dOp (dEx n) L)) := by
  by_cases h1 : hd L = gL
  · exact operand_paren n h hE hn h1
  by_cases h2 : hd L = gZil
  · exact operand_zil n h h1 h2
  by_cases h3 : hk L = 1
  · exact operand_name n h h1 h2 h3
  by_cases h4 : hk L = 2
  · exact operand_nums n h h1 h2 h4
  · exact operand_none n h h1 h2 h3 h4
end Go.Proofs.YthgojbaindejjaaGreatDoor.ps

/- Package parse: expressions. -/
namespace Go.Proofs.YthgojbaindejjaaGreatDoor.ps
open Go.ChangeShapes Go.WideShapes Go.ChangeAt Go.RowKit Go.Proofs.YthgojbaindejjaaGreatDoor.mem Go.Proofs.YthgojbaindejjaaGreatDoor.lx Go.Proofs.YthgojbaindejjaaGreatDoor.tr
set_option linter.unusedVariables false
set_option linter.unusedSimpArgs false
attribute [local go_sem] tk_kind tk_text tk_num

structure Two (g : Nat) (X : World) (x0 x1 : Value) : Prop where
  c0 : X.cell? ⟨g, 0, none⟩ = some x0
  c1 : X.cell? ⟨g, 1, none⟩ = some x1
theorem Two.lt {g : Nat} {X : World} {x0 x1 : Value} (h : Two g X x0 x1) : g < X.heap.size := cell_lt h.c0
theorem Two.mv {b g : Nat} {X X' : World} {x0 x1 : Value} (h : Two g X x0 x1) (hm : Mv b X X') (hg : g ≠ b) : Two g X' x0 x1 := ⟨(hm.cell h.lt hg).trans h.c0, (hm.cell h.lt hg).trans h.c1⟩
theorem Two.below {g : Nat} {X X' : World} {x0 x1 : Value} (h : Two g X x0 x1) (hb : Below X.heap.size X X') : Two g X' x0 x1 := ⟨(hb.cell (p := ⟨g, 0, none⟩) h.lt).trans h.c0, (hb.cell (p := ⟨g, 1, none⟩) h.lt).trans h.c1⟩
theorem two_new {w V : World} {x0 x1 : Value} {t : TypeId} (hV : V = w.alloc (.cells #[x0, x1] t)) : Two w.heap.size V x0 x1 ∧ Below w.heap.size w V ∧ V.heap.size = w.heap.size + 1 := by
  obtain ⟨c0, c1, _, _, s, b⟩ := two_cells hV
  exact ⟨⟨c0, c1⟩, b, s⟩
theorem dEx_succ (n : Nat) (L : List Tk) : dEx (n + 1) L = (if mnT (hd L) ≠ 0 then (match dAx (decide (mnT (hd L) = 3)) L.tail with
      | none => none
      | some (ax, r) => match dEx n r with
        | none => none
        | some (T, r') => some (mon (mnT (hd L)) ax T, r'))
    else match dOp (dEx n) L with
      | none => none
      | some (u, r) => if fnT (hd r) = 0 then some (u, r) else if fnT (hd r) ≠ 6 ∧ u.kind ≠ 1 ∧ u.kind ≠ 2 then none else
        match dAx (mayB (fnT (hd r))) r.tail with
        | none => none
        | some (ax, r') => match dEx n r' with
          | none => none
          | some (T, r'') => some (dy (fnT (hd r)) ax u T, r'')) := rfl
theorem dAx_len {may : Bool} {l : List Tk} {ax : Int} {r : List Tk} (hok : okL l) (h : dAx may l = some (ax, r)) : r.length ≤ l.length ∧ -1 ≤ ax ∧ ax ≤ 15 := by
  rcases dAx_some hok h with ⟨rfl, rfl⟩ | ⟨_, lb, x, rb, rfl, _, _, h4, h5, _, rfl⟩
  · exact ⟨Nat.le_refl _, by omega, by omega⟩
  · exact ⟨by simp; omega, by omega, by omega⟩
theorem fn_deep {b : Bool} {l : List Tk} {T : Tr} (h : G b l T) : deepT T ≤ l.length := by
  induction h with
  | name t h => show deepT (Tr.node _ _ _ _ _ _) ≤ _; rw [deep_node]; simp [deepL]
  | zil t h => rw [deep_lit]; simp
  | nums l h1 h2 =>
    rw [deep_lit]
    cases l with
    | nil => exact absurd rfl h1
    | cons t r => simp
  | paren a b l T _ _ _ ih => simp; omega
  | op l T _ ih => exact ih
  | mon f F ax l T hf _ _ ih =>
    have := fn_len hf
    show deepT (Tr.node _ _ _ _ _ _) ≤ _
    rw [deep_node, List.length_append]; simp [deepL]; omega
  | dy o u f F ax l T _ hf _ _ ih1 ih2 =>
    have := fn_len hf
    show deepT (Tr.node _ _ _ _ _ _) ≤ _
    rw [deep_node]; simp [deepL]; omega
theorem dEx_deep {n : Nat} {L : List Tk} {T : Tr} {r : List Tk} (hok : okL L) (h : dEx n L = some (T, r)) : deepT T ≤ L.length ∧ r.length ≤ L.length := by
  obtain ⟨a, rfl, hG⟩ := dEx_sound n L T r hok h
  have := fn_deep hG
  rw [List.length_append]; omega
theorem dOp_deep {n : Nat} {L : List Tk} {T : Tr} {r : List Tk} (hok : okL L) (h : dOp (dEx n) L = some (T, r)) : deepT T ≤ L.length ∧ r.length ≤ L.length := by
  obtain ⟨a, rfl, hG⟩ := dOp_sound (dEx_sound n) hok h
  have := fn_deep hG
  rw [List.length_append]; omega

theorem put7_apart {X : World} {g g3 j : Nat} {x0 x1 x2 x3 x4 x5 x6 : Value} (h : g ≠ g3) : (((((((X.setCell ⟨g, 0, none⟩ x0).setCell ⟨g, 1, none⟩ x1).setCell ⟨g, 2, none⟩ x2).setCell ⟨g, 3, none⟩ x3).setCell ⟨g, 4, none⟩ x4).setCell ⟨g, 5, none⟩ x5).setCell ⟨g, 6, none⟩ x6).cell? ⟨g3, j, none⟩ = X.cell? ⟨g3, j, none⟩ :=
  ((((((set_apart h).trans (set_apart h)).trans (set_apart h)).trans (set_apart h)).trans (set_apart h)).trans (set_apart h)).trans (set_apart h)
/-- One branch in a row of its own. -/
theorem rowB_one {Q : Nat → Prop} {X Y : World} {T : Tr} {u : S6} {t : TypeId} (hu : RdQ Q X T u.agg) (hY : Y = X.alloc (.cells #[u.c0, u.c1, u.c2, u.c3, u.c4, u.c5, .int .i64 (deepT T)] t)) : RowB Q Y ⟨X.heap.size, 0, none⟩ [T] := by
  obtain ⟨hs, hb, hz⟩ := seven_new hY
  intro k U hk
  cases k with
  | succ k => simp at hk
  | zero =>
    simp at hk
    subst hk
    refine ⟨by show X.heap.size < Y.heap.size; omega, u, hu.below hb, ?_⟩
    rw [Nat.zero_mul, add_at]
    simp only [Nat.zero_add]
    exact ⟨hs.c0, hs.c1, hs.c2, hs.c3, hs.c4, hs.c5, hs.c6⟩
theorem deepL_one (T : Tr) : deepL [T] = deepT T := by simp [deepL]
theorem deep_mon (F ax : Int) (T : Tr) : deepT (mon F ax T) = deepT T + 1 := by unfold mon; rw [deep_node, deepL_one]
theorem rd_mon {Q : Nat → Prop} {w : World} {F ax : Int} {T : Tr} {B : Option Addr} {d : Nat} (hF : 0 ≤ F ∧ F ≤ 6) (hx : -1 ≤ ax ∧ ax ≤ 15) (h1 : 1 ≤ d) (hn : B = none → d = 0) (hr : RdQL Q w [T] B 0) :
    RdQ Q w (mon F ax T) (.agg #[.int .i64 3, .int .i64 F, .int .i64 ax, .string ⟨#[]⟩, .slice none 0 0, .slice B 1 d]) := by
  unfold mon
  rw [rdQ_node]
  exact ⟨none, 0, 0, B, 1, d, rfl, in64_k (by decide) (by decide), in64_k (by omega) (by omega), in64_k (by omega) (by omega), by decide, Rd.nil_, Nat.le_refl _, by omega, (fun _ => rfl), (fun x hx => by simp at hx), rfl, h1, by omega, hn, (fun ad e _ => by cases e), hr⟩
/-- A node of one operand is made. -/
theorem apply_one {X v1 : World} {T : Tr} {u : S6} {F ax : Int} {mm : Bool} {B0 : Nat} (hu : RdQ (fun k => B0 ≤ k) v1 T u.agg) (hB : B0 ≤ v1.heap.size) (hX : Below v1.heap.size v1 X) (hd : deepT T ≤ 65536) (hF : 0 ≤ F ∧ F ≤ 6) (hx : -1 ≤ ax ∧ ax ≤ 15) :
    Calls Tryz.prog 56 #[.agg #[.int .i64 F, .bool mm], .int .i64 3, .int .i64 ax, .slice (some ⟨X.heap.size, 0, none⟩) 1 1] (X.alloc (.cells #[u.c0, u.c1, u.c2, u.c3, u.c4, u.c5, .int .i64 (deepT T)] 68)) fun e w' => ∃ B d,
      e = .returned (.agg #[.int .i64 3, .int .i64 F, .int .i64 ax, .string ⟨#[]⟩, .slice none 0 0, .slice B 1 d, .int .i64 (deepT (mon F ax T) : Nat)]) ∧ RdQ (fun k => B0 ≤ k) w' (mon F ax T) (.agg #[.int .i64 3, .int .i64 F, .int .i64 ax, .string ⟨#[]⟩, .slice none 0 0, .slice B 1 d]) ∧ Below v1.heap.size v1 w' := by
  obtain ⟨Y, hY⟩ : ∃ Y, Y = X.alloc (.cells #[u.c0, u.c1, u.c2, u.c3, u.c4, u.c5, .int .i64 (deepT T)] 68) := ⟨_, rfl⟩
  have hr := rowB_one (Q := fun k => B0 ≤ k ∧ k < v1.heap.size) (hu.old.below hX) hY
  obtain ⟨-, hbY, hsY⟩ := seven_new hY
  rw [← hY]
  refine (apply_any (fun k => B0 ≤ k ∧ k < v1.heap.size) mm F 3 ax ⟨X.heap.size, 0, none⟩ 1 1 [T] Y (fun k hk => by have := hk.2; have := hX.size; omega) rfl (by omega) hr (fun U hU => by simp at hU; subst hU; omega)).mono ?_
  rintro e w' ⟨B, d, rfl, h1, h2, h3, h4⟩
  refine ⟨B, d, by rw [deep_mon, deepL_one]; rfl, rd_mon hF hx h1 h2 (RdQL.keep (Nat.le_refl _) (fun a _ _ => rfl) (fun k hk => ?_) h3), (hX.trans (hbY.mono hX.size)).trans (h4.mono (by have := hX.size; omega))⟩
  rcases hk with hk | hk
  · exact hk.1
  · have := hX.size
    show B0 ≤ k
    omega
set_option maxHeartbeats 4000000 in
theorem expr_mon {b m1 m2 : Nat} {w : World} {L : List Tk} (n : Nat) (h : At b m1 m2 w L) (hE : ExAt b m1 m2 n) (hn : L.length < n + 1) (hc : mnT (hd L) ≠ 0) :
    Calls Tryz.prog 42 #[.pointer (some ⟨b, 0, none⟩)] w (AnsT b m1 m2 w (dEx (n + 1) L)) := by
  obtain ⟨W, hW⟩ : ∃ W, W = w.alloc (.cells #[.int .i64 0, .int .i64 0, .int .i64 0, .string ⟨#[]⟩, .slice none 0 0, .slice none 0 0, .int .i64 0] 68) := ⟨_, rfl⟩
  have HO := Lib.hid (op0_new h hW)
  have PF := Lib.hid (function_any false HO.out.at_)
  have hmap := HO.out.at_.mon
  rw [dEx_succ, if_pos hc]
  have hlen : L.tail.length + 1 = L.length := by
    cases L with
    | nil => exact absurd rfl hc
    | cons t r => simp
  have hok : okL L.tail := by
    cases L with
    | nil => exact absurd rfl hc
    | cons t r => exact h.ok.cons.2
  change Hid (Calls Tryz.prog 54 #[.pointer (some ⟨b, 0, none⟩), .map (some m1)] W (fun e w' => e = .returned (.tuple #[.agg #[.int .i64 (mnT (hd L)), .bool (decide (mnT (hd L) = 3))], .bool (decide (mnT (hd L) ≠ 0))]) ∧ Mv b W w' ∧ At b m1 m2 w' (if mnT (hd L) ≠ 0 then L.tail else L))) at PF
  rw [if_pos hc, decide_eq_true hc] at PF
  have PX := Lib.hid (fun V may (h : At b m1 m2 V L.tail) => axis_any (mnT (hd L)) may h)
  have HF : Hid (0 ≤ mnT (hd L) ∧ mnT (hd L) ≤ 6) := Lib.hid (by rw [mnT_fnT]; have := fn_range (hd L); split <;> omega)
  generalize mnT (hd L) = F at *
  generalize hR : L.tail = R at *
  have HLB := Lib.hid (show R.length < n by omega)
  have HOK := Lib.hid hok
  have HW := Lib.hid hW
  have hL65 := h.len
  have HL65 := Lib.hid (show R.length ≤ 65536 by omega)
  clear h hW hlen hok hn hc hL65
  cases ha : dAx (decide (F = 3)) R with
  | none =>
    have PX := Lib.hid (fun V h => PX.out V (decide (F = 3)) h)
    rw [ha] at PX
    simp only [Option.map_none] at PX ⊢
    generalize hmm : decide (F = 3) = mm at *
    clear ha hmm hE
    go_enter Tryz.func42, Tryz.ntmps42
    go_upto_region 1 with fail
    rw [← HW.out]
    go_wp2_with fail
    refine PF.out.mono ?_
    rintro e w1 ⟨rfl, hm, ha⟩
    have HO1 := Lib.hid (HO.out.mvs hm ha)
    obtain ⟨V, hV⟩ : ∃ V, V = w1.alloc (.cells #[.int .i64 F, .bool mm] 91) := ⟨_, rfl⟩
    obtain ⟨hT, hbV, hsV⟩ := two_new hV
    have HOV := Lib.hid (HO1.out.below hbV)
    have HT := Lib.hid hT
    have P1 := Lib.hid (PX.out V (HOV.out.at_))
    have HV := Lib.hid hV
    obtain ⟨c0, c1⟩ := hT
    clear hm ha hV hbV hsV
    go_upto_region 3 with fail
    rw [← HV.out]
    go_wp2_with fail
    refine P1.out.mono ?_
    rintro e w2 ⟨hm, rfl⟩
    exact ⟨rfl, HOV.out.mv.trans hm, rfl⟩
  | some p =>
    obtain ⟨ax, r⟩ := p
    have hal := dAx_len HOK.out ha
    have PX := Lib.hid (fun V h => PX.out V (decide (F = 3)) h)
    rw [ha] at PX
    simp only [Option.map_some] at PX ⊢
    have PE := Lib.hid (fun V (h : At b m1 m2 V r) => hE V r h (by have := HLB.out; omega))
    generalize hmm : decide (F = 3) = mm at *
    clear ha hmm hE
    have HAL := Lib.hid hal
    clear hal
    cases hx : dEx n r with
    | none =>
      rw [hx] at PE
      clear hx
      go_enter Tryz.func42, Tryz.ntmps42
      go_upto_region 1 with fail
      rw [← HW.out]
      go_wp2_with fail
      refine PF.out.mono ?_
      rintro e w1 ⟨rfl, hm, ha⟩
      have HO1 := Lib.hid (HO.out.mvs hm ha)
      obtain ⟨V, hV⟩ : ∃ V, V = w1.alloc (.cells #[.int .i64 F, .bool mm] 91) := ⟨_, rfl⟩
      obtain ⟨hT, hbV, hsV⟩ := two_new hV
      have HOV := Lib.hid (HO1.out.below hbV)
      have HT := Lib.hid hT
      have P1 := Lib.hid (PX.out V (HOV.out.at_))
      have HV := Lib.hid hV
      have HG := Lib.hid (show w1.heap.size ≠ b ∧ w.heap.size < w1.heap.size ∧ V.heap.size = w1.heap.size + 1 by have := HO1.out.lt; have := HO1.out.size; omega)
      obtain ⟨c0, c1⟩ := hT
      clear hm ha hV hbV hsV
      go_upto_region 3 with fail
      rw [← HV.out]
      go_wp2_with fail
      refine P1.out.mono ?_
      rintro e w2 ⟨hm, rfl, ha⟩
      have HO2 := Lib.hid (HOV.out.mvs hm ha)
      have HT2 := Lib.hid (HT.out.mv hm HG.out.1)
      clear hm ha c0 c1
      go_upto_region 4 with fail
      obtain ⟨c0, c1⟩ := HT2.out
      have HKA : Hid (∀ V', Below w2.heap.size w2 V' → At b m1 m2 V' r ∧ Mv b w V') := Lib.hid fun V' h => ⟨HO2.out.at_.below h, HO2.out.mv.trans (Mv.of_below h)⟩
      have HD := Lib.hid (Below.refl w2.heap.size w2)
      have HKM : Hid (∀ V' v1, Mv b V' v1 → Below w2.heap.size w2 V' → Mv b w v1) := Lib.hid fun V' v1 hm h => (HO2.out.mv.trans (Mv.of_below h)).trans hm
      generalize hg3 : w1.heap.size = g3 at *
      refine wp_region_held_drew (S := (fun w' => w'.cell? ⟨g3, 0, none⟩ = some (.int .i64 F) ∧ w'.cell? ⟨g3, 1, none⟩ = some (.bool mm))) (by kernel_rfl) ⟨c0, c1⟩ (fun hHeld => ?_)
      refine wpAnyH_take (i := 0) (oi := ⟨some 23, _, _, _, _, _⟩) (v := ?_) rfl (by kernel_rfl) (by kernel_rfl) (by kernel_rfl) (fun _ _ _ h => h) (Or.inl ⟨by rfl, ?_⟩) (by assumption) ?_
      rotate_left
      · (intro w hSw; (try dsimp only at hSw); first | (go_simp; done) | (go_simp; with_reducible rfl))
      try simp only [Act.put, List.setIfInBounds_toArray, List.set_cons_zero, List.set_cons_succ]
      refine wpAnyH_take (i := 1) (oi := ⟨some 24, _, _, _, _, _⟩) (v := ?_) rfl (by kernel_rfl) (by kernel_rfl) (by kernel_rfl) (fun _ _ _ h => h) (Or.inl ⟨by rfl, ?_⟩) (by assumption) ?_
      rotate_left
      · (intro w hSw; (try dsimp only at hSw); first | (go_simp; done) | (go_simp; with_reducible rfl))
      try simp only [Act.put, List.setIfInBounds_toArray, List.set_cons_zero, List.set_cons_succ]
      refine wpAnyH_take (i := 2) (oi := ⟨some 25, _, _, _, _, _⟩) (v := ?_) rfl (by kernel_rfl) (by kernel_rfl) (by kernel_rfl) (fun _ _ _ h => h) (Or.inl ⟨by rfl, ?_⟩) (by assumption) ?_
      rotate_left
      · (intro w hSw; (try dsimp only at hSw); first | (go_simp; done) | (go_simp; with_reducible rfl))
      try simp only [Act.put, List.setIfInBounds_toArray, List.set_cons_zero, List.set_cons_succ]
      refine wpAnyH_ready (rs := [3]) (by kernel_rfl) (by simp) ?_
      refine AllReadyH.cons (o := ⟨some 26, _, _, _, _, _⟩) rfl (fun K hK => ?_) AllReadyH.nil
      go_simp
      refine (PE.out _ (HKA.out _ (by repeat (first | exact HD.out | refine Below.drew ?_))).1).mono ?_
      rintro e v1 ⟨hm, rfl⟩
      exact ⟨rfl, HKM.out _ _ hm (by repeat (first | exact HD.out | refine Below.drew ?_)), rfl⟩
    | some q =>
      obtain ⟨T, r2⟩ := q
      rw [hx] at PE
      have HX := Lib.hid hx
      clear hx
      go_enter Tryz.func42, Tryz.ntmps42
      go_upto_region 1 with fail
      rw [← HW.out]
      go_wp2_with fail
      refine PF.out.mono ?_
      rintro e w1 ⟨rfl, hm, ha⟩
      have HO1 := Lib.hid (HO.out.mvs hm ha)
      obtain ⟨V, hV⟩ : ∃ V, V = w1.alloc (.cells #[.int .i64 F, .bool mm] 91) := ⟨_, rfl⟩
      obtain ⟨hT, hbV, hsV⟩ := two_new hV
      have HOV := Lib.hid (HO1.out.below hbV)
      have HT := Lib.hid hT
      have P1 := Lib.hid (PX.out V (HOV.out.at_))
      have HV := Lib.hid hV
      have HG := Lib.hid (show w1.heap.size ≠ b ∧ w.heap.size < w1.heap.size ∧ V.heap.size = w1.heap.size + 1 by have := HO1.out.lt; have := HO1.out.size; omega)
      obtain ⟨c0, c1⟩ := hT
      clear hm ha hV hbV hsV
      go_upto_region 3 with fail
      rw [← HV.out]
      go_wp2_with fail
      refine P1.out.mono ?_
      rintro e w2 ⟨hm, rfl, ha⟩
      have HO2 := Lib.hid (HOV.out.mvs hm ha)
      have HT2 := Lib.hid (HT.out.mv hm HG.out.1)
      clear hm ha c0 c1
      go_upto_region 4 with fail
      obtain ⟨c0, c1⟩ := HT2.out
      have HDE := Lib.hid (show deepT T ≤ 65536 from by have := (dEx_deep HO2.out.at_.ok HX.out).1; have := HO2.out.at_.len; omega)
      have HKA : Hid (∀ V', Below w2.heap.size w2 V' → At b m1 m2 V' r) := Lib.hid fun V' h => HO2.out.at_.below h
      have HKM : Hid (∀ V' v1, Mv b V' v1 → Below w2.heap.size w2 V' → Mv b w v1 ∧ Two w1.heap.size v1 (.int .i64 F) (.bool mm) ∧ Seven w.heap.size v1 (.int .i64 0) (.int .i64 0) (.int .i64 0) (.string ⟨#[]⟩) (.slice none 0 0) (.slice none 0 0) (.int .i64 0) ∧ w2.heap.size ≤ V'.heap.size ∧ w2.heap.size ≤ v1.heap.size) :=
        Lib.hid fun V' v1 hm h => ⟨(HO2.out.mv.trans (Mv.of_below h)).trans hm, (HT2.out.below h).mv hm HG.out.1, (HO2.out.seven.below h).mv hm (by have := HO2.out.lt; omega), h.size, Nat.le_trans h.size hm.size⟩
      have HD := Lib.hid (Below.refl w2.heap.size w2)
      have HNE := Lib.hid (show w.heap.size ≠ w1.heap.size by have := HG.out; omega)
      have HLS := Lib.hid (show w.heap.size < w2.heap.size ∧ b < w.heap.size by have := HO2.out.lt; have := HO2.out.size; omega)
      generalize hg3 : w1.heap.size = g3 at *
      generalize hg2 : w.heap.size = g2 at *
      go_region_held3 (fun w' => w'.cell? ⟨g3, 0, none⟩ = some (.int .i64 F) ∧ w'.cell? ⟨g3, 1, none⟩ = some (.bool mm))
        ((first | go_keep | exact ⟨(put7_apart HNE.out).trans z0, (put7_apart HNE.out).trans z1⟩))
        (first
          | (go_at_call 42; refine (PE.out _ (HKA.out _ (by repeat (first | exact HD.out | refine Below.drew ?_)))).mono ?_
             rintro e v1 ⟨hm, u, rfl, hu, ha⟩
             obtain ⟨x0, f0, a0, s0, A0, nn0, cc0, B0, mm0, d0, rfl, -⟩ := RdQ_six hu
             obtain ⟨q1, q2, q3, q4, q5⟩ := HKM.out _ _ hm (by repeat (first | exact HD.out | refine Below.drew ?_))
             have HM1 := Lib.hid q1
             have HA1 := Lib.hid ha
             have HT1 := Lib.hid q2
             have HS1 := Lib.hid q3
             obtain ⟨y0, y1⟩ := HT1.out
             have HAP := Lib.hid (fun X (h : Below v1.heap.size v1 X) => apply_one (mm := mm) (B0 := w2.heap.size) (hu.le (fun k hk => Nat.le_trans q4 hk)) q5 h HDE.out HF.out HAL.out.2)
             have HB1 := Lib.hid (Below.refl v1.heap.size v1)
             clear hm hu ha q1 q2 q3 q4 q5)
          | (go_at_call 56; refine (HAP.out _ (by repeat (first | exact HB1.out | refine Below.drew ?_))).mono ?_
             rintro e v2 ⟨B, d, rfl, hr, hb⟩
             have HR2 := Lib.hid hr
             have HB2 := Lib.hid hb
             obtain ⟨z0, z1⟩ := HT1.out.below hb
             obtain ⟨s0', s1', s2', s3', s4', s5', s6', sf⟩ := HS1.out.below hb
             have sf0 := sf 0; have sf1 := sf 1; have sf2 := sf 2; have sf3 := sf 3; have sf4 := sf 4; have sf5 := sf 5; have sf6 := sf 6
             clear hr hb sf))
      rename_i hHeld; clear hHeld
      go_wp2_with fail
      refine bodyPost_ret (v := .agg #[.int .i64 3, .int .i64 F, .int .i64 ax, .string ⟨#[]⟩, .slice none 0 0, .slice B 1 d, .int .i64 (deepT (mon F ax T))]) (by simp [results, Tryz.results42, go_sem, s0', s1', s2', s3', s4', s5', s6']) rfl ?_
      exact ansT_put (B := w2.heap.size) (HM1.out.trans (Mv.of_below HB2.out)) (HA1.out.below HB2.out) HR2.out (by omega) HLS.out.1 HLS.out.2
end Go.Proofs.YthgojbaindejjaaGreatDoor.ps
