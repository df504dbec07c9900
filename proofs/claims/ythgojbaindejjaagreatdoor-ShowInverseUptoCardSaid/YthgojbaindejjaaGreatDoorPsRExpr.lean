/- The reference of package parse: Expr. -/
import Derived.Test.YthgojbaindejjaaGreatDoorPsRFn
import Derived.Test.YthgojbaindejjaaGreatDoorPsDyad
namespace Go.Proofs.YthgojbaindejjaaGreatDoor.ps
open Go.ChangeShapes Go.WideShapes Go.ChangeAt Go.RowKit Go.Proofs.YthgojbaindejjaaGreatDoor.mem Go.Proofs.YthgojbaindejjaaGreatDoor.lx Go.Proofs.YthgojbaindejjaaGreatDoor.tr
set_option linter.unusedVariables false
set_option linter.unusedSimpArgs false

theorem pre_suf {L o q : List Tk} {mm : Nat} (hm : mm ≤ L.length) (h : pre L mm = o ++ q) : q = pre L q.length ∧ q.length ≤ mm := by
  have hl := congrArg List.length h
  rw [pre_len hm, List.length_append] at hl
  refine ⟨?_, by omega⟩
  have e : L.take mm = q.reverse ++ o.reverse := by
    have := congrArg List.reverse h
    unfold pre at this
    rw [List.reverse_reverse] at this
    rw [this]; simp
  have e2 : L.take q.length = q.reverse := by
    have h1 : L.take q.length = (L.take mm).take q.length := by rw [List.take_take, Nat.min_eq_left (by omega)]
    rw [h1, e]
    have h2 : q.length = q.reverse.length := by simp
    rw [h2]
    exact List.take_left
  unfold pre
  rw [e2, List.reverse_reverse]
theorem rFn_fits {p : List Tk} {F ax : Int} {q : List Tk} (h : rFn p = some (F, ax, q)) : 1 ≤ F ∧ F ≤ 6 ∧ -1 ≤ ax ∧ ax ≤ 15 ∧ (ax = -1 ∨ F = 3 ∨ F = 6) := by
  obtain ⟨f, _, hf⟩ := rFn_some h
  rcases hf with ⟨t, _, h1, h2, h3, h4⟩ | ⟨t, lb, x, rb, _, h1, h2, h3, h4, h5, h6, h7, h8, h9⟩
  · have := fn_range t.t; omega
  · omega
theorem rOp_fits {n : Nat} {p : List Tk} {u : Tr} {r : List Tk} (h : rOp (rEx n) p = some (u, r)) : ∃ o, p = o ++ r := by
  obtain ⟨o, e, _⟩ := rOp_sound (rEx_sound n) h
  exact ⟨o.reverse, e⟩
/-- Two trees in a row of their own. -/
theorem rd_pair {X Y : World} {Q : Nat → Prop} {U T : Tr} {u v : S6} {t : TypeId} {F ax : Int} (hu : RdQ Q X U u.agg) (hv : RdQ Q X T v.agg) (hY : Y = X.alloc (.cells #[u.c0, u.c1, u.c2, u.c3, u.c4, u.c5, v.c0, v.c1, v.c2, v.c3, v.c4, v.c5] t)) (hQ : Q X.heap.size) (hF : 0 ≤ F ∧ F ≤ 6) (hx : -1 ≤ ax ∧ ax ≤ 15) :
    RdQ Q Y (dy F ax U T) (.agg #[.int .i64 4, .int .i64 F, .int .i64 ax, .string ⟨#[]⟩, .slice none 0 0, .slice (some ⟨X.heap.size, 0, none⟩) 2 2]) ∧ Below X.heap.size X Y := by
  have hb : Below X.heap.size X Y := by rw [hY]; exact Joins.below_alloc1 _ _
  refine ⟨rd_dy hF hx (Nat.le_refl _) (fun e => by cases e) (rdQL_row hQ (by rw [hY]; simp) [U, T] [u, v] 0 rfl (fun j x hj => ?_) (fun k x V h1 h2 => ?_)), hb⟩
  · rw [hY, cell_of_row _ _ _ _ t (0, 0) (heap_alloc_new X _)]
    simp only [flat6, S6.cs, List.append_nil] at hj
    simpa using hj
  · match k, h1, h2 with
    | 0, h1, h2 => simp at h1 h2; subst h1 h2; exact hu.below hb
    | 1, h1, h2 => simp at h1 h2; subst h1 h2; exact hv.below hb
    | k + 2, h1, _ => simp at h1
theorem rd_single {X Y : World} {Q : Nat → Prop} {T : Tr} {v : S6} {t : TypeId} {F ax : Int} (hv : RdQ Q X T v.agg) (hY : Y = X.alloc (.cells #[v.c0, v.c1, v.c2, v.c3, v.c4, v.c5] t)) (hQ : Q X.heap.size) (hF : 0 ≤ F ∧ F ≤ 6) (hx : -1 ≤ ax ∧ ax ≤ 15) :
    RdQ Q Y (mon F ax T) (.agg #[.int .i64 3, .int .i64 F, .int .i64 ax, .string ⟨#[]⟩, .slice none 0 0, .slice (some ⟨X.heap.size, 0, none⟩) 1 1]) ∧ Below X.heap.size X Y := by
  have hb : Below X.heap.size X Y := by rw [hY]; exact Joins.below_alloc1 _ _
  refine ⟨rd_mon hF hx (Nat.le_refl _) (fun e => by cases e) (rdQL_row hQ (by rw [hY]; simp) [T] [v] 0 rfl (fun j x hj => ?_) (fun k x V h1 h2 => ?_)), hb⟩
  · rw [hY, cell_of_row _ _ _ _ t (0, 0) (heap_alloc_new X _)]
    simp only [flat6, S6.cs, List.append_nil] at hj
    simpa using hj
  · match k, h1, h2 with
    | 0, h1, h2 => simp at h1 h2; subst h1 h2; exact hv.below hb
    | k + 1, h1, _ => simp at h1
theorem put6a_seven {g : Nat} {X : World} {x0 x1 x2 x3 x4 x5 : Value} (h : Six0 g X x0 x1 x2 x3 x4 x5) (y0 y1 y2 y3 y4 y5 : Value) : Six0 g (put6a X g y0 y1 y2 y3 y4 y5) y0 y1 y2 y3 y4 y5 := by
  obtain ⟨c0, c1, c2, c3, c4, c5, f⟩ := h
  unfold put6a
  refine ⟨by simp [go_sem, c0, c1, c2, c3, c4, c5], by simp [go_sem, c0, c1, c2, c3, c4, c5], by simp [go_sem, c0, c1, c2, c3, c4, c5], by simp [go_sem, c0, c1, c2, c3, c4, c5], by simp [go_sem, c0, c1, c2, c3, c4, c5], by simp [go_sem, c0, c1, c2, c3, c4, c5], fun j => ?_⟩
  rw [World.frozen?_setCell, World.frozen?_setCell, World.frozen?_setCell, World.frozen?_setCell, World.frozen?_setCell, World.frozen?_setCell]
  exact f j
theorem put6a_apart {X : World} {g g3 j : Nat} {x0 x1 x2 x3 x4 x5 : Value} (h : g ≠ g3) : (put6a X g x0 x1 x2 x3 x4 x5).cell? ⟨g3, j, none⟩ = X.cell? ⟨g3, j, none⟩ := World.cell?_of_block (a := ⟨g3, j, none⟩) (put6a_block (fun e => h e.symm))
/-- What the loop of Expr lies on: the answer's block is w's next one, the tree's is g4. -/
structure Lp (w X : World) (g4 : Nat) (T : Tr) (u : S6) : Prop where
  ans : Six0 w.heap.size X (.int .i64 0) (.int .i64 0) (.int .i64 0) (.string ⟨#[]⟩) (.slice none 0 0) (.slice none 0 0)
  tree : Six0 g4 X u.c0 u.c1 u.c2 u.c3 u.c4 u.c5
  rd : RdQ (fun k => w.heap.size < k ∧ k ≠ g4) X T u.agg
  below : Below w.heap.size w X
  lt : w.heap.size < g4
theorem Lp.more {w X Y : World} {g4 : Nat} {T : Tr} {u : S6} (h : Lp w X g4 T u) (hb : Below X.heap.size X Y) : Lp w Y g4 T u := ⟨h.ans.below hb, h.tree.below hb, h.rd.below hb, h.below.trans (hb.mono h.below.size), h.lt⟩
/-- The tree is stored anew. -/
theorem Lp.put {w X Y : World} {g4 : Nat} {T U : Tr} {u v : S6} (h : Lp w X g4 T u) (hb : Below X.heap.size X Y) (hv : RdQ (fun k => w.heap.size < k ∧ k ≠ g4) Y U v.agg) : Lp w (put6a Y g4 v.c0 v.c1 v.c2 v.c3 v.c4 v.c5) g4 U v := by
  have hlt := h.lt
  have hm := h.more hb
  have hs : Y.heap.size ≤ (put6a Y g4 v.c0 v.c1 v.c2 v.c3 v.c4 v.c5).heap.size := (put6a_below (B := 0) (Nat.zero_le _)).size
  exact ⟨hm.ans.as (put6a_block (by omega)), put6a_seven hm.tree _ _ _ _ _ _, hv.keep hs (fun a hq _ => World.cell?_of_block (put6a_block hq.2)) (fun _ h => h), hm.below.trans (put6a_below (by omega)), hlt⟩
theorem Lp.fails {w X : World} {g4 : Nat} {T : Tr} {u : S6} (h : Lp w X g4 T u) : ExTo w none (.returned (.tuple #[z6, .bool false])) (put6a X w.heap.size (.int .i64 0) (.int .i64 0) (.int .i64 0) (.string ⟨#[]⟩) (.slice none 0 0) (.slice none 0 0)) := ⟨h.below.trans (put6a_below (Nat.le_refl _)), rfl⟩
theorem Lp.done {w X : World} {g4 : Nat} {T : Tr} {u : S6} (h : Lp w X g4 T u) : ExTo w (some T) (.returned (.tuple #[.agg #[u.c0, u.c1, u.c2, u.c3, u.c4, u.c5], .bool true])) (put6a X w.heap.size u.c0 u.c1 u.c2 u.c3 u.c4 u.c5) :=
  ⟨h.below.trans (put6a_below (Nat.le_refl _)), u, rfl, h.rd.keep (put6a_below (B := 0) (Nat.zero_le _)).size (fun a hq _ => World.cell?_of_block (put6a_block (by have := hq.1; omega))) (fun k hk => Nat.le_of_lt hk.1)⟩
set_option maxHeartbeats 16000000 in
set_option maxRecDepth 100000 in
theorem rex_step (n : Nat) (hE : RxAt n) : RxAt (n + 1) := by
  intro w A m c L h hm hmc hcm hnil hok hn
  have hmL := h.1
  rw [rEx_succ, ← pre_all, hmL]
  obtain ⟨W, hW⟩ : ∃ W, W = w.alloc (.cells #[.int .i64 0, .int .i64 0, .int .i64 0, .string ⟨#[]⟩, .slice none 0 0, .slice none 0 0] 25) := ⟨_, rfl⟩
  obtain ⟨hS, hb, hs⟩ := six_new hW
  have PO := Lib.hid (fun X (h' : Below w.heap.size w X) mm (i : Int) (hmm : mm ≤ m) (hi : i = (mm : Int) - 1) => rop_any n hE (h.below h') hmm hm hmc hcm hok (by omega) hi)
  have PF := Lib.hid (fun X (h' : Below w.heap.size w X) mm (i : Int) (hmm : mm ≤ m) (h1 : 1 ≤ mm) (hi : i = (mm : Int) - 1) => rfn_any (c := c) (h.below h') hmm hm h1 hi)
  have PG := Lib.hid (fun X (h' : Below w.heap.size w X) q t g (hq : L[q]? = some t) => glyph_at (c := c) g (h.below h') hq hm)
  have HCL := Lib.hid (fun X (h' : Below w.heap.size w X) => h.below h')
  have HML := Lib.hid hmL
  have HW := Lib.hid hW
  have HB := Lib.hid hb
  have HS := Lib.hid hS
  have HZ := Lib.hid hs
  have P0 := Lib.hid (PO.out W hb m ((m : Int) - 1) (Nat.le_refl _) rfl)
  clear h hmc hcm hnil hok hn hmL hW hb hS hs hE
  cases hr : rOp (rEx n) (pre L m) with
  | none =>
    rw [hr] at P0
    simp only []
    clear hr
    go_enter Tryz.func61, Tryz.ntmps61
    go_upto_region 1 with fail
    rw [← HW.out]
    go_wp2_with fail
    refine P0.out.mono ?_
    rintro e w1 ⟨hb, j, rfl⟩
    unfold z6
    obtain ⟨V, hV⟩ : ∃ V, V = w1.alloc (.cells #[.int .i64 0, .int .i64 0, .int .i64 0, .string ⟨#[]⟩, .slice none 0 0, .slice none 0 0] 25) := ⟨_, rfl⟩
    obtain ⟨hS4, hb4, hs4⟩ := six_new hV
    have HBV := Lib.hid ((HB.out.trans (hb.mono HB.out.size)).trans (hb4.mono (by have := HZ.out; have := hb.size; omega)))
    obtain ⟨c0, c1, c2, c3, c4, c5, f⟩ := (HS.out.below hb).below hb4
    have f0 := f 0; have f1 := f 1; have f2 := f 2; have f3 := f 3; have f4 := f 4; have f5 := f 5
    obtain ⟨y0, y1, y2, y3, y4, y5, -⟩ := hS4
    have ne : w.heap.size ≠ w1.heap.size := by have := HZ.out; have := hb.size; omega
    have HV := Lib.hid hV
    clear hb hb4 hs4 hV f
    go_upto_block 0 with fail
    rw [← HV.out]
    go_wp2_with fail
    go_loopw [5] (fun v wr => wr = V) (fun _ _ => 0)
    case atStart => exact rfl
    obtain rfl := hrel
    go_wp2_with fail
    refine bodyPost_ret (v := .tuple #[z6, .bool false]) (by simp [results, Tryz.results61, go_sem, c0, c1, c2, c3, c4, c5, z6]) rfl ?_
    exact ⟨HBV.out.trans (put6a_below (Nat.le_refl _)), rfl⟩
  | some p =>
    obtain ⟨T0, p0⟩ := p
    rw [hr] at P0
    simp only [] at P0 ⊢
    obtain ⟨o, ho⟩ := rOp_fits hr
    obtain ⟨e1, e2⟩ := pre_suf (by rw [HML.out]; exact Nat.le_refl _) ho
    obtain ⟨RES, hRES⟩ : ∃ RES, RES = lp (rOp (rEx n)) p0 T0 := ⟨_, rfl⟩
    rw [← hRES]
    have HR0 : Hid (lp (rOp (rEx n)) (pre L p0.length) T0 = RES) := Lib.hid (by rw [← e1, hRES])
    clear hr ho e1 hRES
    go_enter Tryz.func61, Tryz.ntmps61
    go_upto_region 1 with fail
    rw [← HW.out]
    go_wp2_with fail
    refine P0.out.mono ?_
    rintro e w1 ⟨hb, u, rfl, hu⟩
    obtain ⟨k0, f0, a0, s0, A0, n0, q0, B0, m0, d0, rfl, -⟩ := RdQ_six hu
    simp only [S6.agg]
    obtain ⟨V, hV⟩ : ∃ V, V = w1.alloc (.cells #[.int .i64 k0, .int .i64 f0, .int .i64 a0, .string s0, .slice A0 n0 q0, .slice B0 m0 d0] 25) := ⟨_, rfl⟩
    obtain ⟨hS4, hb4, hs4⟩ := six_new hV
    have HLP : Hid (Lp w V w1.heap.size T0 ⟨.int .i64 k0, .int .i64 f0, .int .i64 a0, .string s0, .slice A0 n0 q0, .slice B0 m0 d0⟩) := Lib.hid ⟨(HS.out.below hb).below hb4, hS4, (hu.old.below hb4).le (fun k hk => ⟨by have := hk.1; have := HZ.out; omega, by have := hk.2; omega⟩), (HB.out.trans (hb.mono HB.out.size)).trans (hb4.mono (by have := HZ.out; have := hb.size; omega)), by have := HZ.out; have := hb.size; omega⟩
    have HV := Lib.hid hV
    clear hb hb4 hs4 hV hS4 hu
    go_upto_block 0 with fail
    rw [← HV.out]
    generalize hg4 : w1.heap.size = g4 at *
    clear hg4
    go_wp2_with fail
    go_loopw [5] (fun i wr => ∃ (j : Int) (mm : Nat) (T : Tr) (k0 f0 a0 : Int) (s0 : ByteArray) (A0 B0 : Option Addr) (n0 q0 m0 d0 : Nat), i = .int .i64 j ∧ -1 ≤ j ∧ j < 65536 ∧ Hid (j = (mm : Int) - 1 ∧ mm ≤ m) ∧ Hid (Lp w wr g4 T ⟨.int .i64 k0, .int .i64 f0, .int .i64 a0, .string s0, .slice A0 n0 q0, .slice B0 m0 d0⟩) ∧ Hid (lp (rOp (rEx n)) (pre L mm) T = RES)) (fun i _ => (intOf i + 1).toNat)
    case atStart => exact ⟨_, p0.length, T0, k0, f0, a0, s0, A0, B0, n0, q0, m0, d0, rfl, by omega, by omega, Lib.hid ⟨rfl, e2⟩, HLP, HR0⟩
    case round =>
      clear HLP HR0 HV
      obtain ⟨j, mm, T, k0, f0, a0, s0, A0, B0, n0, q0, m0, d0, rfl, hj1, hj2, HM, HL, HRS⟩ := hrel
      cases mm with
      | zero =>
        obtain rfl : j = -1 := by have := HM.out; omega
        have HRE : Hid (RES = some T) := Lib.hid (by rw [← HRS.out, pre_zero, lp_nil])
        obtain ⟨c0, c1, c2, c3, c4, c5, f⟩ := HL.out.ans
        have g0 := f 0; have g1 := f 1; have g2 := f 2; have g3 := f 3; have g4' := f 4; have g5 := f 5
        obtain ⟨y0, y1, y2, y3, y4, y5, -⟩ := HL.out.tree
        have ne : w.heap.size ≠ g4 := Nat.ne_of_lt HL.out.lt
        clear f
        go_wp2_with fail
        refine bodyPost_ret (v := .tuple #[.agg #[.int .i64 k0, .int .i64 f0, .int .i64 a0, .string s0, .slice A0 n0 q0, .slice B0 m0 d0], .bool true]) (by simp [results, Tryz.results61, go_sem, c0, c1, c2, c3, c4, c5]) rfl ?_
        rw [HRE.out]
        exact HL.out.done
      | succ q =>
        obtain rfl : j = (q : Int) := by have := HM.out; omega
        have hpne : pre L (q + 1) ≠ [] := by
          intro e
          have := congrArg List.length e
          rw [pre_len (by rw [HML.out]; have := HM.out; omega)] at this
          simp at this
        have HRL : Hid ((match rFn (pre L (q + 1)) with
          | none => none
          | some (F, ax, r) => match rOp (rEx n) r with
            | some (u, r') => if F ≠ 6 ∧ 2 < u.kind then none else lp (rOp (rEx n)) r' (dy F ax u T)
            | none => if badF r ∨ ¬ monOk F ax then none else lp (rOp (rEx n)) r (mon F ax T)) = RES) := Lib.hid (by rw [← HRS.out, lp_cons hpne]; rfl)
        have PF1 := Lib.hid (PF.out wr HL.out.below (q + 1) (q : Int) (by have := HM.out; omega) (by omega) (by omega))
        clear hpne HRS
        cases hf : rFn (pre L (q + 1)) with
        | none =>
          rw [hf] at PF1 HRL
          have HRE : Hid (RES = none) := Lib.hid HRL.out.symm
          clear hf HRL
          go_wp2_with fail
          refine PF1.out.mono ?_
          rintro e v1 ⟨hb, j', rfl⟩
          have HL1 := Lib.hid (HL.out.more hb)
          clear hb
          obtain ⟨c0, c1, c2, c3, c4, c5, f⟩ := HL1.out.ans
          have g0 := f 0; have g1 := f 1; have g2 := f 2; have g3 := f 3; have g4' := f 4; have g5 := f 5
          clear f
          go_wp2_with fail
          refine bodyPost_ret (v := .tuple #[z6, .bool false]) (by simp [results, Tryz.results61, go_sem, c0, c1, c2, c3, c4, c5, z6]) rfl ?_
          rw [HRE.out]
          exact HL1.out.fails
        | some x =>
          obtain ⟨F, ax, r⟩ := x
          rw [hf] at PF1 HRL
          have HFI := Lib.hid (rFn_fits hf)
          obtain ⟨fs, hfs, -⟩ := rFn_some hf
          obtain ⟨er, hrl⟩ := pre_suf (by rw [HML.out]; have := HM.out; omega) hfs
          have hrq : r.length ≤ q := by have := rFn_len hf; rw [pre_len (by rw [HML.out]; have := HM.out; omega)] at this; omega
          simp only [] at PF1 HRL
          have HRQ := Lib.hid hrq
          have HER := Lib.hid er
          have hqm : q < m := by have := HM.out; omega
          have PO1 := Lib.hid (fun X hX (j : Int) (hj : j = (r.length : Int) - 1) => PO.out X hX r.length j (by omega) hj)
          rw [← er] at PO1
          clear hf hfs hrl hrq er
          cases ho : rOp (rEx n) r with
          | some y =>
            obtain ⟨U, r'⟩ := y
            have hr'l := rOp_len ho
            obtain ⟨o2, ho2⟩ := rOp_fits ho
            rw [ho] at PO1 HRL
            simp only [] at PO1 HRL
            have HR' : Hid (r' = pre L r'.length ∧ r'.length ≤ m) := Lib.hid (by
              have e1 := HER.out
              rw [e1] at ho2
              obtain ⟨e2, e3⟩ := pre_suf (by rw [HML.out]; have := HRQ.out; omega) ho2
              exact ⟨e2, by have := HRQ.out; omega⟩)
            have hrb : r'.length < 65536 := by have := HRQ.out; omega
            have HRB := Lib.hid (show r'.length ≤ q by have := HRQ.out; omega)
            clear ho hr'l ho2
            go_wp2_with fail
            refine PF1.out.mono ?_
            rintro e v1 ⟨hb, he⟩
            obtain ⟨j9, hj9⟩ : ∃ j9 : Int, j9 = (r.length : Int) - 1 := ⟨_, rfl⟩
            simp only [] at he
            rw [← hj9] at he
            subst he
            have HJ9 := Lib.hid hj9
            clear hj9
            have HL1 := Lib.hid (HL.out.more hb)
            have P2 := Lib.hid (PO1.out v1 HL1.out.below j9 HJ9.out)
            clear hb
            go_wp2_with fail
            refine P2.out.mono ?_
            rintro e v2 ⟨hb, u, he, hu⟩
            obtain ⟨j10, hj10⟩ : ∃ j10 : Int, j10 = (r'.length : Int) - 1 := ⟨_, rfl⟩
            rw [← hj10] at he
            subst he
            have HJ10 := Lib.hid hj10
            have hj10b : -1 ≤ j10 ∧ j10 < 65536 := by omega
            clear hj10
            obtain ⟨k1, f1, a1, s1, A1, n1, q1, B1, m1, d1, rfl, hkk⟩ := RdQ_six hu
            simp only [S6.agg]
            obtain ⟨V2, hV2⟩ : ∃ V2, V2 = v2.alloc (.cells #[.int .i64 k1, .int .i64 f1, .int .i64 a1, .string s1, .slice A1 n1 q1, .slice B1 m1 d1] 25) := ⟨_, rfl⟩
            obtain ⟨hS11, hb11, hs11⟩ := six_new hV2
            have HL2 := Lib.hid ((HL1.out.more hb).more hb11)
            have hlt1 : g4 < v1.heap.size := HL1.out.tree.lt
            have hlt0 := HL1.out.lt
            have HU2 := Lib.hid ((hu.below hb11).le (Q' := fun k => w.heap.size < k ∧ k ≠ g4) (fun k hk => ⟨by have : v1.heap.size ≤ k := hk; omega, by have : v1.heap.size ≤ k := hk; omega⟩))
            have HV2 := Lib.hid hV2
            have HNE := Lib.hid (show g4 ≠ v2.heap.size ∧ w.heap.size ≠ v2.heap.size ∧ g4 ≠ V2.heap.size ∧ w.heap.size < V2.heap.size by have := hb.size; omega)
            have HKK := Lib.hid hkk
            clear hb hb11 hs11 hV2 hu hlt1 hlt0 hkk
            go_upto_region 7 with fail
            rw [← HV2.out]
            obtain ⟨x0, x1, x2, x3, x4, x5, -⟩ := hS11
            by_cases hkd : F ≠ 6 ∧ 2 < U.kind
            · rw [if_pos hkd] at HRL
              have HRE : Hid (RES = none) := Lib.hid HRL.out.symm
              have hh1 : (F != 6) = true := by simpa using hkd.1
              have hh2 : (F == 6) = false := by simpa using hkd.1
              have hh3 : decide (2 < k1) = true := by rw [HKK.out]; exact decide_eq_true hkd.2
              obtain ⟨c0, c1, c2, c3, c4, c5, f⟩ := HL2.out.ans
              have g0 := f 0; have g1 := f 1; have g2 := f 2; have g3 := f 3; have g4' := f 4; have g5 := f 5
              clear f hkd HRL
              go_wp2_with fail
              refine bodyPost_ret (v := .tuple #[z6, .bool false]) (by simp [results, Tryz.results61, go_sem, c0, c1, c2, c3, c4, c5, z6]) rfl ?_
              rw [HRE.out]
              exact HL2.out.fails
            · rw [if_neg hkd] at HRL
              have hh : ((F != 6) = false ∧ (F == 6) = true) ∨ ((F != 6) = true ∧ (F == 6) = false ∧ decide (2 < k1) = false) := by
                by_cases g6 : F = 6
                · left; exact ⟨by rw [g6]; rfl, by rw [g6]; rfl⟩
                · right; exact ⟨by simpa using g6, by simpa using g6, by rw [HKK.out]; exact decide_eq_false (fun e => hkd ⟨g6, e⟩)⟩
              obtain ⟨y0, y1, y2, y3, y4, y5, yf⟩ := HL2.out.tree
              have yf0 := yf 0; have yf1 := yf 1; have yf2 := yf 2; have yf3 := yf 3; have yf4 := yf 4; have yf5 := yf 5
              clear yf hkd
              have HRL2 := Lib.hid HRL.out
              clear HRL
              obtain ⟨z0, z1, z2, z3, z4, z5, zf⟩ := HL2.out.tree.below (Joins.below_alloc1 V2 (.cells #[.int .i64 k1, .int .i64 f1, .int .i64 a1, .string s1, .slice A1 n1 q1, .slice B1 m1 d1, .int .i64 k0, .int .i64 f0, .int .i64 a0, .string s0, .slice A0 n0 q0, .slice B0 m0 d0] 25))
              have zf0 := zf 0; have zf1 := zf 1; have zf2 := zf 2; have zf3 := zf 3; have zf4 := zf 4; have zf5 := zf 5
              dsimp only at y0 y1 y2 y3 y4 y5 z0 z1 z2 z3 z4 z5
              clear zf
              rcases hh with ⟨hh1, hh2⟩ | ⟨hh1, hh2, hh3⟩
              all_goals
                go_upto_region 10 with fail
                clear hh1 hh2
                go_wp2_with fail
                refine ⟨⟨j10, r'.length, dy F ax U T, 4, F, ax, ⟨#[]⟩, none, some ⟨V2.heap.size, 0, none⟩, 0, 0, 2, 2, rfl, hj10b.1, hj10b.2, Lib.hid ⟨HJ10.out, HR'.out.2⟩, Lib.hid ?_, Lib.hid (by rw [← HR'.out.1]; exact HRL2.out)⟩, ?_⟩
                · have hp := rd_pair (t := 25) (F := F) (ax := ax) HU2.out HL2.out.rd rfl ⟨HNE.out.2.2.2, fun e => HNE.out.2.2.1 e.symm⟩ (by have := HFI.out; omega) (by have := HFI.out; omega)
                  exact HL2.out.put hp.2 (v := ⟨.int .i64 4, .int .i64 F, .int .i64 ax, .string ⟨#[]⟩, .slice none 0 0, .slice (some ⟨V2.heap.size, 0, none⟩) 2 2⟩) hp.1
                · have := HRB.out
                  have := HJ10.out
                  first | (simp [intOf]; done) | (simp [intOf]; omega)
          | none =>
            rw [ho] at PO1 HRL
            simp only [] at PO1 HRL
            clear ho
            go_wp2_with fail
            refine PF1.out.mono ?_
            rintro e v1 ⟨hb, he⟩
            obtain ⟨j9, hj9⟩ : ∃ j9 : Int, j9 = (r.length : Int) - 1 := ⟨_, rfl⟩
            simp only [] at he
            rw [← hj9] at he
            subst he
            have HJ9 := Lib.hid hj9
            clear hj9
            have HL1 := Lib.hid (HL.out.more hb)
            have P2 := Lib.hid (PO1.out v1 HL1.out.below j9 HJ9.out)
            clear hb
            go_wp2_with fail
            refine P2.out.mono ?_
            rintro e v2 ⟨hb, j', rfl⟩
            unfold z6
            obtain ⟨V2, hV2⟩ : ∃ V2, V2 = v2.alloc (.cells #[.int .i64 0, .int .i64 0, .int .i64 0, .string ⟨#[]⟩, .slice none 0 0, .slice none 0 0] 25) := ⟨_, rfl⟩
            obtain ⟨hS11, hb11, hs11⟩ := six_new hV2
            have HL2 := Lib.hid ((HL1.out.more hb).more hb11)
            have hlt1 : g4 < v1.heap.size := HL1.out.tree.lt
            have hlt0 := HL1.out.lt
            have HV2 := Lib.hid hV2
            have HNE := Lib.hid (show g4 ≠ V2.heap.size ∧ w.heap.size < V2.heap.size by have := hb.size; omega)
            clear hb hb11 hs11 hV2 hlt1 hlt0 hS11
            go_upto_region 7 with fail
            rw [← HV2.out]
            go_upto_region 12 with fail
            obtain ⟨y0, y1, y2, y3, y4, y5, -⟩ := HL2.out.tree
            obtain ⟨z0, z1, z2, z3, z4, z5, zf⟩ := HL2.out.tree.below (Joins.below_alloc1 V2 (.cells #[.int .i64 k0, .int .i64 f0, .int .i64 a0, .string s0, .slice A0 n0 q0, .slice B0 m0 d0] 25))
            have zf0 := zf 0; have zf1 := zf 1; have zf2 := zf 2; have zf3 := zf 3; have zf4 := zf 4; have zf5 := zf 5
            dsimp only at y0 y1 y2 y3 y4 y5 z0 z1 z2 z3 z4 z5
            obtain ⟨c0, c1, c2, c3, c4, c5, f⟩ := HL2.out.ans
            have g0 := f 0; have g1 := f 1; have g2 := f 2; have g3 := f 3; have g4' := f 4; have g5 := f 5
            clear zf f
            have HFF : Hid ((F = 3 ∧ monOk F ax) ∨ (F = 4 ∧ monOk F ax) ∨ (F = 6 ∧ ax < 0 ∧ monOk F ax) ∨ (F = 6 ∧ 0 ≤ ax ∧ ¬ monOk F ax) ∨ (F ≠ 3 ∧ F ≠ 4 ∧ F ≠ 6 ∧ ¬ monOk F ax)) := Lib.hid (by
              have := HFI.out
              unfold monOk
              by_cases q3 : F = 3
              · left; exact ⟨q3, .inl q3⟩
              · by_cases q4 : F = 4
                · right; left; exact ⟨q4, .inr ⟨.inl q4, by omega⟩⟩
                · by_cases q6 : F = 6
                  · by_cases qa : ax < 0
                    · right; right; left; exact ⟨q6, qa, .inr ⟨.inr q6, by omega⟩⟩
                    · right; right; right; left; exact ⟨q6, by omega, by omega⟩
                  · right; right; right; right; exact ⟨q3, q4, q6, by omega⟩)
            have HRL : Hid ((badF r ∨ ¬ monOk F ax → RES = none) ∧ (monOk F ax → ¬ badF r → lp (rOp (rEx n)) r (mon F ax T) = RES)) := Lib.hid ⟨fun h => by rw [← HRL.out, if_pos h], fun h1 h2 => by rw [← HRL.out, if_neg (fun h => by rcases h with h | h; exact h2 h; exact h h1)]⟩
            cases r with
            | nil =>
              have HRL : Hid ((badF ([] : List Tk) ∨ ¬ monOk F ax → RES = none) ∧ (monOk F ax → lp (rOp (rEx n)) [] (mon F ax T) = RES)) := Lib.hid ⟨HRL.out.1, fun h => HRL.out.2 h (fun e => e)⟩
              obtain rfl : j9 = -1 := by have := HJ9.out; simpa using this
              rcases HFF.out with ⟨q, qm⟩ | ⟨q, qm⟩ | ⟨q, qa, qm⟩ | ⟨q, qa, qm⟩ | ⟨q, q4, q6, qm⟩
              · have HRM := Lib.hid (HRL.out.2 qm)
                have hF1 : (F != 3) = false := by rw [q]; rfl
                have hF2 : (F == 3) = true := by rw [q]; rfl
                have hF3 : (F != 4) = true := by rw [q]; rfl
                have hF4 : (F == 4) = false := by rw [q]; rfl
                have hF5 : (F != 6) = true := by rw [q]; rfl
                have hF6 : (F == 6) = false := by rw [q]; rfl
                clear q qm HRL
                go_upto_region 14 with fail
                clear hF1 hF2 hF3 hF4 hF5 hF6
                go_wp2_with fail
                refine ⟨⟨-1, ([] : List Tk).length, mon F ax T, 3, F, ax, ⟨#[]⟩, none, some ⟨V2.heap.size, 0, none⟩, 0, 0, 1, 1, rfl, by omega, by have := HRQ.out; simp at this; omega, Lib.hid ⟨HJ9.out, by have := HRQ.out; omega⟩, Lib.hid ?_, Lib.hid (by rw [← HER.out]; exact HRM.out)⟩, ?_⟩
                · have hp := rd_single (t := 25) (F := F) (ax := ax) HL2.out.rd rfl ⟨HNE.out.2, fun e => HNE.out.1 e.symm⟩ (by have := HFI.out; omega) (by have := HFI.out; omega)
                  exact HL2.out.put hp.2 (v := ⟨.int .i64 3, .int .i64 F, .int .i64 ax, .string ⟨#[]⟩, .slice none 0 0, .slice (some ⟨V2.heap.size, 0, none⟩) 1 1⟩) hp.1
                · have := HRQ.out
                  simp at this
                  have hq9 := HJ9.out
                  try simp only [List.length_cons] at hq9
                  first | (simp [intOf]; done) | (simp [intOf]; omega)
              · have HRM := Lib.hid (HRL.out.2 qm)
                have hF1 : (F != 3) = true := by rw [q]; rfl
                have hF2 : (F == 3) = false := by rw [q]; rfl
                have hF3 : (F != 4) = false := by rw [q]; rfl
                have hF4 : (F == 4) = true := by rw [q]; rfl
                have hF5 : (F != 6) = true := by rw [q]; rfl
                have hF6 : (F == 6) = false := by rw [q]; rfl
                clear q qm HRL
                go_upto_region 14 with fail
                clear hF1 hF2 hF3 hF4 hF5 hF6
                go_wp2_with fail
                refine ⟨⟨-1, ([] : List Tk).length, mon F ax T, 3, F, ax, ⟨#[]⟩, none, some ⟨V2.heap.size, 0, none⟩, 0, 0, 1, 1, rfl, by omega, by have := HRQ.out; simp at this; omega, Lib.hid ⟨HJ9.out, by have := HRQ.out; omega⟩, Lib.hid ?_, Lib.hid (by rw [← HER.out]; exact HRM.out)⟩, ?_⟩
                · have hp := rd_single (t := 25) (F := F) (ax := ax) HL2.out.rd rfl ⟨HNE.out.2, fun e => HNE.out.1 e.symm⟩ (by have := HFI.out; omega) (by have := HFI.out; omega)
                  exact HL2.out.put hp.2 (v := ⟨.int .i64 3, .int .i64 F, .int .i64 ax, .string ⟨#[]⟩, .slice none 0 0, .slice (some ⟨V2.heap.size, 0, none⟩) 1 1⟩) hp.1
                · have := HRQ.out
                  simp at this
                  have hq9 := HJ9.out
                  try simp only [List.length_cons] at hq9
                  first | (simp [intOf]; done) | (simp [intOf]; omega)
              · have HRM := Lib.hid (HRL.out.2 qm)
                have hF1 : (F != 3) = true := by rw [q]; rfl
                have hF2 : (F == 3) = false := by rw [q]; rfl
                have hF3 : (F != 4) = true := by rw [q]; rfl
                have hF4 : (F == 4) = false := by rw [q]; rfl
                have hF5 : (F != 6) = false := by rw [q]; rfl
                have hF6 : (F == 6) = true := by rw [q]; rfl
                have hA : decide (0 ≤ ax) = false := decide_eq_false (by omega)
                clear q qm qa HRL
                go_upto_region 14 with fail
                clear hF1 hF2 hF3 hF4 hF5 hF6 hA
                go_wp2_with fail
                refine ⟨⟨-1, ([] : List Tk).length, mon F ax T, 3, F, ax, ⟨#[]⟩, none, some ⟨V2.heap.size, 0, none⟩, 0, 0, 1, 1, rfl, by omega, by have := HRQ.out; simp at this; omega, Lib.hid ⟨HJ9.out, by have := HRQ.out; omega⟩, Lib.hid ?_, Lib.hid (by rw [← HER.out]; exact HRM.out)⟩, ?_⟩
                · have hp := rd_single (t := 25) (F := F) (ax := ax) HL2.out.rd rfl ⟨HNE.out.2, fun e => HNE.out.1 e.symm⟩ (by have := HFI.out; omega) (by have := HFI.out; omega)
                  exact HL2.out.put hp.2 (v := ⟨.int .i64 3, .int .i64 F, .int .i64 ax, .string ⟨#[]⟩, .slice none 0 0, .slice (some ⟨V2.heap.size, 0, none⟩) 1 1⟩) hp.1
                · have := HRQ.out
                  simp at this
                  have hq9 := HJ9.out
                  try simp only [List.length_cons] at hq9
                  first | (simp [intOf]; done) | (simp [intOf]; omega)
              · have HRE := Lib.hid (HRL.out.1 (.inr qm))
                have hF1 : (F != 3) = true := by rw [q]; rfl
                have hF2 : (F == 3) = false := by rw [q]; rfl
                have hF3 : (F != 4) = true := by rw [q]; rfl
                have hF4 : (F == 4) = false := by rw [q]; rfl
                have hF5 : (F != 6) = false := by rw [q]; rfl
                have hF6 : (F == 6) = true := by rw [q]; rfl
                have hA : decide (0 ≤ ax) = true := decide_eq_true qa
                clear q qm qa HRL
                go_wp2_with fail
                refine bodyPost_ret (v := .tuple #[z6, .bool false]) (by simp [results, Tryz.results61, go_sem, c0, c1, c2, c3, c4, c5, z6]) rfl ?_
                rw [HRE.out]
                exact HL2.out.fails
              · have HRE := Lib.hid (HRL.out.1 (.inr qm))
                have hF1 : (F != 3) = true := by simpa using q
                have hF2 : (F == 3) = false := by simpa using q
                have hF3 : (F != 4) = true := by simpa using q4
                have hF4 : (F == 4) = false := by simpa using q4
                have hF5 : (F != 6) = true := by simpa using q6
                have hF6 : (F == 6) = false := by simpa using q6
                clear q q4 q6 qm HRL
                go_wp2_with fail
                refine bodyPost_ret (v := .tuple #[z6, .bool false]) (by simp [results, Tryz.results61, go_sem, c0, c1, c2, c3, c4, c5, z6]) rfl ?_
                rw [HRE.out]
                exact HL2.out.fails
            | cons cc r0 =>
              have hcat : L[r0.length]? = some cc := by
                have e1 := HER.out
                obtain ⟨t', ht'⟩ : ∃ t', L[r0.length]? = some t' := ⟨_, List.getElem?_eq_getElem (by rw [HML.out]; have := HRQ.out; simp at this; omega)⟩
                rw [List.length_cons, pre_succ ht'] at e1
                injection e1 with e1 _
                rw [ht', e1]
              have PGR := Lib.hid (PG.out V2 HL2.out.below r0.length cc gR hcat)
              obtain ⟨ad, rfl, hkm, d0, d1, d2⟩ := rdK_at (HCL.out V2 HL2.out.below) hcat
              obtain ⟨kq, hkq⟩ : ∃ kq, kq = r0.length := ⟨_, rfl⟩
              rw [← hkq] at hcat PGR hkm d0 d1 d2
              obtain rfl : j9 = (kq : Int) := by have := HJ9.out; simp at this; omega
              have hkq65 : kq < 65536 := by omega
              clear hkq
              by_cases hgr : isG cc gR
              · rw [decide_eq_true hgr] at PGR
                have HRE := Lib.hid (HRL.out.1 (.inl (.inl hgr)))
                clear HRL hcat hgr
                go_wp2_with fail
                refine PGR.out.mono ?_
                rintro e v9 ⟨rfl, hv9⟩
                obtain rfl := hv9.symm
                clear hv9
                go_wp2_with fail
                refine bodyPost_ret (v := .tuple #[z6, .bool false]) (by simp [results, Tryz.results61, go_sem, c0, c1, c2, c3, c4, c5, z6]) rfl ?_
                rw [HRE.out]
                exact HL2.out.fails
              · rw [decide_eq_false hgr] at PGR
                by_cases hk3 : cc.k = 3
                · have HRL : Hid ((badF (cc :: r0) ∨ ¬ monOk F ax → RES = none) ∧ (monOk F ax → lp (rOp (rEx n)) (cc :: r0) (mon F ax T) = RES)) := Lib.hid ⟨HRL.out.1, fun h => HRL.out.2 h (fun e => by rcases e with e | e; exact hgr e; exact e hk3)⟩
                  have hkk : (cc.k != 3) = false := by rw [hk3]; rfl
                  have hkk2 : (cc.k == 3) = true := by rw [hk3]; rfl
                  generalize hck : cc.k = ck at *
                  clear hk3 hcat hgr hck d1 d2
                  rcases HFF.out with ⟨q, qm⟩ | ⟨q, qm⟩ | ⟨q, qa, qm⟩ | ⟨q, qa, qm⟩ | ⟨q, q4, q6, qm⟩
                  · have HRM := Lib.hid (HRL.out.2 qm)
                    have hF1 : (F != 3) = false := by rw [q]; rfl
                    have hF2 : (F == 3) = true := by rw [q]; rfl
                    have hF3 : (F != 4) = true := by rw [q]; rfl
                    have hF4 : (F == 4) = false := by rw [q]; rfl
                    have hF5 : (F != 6) = true := by rw [q]; rfl
                    have hF6 : (F == 6) = false := by rw [q]; rfl
                    clear q qm HRL
                    go_upto_region 14 with fail
                    refine PGR.out.mono ?_
                    rintro e v9 ⟨rfl, hv9⟩
                    obtain rfl := hv9.symm
                    clear hv9
                    go_upto_region 14 with fail
                    clear hF1 hF2 hF3 hF4 hF5 hF6
                    go_wp2_with fail
                    refine ⟨⟨(kq : Int), (cc :: r0).length, mon F ax T, 3, F, ax, ⟨#[]⟩, none, some ⟨V2.heap.size, 0, none⟩, 0, 0, 1, 1, rfl, by omega, by have := HRQ.out; simp at this; omega, Lib.hid ⟨HJ9.out, by have := HRQ.out; omega⟩, Lib.hid ?_, Lib.hid (by rw [← HER.out]; exact HRM.out)⟩, ?_⟩
                    · have hp := rd_single (t := 25) (F := F) (ax := ax) HL2.out.rd rfl ⟨HNE.out.2, fun e => HNE.out.1 e.symm⟩ (by have := HFI.out; omega) (by have := HFI.out; omega)
                      exact HL2.out.put hp.2 (v := ⟨.int .i64 3, .int .i64 F, .int .i64 ax, .string ⟨#[]⟩, .slice none 0 0, .slice (some ⟨V2.heap.size, 0, none⟩) 1 1⟩) hp.1
                    · have := HRQ.out
                      simp at this
                      have hq9 := HJ9.out
                      try simp only [List.length_cons] at hq9
                      first | (simp [intOf]; done) | (simp [intOf]; omega)
                  · have HRM := Lib.hid (HRL.out.2 qm)
                    have hF1 : (F != 3) = true := by rw [q]; rfl
                    have hF2 : (F == 3) = false := by rw [q]; rfl
                    have hF3 : (F != 4) = false := by rw [q]; rfl
                    have hF4 : (F == 4) = true := by rw [q]; rfl
                    have hF5 : (F != 6) = true := by rw [q]; rfl
                    have hF6 : (F == 6) = false := by rw [q]; rfl
                    clear q qm HRL
                    go_upto_region 14 with fail
                    refine PGR.out.mono ?_
                    rintro e v9 ⟨rfl, hv9⟩
                    obtain rfl := hv9.symm
                    clear hv9
                    go_upto_region 14 with fail
                    clear hF1 hF2 hF3 hF4 hF5 hF6
                    go_wp2_with fail
                    refine ⟨⟨(kq : Int), (cc :: r0).length, mon F ax T, 3, F, ax, ⟨#[]⟩, none, some ⟨V2.heap.size, 0, none⟩, 0, 0, 1, 1, rfl, by omega, by have := HRQ.out; simp at this; omega, Lib.hid ⟨HJ9.out, by have := HRQ.out; omega⟩, Lib.hid ?_, Lib.hid (by rw [← HER.out]; exact HRM.out)⟩, ?_⟩
                    · have hp := rd_single (t := 25) (F := F) (ax := ax) HL2.out.rd rfl ⟨HNE.out.2, fun e => HNE.out.1 e.symm⟩ (by have := HFI.out; omega) (by have := HFI.out; omega)
                      exact HL2.out.put hp.2 (v := ⟨.int .i64 3, .int .i64 F, .int .i64 ax, .string ⟨#[]⟩, .slice none 0 0, .slice (some ⟨V2.heap.size, 0, none⟩) 1 1⟩) hp.1
                    · have := HRQ.out
                      simp at this
                      have hq9 := HJ9.out
                      try simp only [List.length_cons] at hq9
                      first | (simp [intOf]; done) | (simp [intOf]; omega)
                  · have HRM := Lib.hid (HRL.out.2 qm)
                    have hF1 : (F != 3) = true := by rw [q]; rfl
                    have hF2 : (F == 3) = false := by rw [q]; rfl
                    have hF3 : (F != 4) = true := by rw [q]; rfl
                    have hF4 : (F == 4) = false := by rw [q]; rfl
                    have hF5 : (F != 6) = false := by rw [q]; rfl
                    have hF6 : (F == 6) = true := by rw [q]; rfl
                    have hA : decide (0 ≤ ax) = false := decide_eq_false (by omega)
                    clear q qm qa HRL
                    go_upto_region 14 with fail
                    refine PGR.out.mono ?_
                    rintro e v9 ⟨rfl, hv9⟩
                    obtain rfl := hv9.symm
                    clear hv9
                    go_upto_region 14 with fail
                    clear hF1 hF2 hF3 hF4 hF5 hF6 hA
                    go_wp2_with fail
                    refine ⟨⟨(kq : Int), (cc :: r0).length, mon F ax T, 3, F, ax, ⟨#[]⟩, none, some ⟨V2.heap.size, 0, none⟩, 0, 0, 1, 1, rfl, by omega, by have := HRQ.out; simp at this; omega, Lib.hid ⟨HJ9.out, by have := HRQ.out; omega⟩, Lib.hid ?_, Lib.hid (by rw [← HER.out]; exact HRM.out)⟩, ?_⟩
                    · have hp := rd_single (t := 25) (F := F) (ax := ax) HL2.out.rd rfl ⟨HNE.out.2, fun e => HNE.out.1 e.symm⟩ (by have := HFI.out; omega) (by have := HFI.out; omega)
                      exact HL2.out.put hp.2 (v := ⟨.int .i64 3, .int .i64 F, .int .i64 ax, .string ⟨#[]⟩, .slice none 0 0, .slice (some ⟨V2.heap.size, 0, none⟩) 1 1⟩) hp.1
                    · have := HRQ.out
                      simp at this
                      have hq9 := HJ9.out
                      try simp only [List.length_cons] at hq9
                      first | (simp [intOf]; done) | (simp [intOf]; omega)
                  · have HRE := Lib.hid (HRL.out.1 (.inr qm))
                    have hF1 : (F != 3) = true := by rw [q]; rfl
                    have hF2 : (F == 3) = false := by rw [q]; rfl
                    have hF3 : (F != 4) = true := by rw [q]; rfl
                    have hF4 : (F == 4) = false := by rw [q]; rfl
                    have hF5 : (F != 6) = false := by rw [q]; rfl
                    have hF6 : (F == 6) = true := by rw [q]; rfl
                    have hA : decide (0 ≤ ax) = true := decide_eq_true qa
                    clear q qm qa HRL
                    go_wp2_with fail
                    refine PGR.out.mono ?_
                    rintro e v9 ⟨rfl, hv9⟩
                    obtain rfl := hv9.symm
                    clear hv9
                    go_wp2_with fail
                    refine bodyPost_ret (v := .tuple #[z6, .bool false]) (by simp [results, Tryz.results61, go_sem, c0, c1, c2, c3, c4, c5, z6]) rfl ?_
                    rw [HRE.out]
                    exact HL2.out.fails
                  · have HRE := Lib.hid (HRL.out.1 (.inr qm))
                    have hF1 : (F != 3) = true := by simpa using q
                    have hF2 : (F == 3) = false := by simpa using q
                    have hF3 : (F != 4) = true := by simpa using q4
                    have hF4 : (F == 4) = false := by simpa using q4
                    have hF5 : (F != 6) = true := by simpa using q6
                    have hF6 : (F == 6) = false := by simpa using q6
                    clear q q4 q6 qm HRL
                    go_wp2_with fail
                    refine PGR.out.mono ?_
                    rintro e v9 ⟨rfl, hv9⟩
                    obtain rfl := hv9.symm
                    clear hv9
                    go_wp2_with fail
                    refine bodyPost_ret (v := .tuple #[z6, .bool false]) (by simp [results, Tryz.results61, go_sem, c0, c1, c2, c3, c4, c5, z6]) rfl ?_
                    rw [HRE.out]
                    exact HL2.out.fails
                · have HRE := Lib.hid (HRL.out.1 (.inl (.inr hk3)))
                  have hkk : (cc.k != 3) = true := by simpa using hk3
                  have hkk2 : (cc.k == 3) = false := by simpa using hk3
                  generalize hck : cc.k = ck at *
                  clear HRL hk3 hcat hgr hck d1 d2
                  go_wp2_with fail
                  refine PGR.out.mono ?_
                  rintro e v9 ⟨rfl, hv9⟩
                  obtain rfl := hv9.symm
                  clear hv9
                  go_wp2_with fail
                  refine bodyPost_ret (v := .tuple #[z6, .bool false]) (by simp [results, Tryz.results61, go_sem, c0, c1, c2, c3, c4, c5, z6]) rfl ?_
                  rw [HRE.out]
                  exact HL2.out.fails
theorem rex_any : ∀ n, RxAt n := by
  intro n
  induction n with
  | zero => intro w A m c L _ _ _ _ _ _ h; omega
  | succ n ih => exact rex_step n ih
end Go.Proofs.YthgojbaindejjaaGreatDoor.ps
