/- Package parse: axes, leaves, nodes. Package parse: rows of numbers, trees of leaves, operands. -/
import Derived.Test.YthgojbaindejjaaGreatDoorPsCell
import Derived.Test.YthgojbaindejjaaGreatDoorTreeSteps
import Derived.WalkArith
/- Package parse: axes, leaves, nodes. -/
namespace Go.Proofs.YthgojbaindejjaaGreatDoor.ps
open Go.ChangeShapes Go.WideShapes Go.ChangeAt Go.RowKit Go.Proofs.YthgojbaindejjaaGreatDoor.mem Go.Proofs.YthgojbaindejjaaGreatDoor.lx Go.Proofs.YthgojbaindejjaaGreatDoor.tr
set_option linter.unusedVariables false
set_option linter.unusedSimpArgs false

theorem At.mv_cell {b m1 m2 : Nat} {V V' : World} {L : List Tk} (hA : At b m1 m2 V L) (h : Mv b V V') {g o : Nat} (h1 : g < V.heap.size) (h2 : b < g) : V'.cell? ⟨g, o, none⟩ = V.cell? ⟨g, o, none⟩ := h.cell h1 (by omega)
set_option maxHeartbeats 2000000 in
theorem axis_any {b m1 m2 : Nat} {w : World} {L : List Tk} (F : Int) (may : Bool) (h : At b m1 m2 w L) :
    Calls Tryz.prog 55 #[.pointer (some ⟨b, 0, none⟩), .agg #[.int .i64 F, .bool may]] w (Ans b m1 m2 w ((dAx may L).map fun p => (.int .i64 p.1, p.2))) := by
  obtain ⟨W, hW⟩ : ∃ W, W = w.alloc (.cells #[.int .i64 F, .bool may] 91) := ⟨_, rfl⟩
  obtain ⟨c0, c1, f0, f1, hsz, hbW⟩ := two_cells hW
  have HAW := Lib.hid (h.below hbW)
  have HMW := Lib.hid (Mv.of_below (b := b) hbW)
  have PA := Lib.hid (accept_any gLB (by decide) HAW.out)
  have PN := Lib.hid (fun V R (h : At b m1 m2 V R) => number_any h)
  have PE := Lib.hid (fun V R (h : At b m1 m2 V R) => expect_any gRB (by decide) h)
  have PF := Lib.hid fail_any
  have HW := Lib.hid hW
  clear h hW c0 f0 f1 hsz hbW
  cases may with
  | false =>
    have e0 : dAx false L = some (-1, L) := by unfold dAx; rw [if_neg (fun e => by cases e.1)]
    rw [e0]
    go_enter Tryz.func55, Tryz.ntmps55
    go_upto_region 1 with fail
    rw [← HW.out]
    go_wp2_with fail
    go_ret
    exact ⟨HMW.out, rfl, HAW.out⟩
  | true =>
    by_cases hc : hd L = gLB
    · rw [decide_eq_true hc, if_pos hc] at PA
      have e0 : dAx true L = (match dNum L.tail with
          | none => none
          | some (n, r) => if n < 0 ∨ 16 ≤ n then none else if hd r = gRB then some (n, r.tail) else none) := by
        conv => lhs; unfold dAx
        rw [if_pos ⟨rfl, hc⟩]
        rfl
      rw [e0]
      have PN := Lib.hid (fun V h => PN.out V L.tail h)
      generalize L.tail = R at *
      clear hc e0
      cases hn : dNum R with
      | none =>
        rw [hn] at PN
        clear hn
        go_enter Tryz.func55, Tryz.ntmps55
        go_upto_region 1 with fail
        rw [← HW.out]
        go_wp2_with fail
        refine PA.out.mono ?_
        rintro e w1 ⟨rfl, hm, ha⟩
        have HM := Lib.hid (HMW.out.trans hm)
        have P1 := Lib.hid (PN.out w1 ha)
        clear hm ha
        go_wp2_with fail
        refine P1.out.mono ?_
        rintro e w2 ⟨hm, rfl⟩
        exact ⟨rfl, HM.out.trans hm, rfl⟩
      | some p =>
        obtain ⟨n, R2⟩ := p
        rw [hn] at PN
        clear hn
        simp only [Option.map_some] at PN ⊢
        by_cases hr : n < 0 ∨ 16 ≤ n
        · rw [if_pos hr]
          have hh : (n < 0) ∨ (¬ n < 0 ∧ 16 ≤ n) := by omega
          clear hr
          go_enter Tryz.func55, Tryz.ntmps55
          go_upto_region 1 with fail
          rw [← HW.out]
          go_wp2_with fail
          refine PA.out.mono ?_
          rintro e w1 ⟨rfl, hm, ha⟩
          have HM := Lib.hid (HMW.out.trans hm)
          have P1 := Lib.hid (PN.out w1 ha)
          clear hm ha
          go_wp2_with fail
          refine P1.out.mono ?_
          rintro e w2 ⟨hm, rfl, ha⟩
          have HM2 := Lib.hid (HM.out.trans hm)
          clear hm ha
          rcases hh with hh | ⟨hh, hh2⟩
          all_goals
            go_wp2_with fail
            refine (PF.out _).mono ?_
            rintro e w3 ⟨rfl, rfl⟩
            exact ⟨rfl, HM2.out, rfl⟩
        · rw [if_neg hr]
          have hh : ¬ n < 0 := by omega
          have hh2 : ¬ 16 ≤ n := by omega
          clear hr
          have PE := Lib.hid (fun V h => PE.out V R2 h)
          by_cases hb : hd R2 = gRB
          · rw [if_pos hb] at PE ⊢
            generalize R2.tail = R3 at *
            clear hb
            go_enter Tryz.func55, Tryz.ntmps55
            go_upto_region 1 with fail
            rw [← HW.out]
            go_wp2_with fail
            refine PA.out.mono ?_
            rintro e w1 ⟨rfl, hm, ha⟩
            have HM := Lib.hid (HMW.out.trans hm)
            have P1 := Lib.hid (PN.out w1 ha)
            clear hm ha
            go_wp2_with fail
            refine P1.out.mono ?_
            rintro e w2 ⟨hm, rfl, ha⟩
            have HM2 := Lib.hid (HM.out.trans hm)
            have P2 := Lib.hid (PE.out w2 ha)
            clear hm ha
            go_wp2_with fail
            refine P2.out.mono ?_
            rintro e w3 ⟨hm, rfl, ha⟩
            have HM3 := Lib.hid (HM2.out.trans hm)
            have HA3 := Lib.hid ha
            clear hm ha
            go_wp2_with fail
            go_ret
            exact ⟨HM3.out, rfl, HA3.out⟩
          · rw [if_neg hb] at PE ⊢
            clear hb
            go_enter Tryz.func55, Tryz.ntmps55
            go_upto_region 1 with fail
            rw [← HW.out]
            go_wp2_with fail
            refine PA.out.mono ?_
            rintro e w1 ⟨rfl, hm, ha⟩
            have HM := Lib.hid (HMW.out.trans hm)
            have P1 := Lib.hid (PN.out w1 ha)
            clear hm ha
            go_wp2_with fail
            refine P1.out.mono ?_
            rintro e w2 ⟨hm, rfl, ha⟩
            have HM2 := Lib.hid (HM.out.trans hm)
            have P2 := Lib.hid (PE.out w2 ha)
            clear hm ha
            go_wp2_with fail
            refine P2.out.mono ?_
            rintro e w3 ⟨hm, rfl⟩
            exact ⟨rfl, HM2.out.trans hm, rfl⟩
    · rw [decide_eq_false hc, if_neg hc] at PA
      have e0 : dAx true L = some (-1, L) := by unfold dAx; rw [if_neg (fun e => hc e.2)]
      rw [e0]
      clear hc e0
      go_enter Tryz.func55, Tryz.ntmps55
      go_upto_region 1 with fail
      rw [← HW.out]
      go_wp2_with fail
      refine PA.out.mono ?_
      rintro e w1 ⟨rfl, hm, ha⟩
      have HM := Lib.hid (HMW.out.trans hm)
      have HA := Lib.hid ha
      clear hm ha
      go_wp2_with fail
      go_ret
      exact ⟨HM.out, rfl, HA.out⟩
set_option maxHeartbeats 2000000 in
theorem leaf_any (k f a : Int) (s : ByteArray) (A B : Option Addr) (n c m d : Nat) (w : World) :
    Calls Tryz.prog 74 #[.agg #[.int .i64 k, .int .i64 f, .int .i64 a, .string s, .slice A n c, .slice B m d]] w fun e w' =>
      e = .returned (.agg #[.int .i64 k, .int .i64 f, .int .i64 (-1), .string s, .slice A n c, .slice B m d, .int .i64 1]) ∧ Below w.heap.size w w' := by
  have HB := fun o1 o2 => Lib.hid (Joins.below_alloc2 w o1 o2)
  go_enter Tryz.func74, Tryz.ntmps74
  go_wp2_with fail
  refine bodyPost_ret (v := .agg #[.int .i64 k, .int .i64 f, .int .i64 (-1), .string s, .slice A n c, .slice B m d, .int .i64 1]) (by simp [results, Tryz.results74, go_sem]) rfl ⟨rfl, (HB _ _).out⟩

/-! ### A node of a function with operands -/
theorem rdQL_row {Q : Nat → Prop} {X : World} {g : Nat} (hq : Q g) (hl : g < X.heap.size) : ∀ (L : List Tr) (us : List S6) (i : Nat), us.length = L.length → (∀ j u, (flat6 us)[j]? = some u → X.cell? ⟨g, i * 6 + j, none⟩ = some u) → (∀ (k : Nat) u T, us[k]? = some u → L[k]? = some T → RdQ Q X T u.agg) → RdQL Q X L (some ⟨g, 0, none⟩) i
  | [], _, _, _, _, _ => rdQL_nil
  | T :: r, [], _, h, _, _ => by simp at h
  | T :: r, u :: us, i, h, hc, hr => by
    have ha : ∀ q, (⟨g, 0, none⟩ : Addr).add q = ⟨g, q, none⟩ := fun q => by unfold Addr.add; split <;> simp_all
    have hat : ∀ q v, u.cs[q]? = some v → q < 6 → X.cell? ((⟨g, 0, none⟩ : Addr).add (i * 6 + q)) = some v := fun q v hv hq => by
      rw [ha]
      exact hc q v (by simp only [flat6]; rw [List.getElem?_append_left (by simp [S6.cs]; omega)]; exact hv)
    refine rdQL_cons.2 ⟨⟨⟨g, 0, none⟩, u.c0, u.c1, u.c2, u.c3, u.c4, u.c5, rfl, hq, hl, hat 0 _ rfl (by omega), hat 1 _ rfl (by omega), hat 2 _ rfl (by omega), hat 3 _ rfl (by omega), hat 4 _ rfl (by omega), hat 5 _ rfl (by omega), hr 0 u T rfl rfl⟩, ?_⟩
    refine rdQL_row hq hl r us (i + 1) (by simpa using h) (fun j v hv => ?_) (fun k v V h1 h2 => hr (k + 1) v V (by simpa using h1) (by simpa using h2))
    have := hc (6 + j) v (by simp only [flat6]; rw [List.getElem?_append_right (by simp [S6.cs])]; simpa [S6.cs] using hv)
    rwa [show i * 6 + (6 + j) = (i + 1) * 6 + j by omega] at this
/-- A row of branches: trees with their depths. -/
def RowB (Q : Nat → Prop) (w : World) (ad : Addr) (L : List Tr) : Prop := ∀ k T, L[k]? = some T → ad.block < w.heap.size ∧ ∃ u : S6, RdQ Q w T u.agg ∧
  w.cell? (ad.add (k * 7)) = some u.c0 ∧ w.cell? ⟨(ad.add (k * 7)).block, (ad.add (k * 7)).off + 1, none⟩ = some u.c1 ∧ w.cell? ⟨(ad.add (k * 7)).block, (ad.add (k * 7)).off + 2, none⟩ = some u.c2 ∧
  w.cell? ⟨(ad.add (k * 7)).block, (ad.add (k * 7)).off + 3, none⟩ = some u.c3 ∧ w.cell? ⟨(ad.add (k * 7)).block, (ad.add (k * 7)).off + 4, none⟩ = some u.c4 ∧ w.cell? ⟨(ad.add (k * 7)).block, (ad.add (k * 7)).off + 5, none⟩ = some u.c5 ∧
  w.cell? ⟨(ad.add (k * 7)).block, (ad.add (k * 7)).off + 6, none⟩ = some (.int .i64 (deepT T))
theorem RowB.below {Q : Nat → Prop} {w w' : World} {ad : Addr} {L : List Tr} (h : RowB Q w ad L) (hb : Below w.heap.size w w') : RowB Q w' ad L := fun k T hk => by
  obtain ⟨hl, u, h1, q⟩ := h k T hk
  have hc : ∀ p : Addr, p.block = ad.block → w'.cell? p = w.cell? p := fun p hp => hb.cell (by rw [hp]; exact hl)
  have ha : (ad.add (k * 7)).block = ad.block := blk_add _ _
  refine ⟨Nat.lt_of_lt_of_le hl hb.size, u, h1.below hb, ?_⟩
  simpa only [hc _ ha, hc ⟨(ad.add (k * 7)).block, _, none⟩ ha] using q
theorem deepL_take {L : List Tr} {k : Nat} {T : Tr} (h : L[k]? = some T) : deepL (L.take (k + 1)) = max (deepL (L.take k)) (deepT T) := by
  induction L generalizing k with
  | nil => simp at h
  | cons U r ih =>
    cases k with
    | zero => simp at h; subst h; simp [deepL]
    | succ k =>
      have := ih (by simpa using h)
      rw [List.take_succ_cons, List.take_succ_cons, deepL_cons, deepL_cons, this]; omega
/-- Blocks that lie before B or from n0 on are as they were. -/
structure Gap (B n0 : Nat) (V V' : World) : Prop where
  os : V'.os = V.os
  tape : V'.tape = V.tape
  output : V'.output = V.output
  size : V.heap.size ≤ V'.heap.size
  block : ∀ k, k < V.heap.size → k < B ∨ n0 ≤ k → V'.heap[k]? = V.heap[k]?
theorem Gap.cell {B n0 : Nat} {V V' : World} (h : Gap B n0 V V') {g o : Nat} (h1 : g < V.heap.size) (h2 : g < B ∨ n0 ≤ g) : V'.cell? ⟨g, o, none⟩ = V.cell? ⟨g, o, none⟩ := World.cell?_of_block (a := ⟨g, o, none⟩) (h.block g h1 h2)
theorem Gap.frozen {B n0 : Nat} {V V' : World} (h : Gap B n0 V V') {g o : Nat} (h1 : g < V.heap.size) (h2 : g < B ∨ n0 ≤ g) : V'.frozen? ⟨g, o, none⟩ = V.frozen? ⟨g, o, none⟩ := World.frozen?_of_block (a := ⟨g, o, none⟩) (h.block g h1 h2)
theorem OwnQ_lt {Q : Nat → Prop} {w : World} {B : Nat} {v : Value} {L : List Tr} (h : OwnQ Q w B v L) : ∀ g, v.ownBlock = some g → B ≤ g ∧ g < w.heap.size := by
  obtain ⟨us, _, h1, _⟩ := h
  exact fun g e => World.ownsRow.lt h1 g e
theorem OwnQ_as {Q : Nat → Prop} {w w' : World} {B : Nat} {v : Value} {L : List Tr} (h : OwnQ Q w B v L) (hs : w.heap.size ≤ w'.heap.size) (hq : ∀ b, Q b → b < w.heap.size → w'.heap[b]? = w.heap[b]?) (hv : ∀ g, v.ownBlock = some g → w'.heap[g]? = w.heap[g]?) : OwnQ Q w' B v L := by
  obtain ⟨us, h0, h1, h2⟩ := h
  refine ⟨us, h0, ⟨h1.1, ?_⟩, fun k u T a b => (h2 k u T a b).keep hs (fun ad hqa hl => World.cell?_of_block (hq _ hqa hl)) (fun _ h => h)⟩
  rcases h1.2 with h' | ⟨g, cap, cur, rfl, hb, hg, rest⟩
  · exact .inl h'
  · exact .inr ⟨g, cap, cur, rfl, hb, (hv g rfl).trans hg, rest⟩
theorem wpList_pushQ {Q : Nat → Prop} {V : World} {ops : Array Oper} {rest : List Oper} {o : Oper} {a : Act} {K : Exit → Act → World → Prop} (hgd : o.guard = none) (s x : Operand)
    (ho : o.op = .call { callee := .builtin .append, args := #[s, x], argTypes := #[23, 23] })
    (B n0 : Nat) (P : Option Addr) (k c : Nat) (L : List Tr) (hs : a.eval s = .slice P k c) (hown : OwnQ Q V B (.slice P k c) L) (hn0 : ∀ g, (Value.slice P k c).ownBlock = some g → g < n0) (hQ : ∀ b, Q b → b < B) (hB : B ≤ V.heap.size) (hk : L.length = k) (h40 : k ≤ 1000000) (T : Tr) (u : S6) (hu : RdQ Q V T u.agg) (t : TypeId) (q : Nat) (hx : a.eval x = .slice (some ⟨q, 0, none⟩) 1 1) (hq : q = V.heap.size)
    (h : ∀ P' c' w', OwnQ Q w' B (.slice P' (k + 1) c') (L ++ [T]) → Gap B n0 V w' → wpList Tryz.prog ops K rest (a.put o.dst (.slice P' (k + 1) c')) w') : wpList Tryz.prog ops K (o :: rest) a (V.alloc (.cells #[u.c0, u.c1, u.c2, u.c3, u.c4, u.c5] t)) := by
  subst hq
  have hba := Joins.below_alloc1 V (.cells #[u.c0, u.c1, u.c2, u.c3, u.c4, u.c5] t)
  obtain ⟨v', w', hrun, h2, h3, h4⟩ := run_appendQ (V.alloc (.cells #[u.c0, u.c1, u.c2, u.c3, u.c4, u.c5] t)) o.type B hQ _ L (hown.below hba) _ 1 1 [T] rfl (rowQ_one hu) (fun e => by cases e) (by omega) (by have := hba.size; omega)
  obtain ⟨P', c', rfl, _⟩ := h2.form
  have el : (L ++ [T]).length = k + 1 := by rw [List.length_append, hk]; rfl
  rw [el] at h2 hrun
  have hg : Gap B n0 V w' := ⟨h3.os, h3.tape, h3.output, Nat.le_trans hba.size h3.size, fun i hi hor => (h3.block i (Nat.lt_of_lt_of_le hi hba.size) (fun e => by
    have h5 := OwnQ_lt hown i e.symm
    have h6 := hn0 i e.symm
    omega)).trans (hba.block i hi)⟩
  refine wpList_plain hgd fun K hK => ?_
  unfold Oper.wp execOp
  simp only [ho, resolve, invoke, builtin, Sem.run_bind, Sem.run_pure, Result.andThen_ok, List.map_toArray, List.map_cons, List.map_nil, hs, hx, hrun]
  exact hK _ _ (h P' c' w' h2 hg)
/-- The node's block (n9) while its operands are taken over, and the block of the answer (n8). -/
structure NodeAt (w : World) (B n8 n9 : Nat) (Q : Nat → Prop) (kd F ax : Int) (L : List Tr) (k : Nat) (X : World) : Prop where
  own : ∃ P c, X.cell? ⟨n9, 5, none⟩ = some (.slice P k c) ∧ OwnQ Q X B (.slice P k c) (L.take k)
  c0 : X.cell? ⟨n9, 0, none⟩ = some (.int .i64 kd)
  c1 : X.cell? ⟨n9, 1, none⟩ = some (.int .i64 F)
  c2 : X.cell? ⟨n9, 2, none⟩ = some (.int .i64 ax)
  c3 : X.cell? ⟨n9, 3, none⟩ = some (.string ⟨#[]⟩)
  c4 : X.cell? ⟨n9, 4, none⟩ = some (.slice none 0 0)
  c6 : X.cell? ⟨n9, 6, none⟩ = some (.int .i64 (deepL (L.take k) : Int))
  f : ∀ j, X.frozen? ⟨n9, j, none⟩ = false
  r : X.cell? ⟨n8, 0, none⟩ = some (.int .i64 0) ∧ X.cell? ⟨n8, 1, none⟩ = some (.int .i64 0) ∧ X.cell? ⟨n8, 2, none⟩ = some (.int .i64 0) ∧ X.cell? ⟨n8, 3, none⟩ = some (.string ⟨#[]⟩) ∧ X.cell? ⟨n8, 4, none⟩ = some (.slice none 0 0) ∧ X.cell? ⟨n8, 5, none⟩ = some (.slice none 0 0) ∧ X.cell? ⟨n8, 6, none⟩ = some (.int .i64 0)
  fr : ∀ j, X.frozen? ⟨n8, j, none⟩ = false
  bw : Below w.heap.size w X
  size : B ≤ X.heap.size
theorem one_box7 {w W : World} {x0 x1 x2 x3 x4 x5 x6 : Value} {t : TypeId} (hW : W = w.alloc (.cells #[x0, x1, x2, x3, x4, x5, x6] t)) :
    Below w.heap.size w W ∧ W.heap.size = w.heap.size + 1 ∧ (∀ V, Below W.heap.size W V → (∀ j, V.frozen? ⟨w.heap.size, j, none⟩ = false) ∧
      V.cell? ⟨w.heap.size, 0, none⟩ = some x0 ∧ V.cell? ⟨w.heap.size, 1, none⟩ = some x1 ∧ V.cell? ⟨w.heap.size, 2, none⟩ = some x2 ∧ V.cell? ⟨w.heap.size, 3, none⟩ = some x3 ∧ V.cell? ⟨w.heap.size, 4, none⟩ = some x4 ∧ V.cell? ⟨w.heap.size, 5, none⟩ = some x5 ∧ V.cell? ⟨w.heap.size, 6, none⟩ = some x6) := by
  have hs : W.heap.size = w.heap.size + 1 := by rw [hW]; simp
  have l0 : w.heap.size < W.heap.size := by omega
  refine ⟨by rw [hW]; exact (Below.refl _ w).alloc (Nat.le_refl _) _, hs, fun V h => ⟨fun j => (h.frozen (p := ⟨w.heap.size, j, none⟩) l0).trans (by rw [hW]; simp), ?_⟩⟩
  exact ⟨(h.cell (p := ⟨w.heap.size, 0, none⟩) l0).trans (by rw [hW]; simp), (h.cell (p := ⟨w.heap.size, 1, none⟩) l0).trans (by rw [hW]; simp), (h.cell (p := ⟨w.heap.size, 2, none⟩) l0).trans (by rw [hW]; simp),
    (h.cell (p := ⟨w.heap.size, 3, none⟩) l0).trans (by rw [hW]; simp), (h.cell (p := ⟨w.heap.size, 4, none⟩) l0).trans (by rw [hW]; simp), (h.cell (p := ⟨w.heap.size, 5, none⟩) l0).trans (by rw [hW]; simp), (h.cell (p := ⟨w.heap.size, 6, none⟩) l0).trans (by rw [hW]; simp)⟩
theorem cell_lt {w : World} {a : Addr} {v : Value} (hc : w.cell? a = some v) : a.block < w.heap.size := by
  refine Decidable.byContradiction fun h => ?_
  unfold World.cell? at hc
  rw [Array.getElem?_eq_none (by omega)] at hc
  cases hc
/-- Behind a step that leaves what was there. -/
theorem NodeAt.gap {w : World} {B n8 n9 : Nat} {Q : Nat → Prop} {kd F ax : Int} {L : List Tr} {k : Nat} {X X' : World} (h : NodeAt w B n8 n9 Q kd F ax L k X) (hb : Below X.heap.size X X') : NodeAt w B n8 n9 Q kd F ax L k X' := by
  have lt : ∀ {g o : Nat} {x : Value}, X.cell? ⟨g, o, none⟩ = some x → g < X.heap.size := fun {g o x} h => cell_lt h
  obtain ⟨P, c, o1, o2⟩ := h.own
  have l9 := lt h.c0
  have l8 := lt h.r.1
  have c9 : ∀ j, X'.cell? ⟨n9, j, none⟩ = X.cell? ⟨n9, j, none⟩ := fun j => hb.cell (p := ⟨n9, j, none⟩) l9
  have c8 : ∀ j, X'.cell? ⟨n8, j, none⟩ = X.cell? ⟨n8, j, none⟩ := fun j => hb.cell (p := ⟨n8, j, none⟩) l8
  obtain ⟨r0, r1, r2, r3, r4, r5, r6⟩ := h.r
  exact ⟨⟨P, c, (c9 _).trans o1, o2.below hb⟩, (c9 _).trans h.c0, (c9 _).trans h.c1, (c9 _).trans h.c2, (c9 _).trans h.c3, (c9 _).trans h.c4, (c9 _).trans h.c6, fun j => (hb.frozen (p := ⟨n9, j, none⟩) l9).trans (h.f j),
    ⟨(c8 _).trans r0, (c8 _).trans r1, (c8 _).trans r2, (c8 _).trans r3, (c8 _).trans r4, (c8 _).trans r5, (c8 _).trans r6⟩, fun j => (hb.frozen (p := ⟨n8, j, none⟩) l8).trans (h.fr j), h.bw.trans (hb.mono h.bw.size), Nat.le_trans h.size hb.size⟩
theorem take_snoc {L : List Tr} {k : Nat} {T : Tr} (h : L[k]? = some T) : L.take (k + 1) = L.take k ++ [T] := by
  obtain ⟨hl, rfl⟩ := List.getElem?_eq_some_iff.1 h
  exact List.take_succ_eq_append_getElem hl
theorem set_same {X : World} {g j : Nat} {x y : Value} (h : X.cell? ⟨g, j, none⟩ = some y) : (X.setCell ⟨g, j, none⟩ x).cell? ⟨g, j, none⟩ = some x := World.cell?_setCell_same _ _ _ h
theorem set_other {X : World} {g i j : Nat} {x : Value} (h : i ≠ j) : (X.setCell ⟨g, i, none⟩ x).cell? ⟨g, j, none⟩ = X.cell? ⟨g, j, none⟩ := World.cell?_setCell_other _ _ _ _ (by simp [h])
theorem set_apart {X : World} {g i b j : Nat} {x : Value} (h : g ≠ b) : (X.setCell ⟨g, i, none⟩ x).cell? ⟨b, j, none⟩ = X.cell? ⟨b, j, none⟩ := World.cell?_setCell_far _ _ _ _ h
theorem node_step {w V1 w3 : World} {B n8 n9 nt : Nat} {Q : Nat → Prop} {kd F ax : Int} {L : List Tr} {k : Nat} {P P2 : Option Addr} {cc c2 dk dT : Nat} {T : Tr} {y6 : Value} (hK : NodeAt w B n8 n9 Q kd F ax L k V1) (hg : Gap B nt V1 w3)
    (hb : n8 < B ∧ n9 < B ∧ w.heap.size ≤ n8 ∧ w.heap.size ≤ n9 ∧ n8 ≠ n9) (hQ : ∀ b, Q b → b < w.heap.size) (ho : OwnQ Q w3 B (.slice P2 (k + 1) c2) (L.take k ++ [T])) (hT : L[k]? = some T)
    (j5 : w3.cell? ⟨n9, 5, none⟩ = some (.slice P k cc)) (j6 : w3.cell? ⟨n9, 6, none⟩ = some y6) (hdk : dk = deepL (L.take k)) (hdT : dT = deepT T) :
    NodeAt w B n8 n9 Q kd F ax L (k + 1) ((w3.setCell ⟨n9, 5, none⟩ (.slice P2 (k + 1) c2)).setCell ⟨n9, 6, none⟩ (.int .i64 (if dk < dT then (dT : Int) else (dk : Int)))) := by
  obtain ⟨b8, b9, w8, w9, ne⟩ := hb
  have l9 := cell_lt hK.c0
  have l8 := cell_lt hK.r.1
  have k9 : ∀ j, j ≠ 5 → j ≠ 6 → ((w3.setCell ⟨n9, 5, none⟩ (.slice P2 (k + 1) c2)).setCell ⟨n9, 6, none⟩ (.int .i64 (if dk < dT then (dT : Int) else (dk : Int)))).cell? ⟨n9, j, none⟩ = V1.cell? ⟨n9, j, none⟩ := fun j h5 h6 =>
    ((set_other (Ne.symm h6)).trans (set_other (Ne.symm h5))).trans (hg.cell l9 (.inl b9))
  have k8 : ∀ j, ((w3.setCell ⟨n9, 5, none⟩ (.slice P2 (k + 1) c2)).setCell ⟨n9, 6, none⟩ (.int .i64 (if dk < dT then (dT : Int) else (dk : Int)))).cell? ⟨n8, j, none⟩ = V1.cell? ⟨n8, j, none⟩ := fun j =>
    ((set_apart (Ne.symm ne)).trans (set_apart (Ne.symm ne))).trans (hg.cell l8 (.inl b8))
  have hp : ∀ i, i ≠ n9 → ((w3.setCell ⟨n9, 5, none⟩ (.slice P2 (k + 1) c2)).setCell ⟨n9, 6, none⟩ (.int .i64 (if dk < dT then (dT : Int) else (dk : Int)))).heap[i]? = w3.heap[i]? := fun i hi =>
    (Below.heap_setCell _ _ _ _ hi).trans (Below.heap_setCell _ _ _ _ hi)
  have hs : ((w3.setCell ⟨n9, 5, none⟩ (.slice P2 (k + 1) c2)).setCell ⟨n9, 6, none⟩ (.int .i64 (if dk < dT then (dT : Int) else (dk : Int)))).heap.size = w3.heap.size := by simp [World.setCell]
  obtain ⟨r0, r1, r2, r3, r4, r5, r6⟩ := hK.r
  have ho' := OwnQ_as (w' := (w3.setCell ⟨n9, 5, none⟩ (.slice P2 (k + 1) c2)).setCell ⟨n9, 6, none⟩ (.int .i64 (if dk < dT then (dT : Int) else (dk : Int)))) ho (by rw [hs]; exact Nat.le_refl _) (fun b hq _ => hp b (by have := hQ b hq; omega)) (fun g e => hp g (by have := (OwnQ_lt ho g e).1; omega))
  refine ⟨⟨P2, c2, (set_other (by decide)).trans (set_same j5), by rw [take_snoc hT]; exact ho'⟩, (k9 _ (by decide) (by decide)).trans hK.c0, (k9 _ (by decide) (by decide)).trans hK.c1, (k9 _ (by decide) (by decide)).trans hK.c2, (k9 _ (by decide) (by decide)).trans hK.c3, (k9 _ (by decide) (by decide)).trans hK.c4, ?_,
    fun j => ?_, ⟨(k8 _).trans r0, (k8 _).trans r1, (k8 _).trans r2, (k8 _).trans r3, (k8 _).trans r4, (k8 _).trans r5, (k8 _).trans r6⟩, fun j => ?_, ⟨hg.os.trans hK.bw.os, hg.tape.trans hK.bw.tape, hg.output.trans hK.bw.output, by rw [hs]; exact Nat.le_trans hK.bw.size hg.size, fun i hi => ?_⟩, by rw [hs]; exact Nat.le_trans hK.size hg.size⟩
  · rw [set_same ((set_other (by decide)).trans j6), deepL_take hT, ← hdk, ← hdT]
    congr 2
    split <;> omega
  · rw [World.frozen?_setCell, World.frozen?_setCell]; exact (hg.frozen l9 (.inl b9)).trans (hK.f j)
  · rw [World.frozen?_setCell, World.frozen?_setCell]; exact (hg.frozen l8 (.inl b8)).trans (hK.fr j)
  · exact ((hp i (by omega)).trans (hg.block i (Nat.lt_of_lt_of_le hi hK.bw.size) (.inl (by omega)))).trans (hK.bw.block i hi)
theorem node_done {w X X' : World} {B n8 n9 : Nat} {Q : Nat → Prop} {L : List Tr} {P : Option Addr} {k c : Nat} (ho : OwnQ Q X B (.slice P k c) L) (hb : n8 < B ∧ n9 < B ∧ w.heap.size ≤ n8 ∧ w.heap.size ≤ n9) (hQ : ∀ b, Q b → b < w.heap.size)
    (hs : X'.heap.size = X.heap.size) (hp : ∀ i, i ≠ n8 → i ≠ n9 → X'.heap[i]? = X.heap[i]?) : k ≤ c ∧ (P = none → c = 0) ∧ RdQL (fun b => Q b ∨ w.heap.size ≤ b) X' L P 0 := by
  have hlt := OwnQ_lt ho
  have ho2 := ho
  obtain ⟨A0, c0, e, f1, f2, f3⟩ := ho.form
  injection e with e1 e2 e3
  subst e1; subst e3
  refine ⟨by omega, f3, ?_⟩
  obtain ⟨us, h0, h1, h2⟩ := ho2
  cases L with
  | nil => exact rdQL_nil
  | cons T r =>
    obtain ⟨g, cap, hv, _, hgl⟩ := World.ownsRow.form h1 (by simp)
    have hA : P = some ⟨g, 0, none⟩ := by injection hv
    subst hA
    have hgB := (hlt g (by simp [Value.ownBlock])).1
    have hc : ∀ b j, b ≠ n8 → b ≠ n9 → X'.cell? ⟨b, j, none⟩ = X.cell? ⟨b, j, none⟩ := fun b j h8 h9 => World.cell?_of_block (a := ⟨b, j, none⟩) (hp b h8 h9)
    refine rdQL_row (.inr (by omega)) (by omega) (T :: r) us 0 h0 (fun j u hj => ?_) (fun i u U hu hU => ?_)
    · rw [hc g _ (by omega) (by omega), Nat.zero_mul, Nat.zero_add]
      have := h1.cells (g := g) rfl _ _ hj
      rwa [add_at] at this
    · refine (h2 i u U hu hU).keep (by omega) (fun a hq hl => World.cell?_of_block (hp _ ?_ ?_)) (fun b hq => .inl hq)
      · have := hQ _ hq; omega
      · have := hQ _ hq; omega
set_option maxHeartbeats 4000000 in
theorem apply_any (Q : Nat → Prop) (hdm : Bool) (F kd ax : Int) (ad : Addr) (m c : Nat) (L : List Tr) (w : World) (hQ : ∀ b, Q b → b < w.heap.size) (hL : L.length = m) (hm : m ≤ 2) (hr : RowB Q w ad L) (hd : ∀ T ∈ L, deepT T ≤ 100000) :
    Calls Tryz.prog 56 #[.agg #[.int .i64 F, .bool hdm], .int .i64 kd, .int .i64 ax, .slice (some ad) m c] w fun e w' => ∃ B d,
      e = .returned (.agg #[.int .i64 kd, .int .i64 F, .int .i64 ax, .string ⟨#[]⟩, .slice none 0 0, .slice B m d, .int .i64 (deepL L + 1 : Int)]) ∧ m ≤ d ∧ (B = none → d = 0) ∧ RdQL (fun b => Q b ∨ w.heap.size ≤ b) w' L B 0 ∧ Below w.heap.size w w' := by
  obtain ⟨w1, hw1⟩ : ∃ w1, w1 = w.alloc (.cells #[.int .i64 F, .bool hdm] 91) := ⟨_, rfl⟩
  obtain ⟨w2, hw2⟩ : ∃ w2, w2 = w1.alloc (.cells #[.int .i64 0, .int .i64 0, .int .i64 0, .string ⟨#[]⟩, .slice none 0 0, .slice none 0 0, .int .i64 0] 68) := ⟨_, rfl⟩
  obtain ⟨W, hW⟩ : ∃ W, W = w2.alloc (.cells #[.int .i64 kd, .int .i64 F, .int .i64 ax, .string ⟨#[]⟩, .slice none 0 0, .slice none 0 0, .int .i64 0] 68) := ⟨_, rfl⟩
  obtain ⟨-, -, -, -, s1, b1⟩ := two_cells hw1
  obtain ⟨b2, s2, k2⟩ := one_box7 hw2
  obtain ⟨b3, s3, k3⟩ := one_box7 hW
  have hbW : Below w.heap.size w W := (b1.trans (b2.mono b1.size)).trans (b3.mono (by omega))
  have HW : Hid (W = ((w.alloc (.cells #[.int .i64 F, .bool hdm] 91)).alloc (.cells #[.int .i64 0, .int .i64 0, .int .i64 0, .string ⟨#[]⟩, .slice none 0 0, .slice none 0 0, .int .i64 0] 68)).alloc (.cells #[.int .i64 kd, .int .i64 F, .int .i64 ax, .string ⟨#[]⟩, .slice none 0 0, .slice none 0 0, .int .i64 0] 68)) := Lib.hid (by rw [hW, hw2, hw1])
  obtain ⟨q8, q80, q81, q82, q83, q84, q85, q86⟩ := k2 W b3
  obtain ⟨q9, q90, q91, q92, q93, q94, q95, q96⟩ := k3 W (Below.refl _ _)
  have HN : Hid (NodeAt w W.heap.size w1.heap.size w2.heap.size Q kd F ax L 0 W) := Lib.hid ⟨⟨none, 0, q95, ownQ_nil _ _ _⟩, q90, q91, q92, q93, q94, by rw [q96]; simp [deepL], q9, ⟨q80, q81, q82, q83, q84, q85, q86⟩, q8, hbW, Nat.le_refl _⟩
  have HZ : Hid (w1.heap.size = w.heap.size + 1 ∧ w2.heap.size = w1.heap.size + 1 ∧ W.heap.size = w2.heap.size + 1) := Lib.hid ⟨s1, s2, s3⟩
  have HE : Hid (w.heap.size + 1 = w1.heap.size ∧ w1.heap.size + 1 = w2.heap.size) := Lib.hid ⟨s1.symm, s2.symm⟩
  generalize w1.heap.size = n8 at *
  generalize w2.heap.size = n9 at *
  have HR := Lib.hid (fun X (h : Below w.heap.size w X) => hr.below h)
  have HD := Lib.hid hd
  have HQ := Lib.hid hQ
  have HL := Lib.hid hL
  clear hr hW hw1 hw2 s1 s2 s3 b1 b2 b3 k2 k3 q8 q80 q81 q82 q83 q84 q85 q86 q9 q90 q91 q92 q93 q94 q95 q96 hbW hd hQ hL w1 w2
  go_enter Tryz.func56, Tryz.ntmps56
  go_upto_region 2 with fail
  rw [← HW.out, HE.out.1, HE.out.2]
  go_wp2_with fail
  go_loopw [20] (fun i wr => ∃ k : Nat, k ≤ m ∧ i = .int .i64 k ∧ Hid (NodeAt w W.heap.size n8 n9 Q kd F ax L k wr)) (fun i _ => m - (intOf i).toNat)
  case atStart => exact ⟨0, Nat.zero_le _, rfl, HN⟩
  case round =>
    obtain ⟨k, hk, rfl, HK⟩ := hrel
    have HR1 := Lib.hid (HR.out wr HK.out.bw)
    by_cases hlt : k < m
    · obtain ⟨T, hT⟩ : ∃ T, L[k]? = some T := ⟨_, List.getElem?_eq_getElem (by rw [HL.out]; exact hlt)⟩
      obtain ⟨hal, u, hu, u0, u1, u2, u3, u4, u5, u6⟩ := HR1.out k T hT
      have HT := Lib.hid hT
      have hu' := hu
      rw [show T = .node T.kind T.fn T.axis T.name T.nums T.kids by cases T; rfl, rdQ_node] at hu'
      obtain ⟨A', n', c', B', m', d', h0, -⟩ := hu'
      obtain ⟨v0, v1, v2, v3, v4, v5⟩ := u
      simp only [S6.agg, Value.agg.injEq, Array.mk.injEq, List.cons.injEq, and_true] at h0
      obtain ⟨rfl, rfl, rfl, rfl, rfl, rfl⟩ := h0
      have HU := Lib.hid hu
      simp only [] at u0 u1 u2 u3 u4 u5
      obtain ⟨dT, hdT⟩ : ∃ dT, dT = deepT T := ⟨_, rfl⟩
      rw [← hdT] at u6
      have hdb : dT ≤ 100000 := by rw [hdT]; exact HD.out T (List.mem_of_getElem? hT)
      have HDT := Lib.hid hdT
      generalize T.kind = tk, T.fn = tf, T.axis = ta, T.name = ts at *
      clear hu hT hdT
      go_upto_region 5 with fail
      obtain ⟨V1, hV1⟩ : ∃ V1, V1 = wr.alloc (.cells #[.int .i64 tk, .int .i64 tf, .int .i64 ta, .string ts, .slice A' n' c', .slice B' m' d', .int .i64 dT] 68) := ⟨_, rfl⟩
      obtain ⟨b1, s1, k1⟩ := one_box7 hV1
      rw [← hV1]
      have K1 := HK.out.gap b1
      have hown0 := HK.out.own
      obtain ⟨P0, c0', o10, o20⟩ := hown0
      have hn0 := OwnQ_lt o20
      obtain ⟨P, cc, o1, o2⟩ := K1.own
      have ePc : Value.slice P k cc = Value.slice P0 k c0' := by
        have := (b1.cell (p := ⟨n9, 5, none⟩) (cell_lt o10)).trans o10
        rw [o1] at this
        exact Option.some.inj this
      have hn1 : Hid (∀ gg, (Value.slice P k cc).ownBlock = some gg → gg < wr.heap.size) := Lib.hid (by rw [ePc]; exact fun gg e => (hn0 gg e).2)
      obtain ⟨p0, p1, p2, p3, p4, p5, p6, p7⟩ := k1 V1 (Below.refl _ _)
      have c6 := K1.c6
      have HO := Lib.hid o2
      have HU1 := Lib.hid (HU.out.below b1)
      have HK1 := Lib.hid K1
      have HV := Lib.hid (And.intro s1 (And.intro b1.size (p0 0)))
      have HQ9 := Lib.hid (show ∀ b, Q b → b < W.heap.size from fun b hb => by have := HQ.out b hb; have := HZ.out; omega)
      have HLk := Lib.hid (show (L.take k).length = k by rw [List.length_take, HL.out]; omega)
      have HG1 := Lib.hid k1
      have hk40 : k ≤ 1000000 := by omega
      obtain ⟨dk, hdk⟩ : ∃ dk, dk = deepL (L.take k) := ⟨_, rfl⟩
      rw [← hdk] at c6
      have HDK := Lib.hid hdk
      clear u0 u1 u2 u3 u4 u5 u6 hV1 b1 s1 k1 K1 o10 o20 hn0 ePc o2 hdk p0
      generalize hnt : wr.heap.size = nt at *
      clear hnt
      go_wp2_with (at_builtin; refine wpList_pushQ rfl (.tmp 26) (.tmp 29) (by rfl) W.heap.size nt P k cc (L.take k) (by rfl) HO.out hn1.out HQ9.out (HK1.out.size) HLk.out hk40 T ⟨.int .i64 tk, .int .i64 tf, .int .i64 ta, .string ts, .slice A' n' c', .slice B' m' d'⟩ HU1.out _ _ (by rfl) (by simp) ?_; intro P2 c2 w3 ho3 hg3; have HO3 := Lib.hid ho3; have HG3 := Lib.hid hg3; have l9 := cell_lt HK1.out.c0; have z9 := HZ.out; have j5 := (hg3.cell (g := n9) (o := 5) l9 (by omega)).trans o1; have j6 := (hg3.cell (g := n9) (o := 6) l9 (by omega)).trans c6; have jf5 := (hg3.frozen (g := n9) (o := 5) l9 (by omega)).trans (HK1.out.f 5); have jf6 := (hg3.frozen (g := n9) (o := 6) l9 (by omega)).trans (HK1.out.f 6); have jt := (hg3.cell (g := nt) (o := 6) (by have := HV.out; omega) (by omega)).trans p7; clear o1 c6 p1 p2 p3 p4 p5 p6 p7 ho3 hg3 l9 z9)
      refine ⟨⟨k + 1, by omega, by simp, Lib.hid (node_step HK1.out HG3.out (by have := HZ.out; omega) HQ.out HO3.out HT.out j5 j6 HDK.out HDT.out)⟩, ?_⟩
      simp [intOf]; omega
    · obtain rfl : k = m := by omega
      have hd0 : deepL L ≤ 100000 := by
        have : ∀ l : List Tr, (∀ T ∈ l, deepT T ≤ 100000) → deepL l ≤ 100000 := by
          intro l
          induction l with
          | nil => intro _; simp [deepL]
          | cons T r ih => intro h; rw [deepL_cons]; have h1 := h T (by simp); have h2 := ih (fun U hU => h U (by simp [hU])); omega
        exact this L HD.out
      have etk : L.take k = L := by rw [← HL.out]; exact List.take_length
      obtain ⟨P, cc, o1, o2⟩ := HK.out.own
      obtain ⟨r0, r1, r2, r3, r4, r5, r6⟩ := HK.out.r
      have c0 := HK.out.c0; have c1 := HK.out.c1; have c2 := HK.out.c2; have c3 := HK.out.c3; have c4 := HK.out.c4; have c6 := HK.out.c6
      have f6 := HK.out.f 6
      have g0 := HK.out.fr 0; have g1 := HK.out.fr 1; have g2 := HK.out.fr 2; have g3 := HK.out.fr 3; have g4 := HK.out.fr 4; have g5 := HK.out.fr 5; have g6 := HK.out.fr 6
      rw [etk] at c6 o2
      have HO := Lib.hid o2
      have ne : n9 ≠ n8 := by have := HZ.out; omega
      obtain ⟨dl, hdl⟩ : ∃ dl, dl = deepL L := ⟨_, rfl⟩
      rw [← hdl] at c6 hd0
      have HDL := Lib.hid hdl
      clear o2 hdl etk
      go_wp2_with fail
      obtain ⟨z1, z2, z3⟩ := HZ.out
      have l8 : w.heap.size ≤ n8 := by omega
      have l9 : w.heap.size ≤ n9 := by omega
      have hbel := ((((((((HK.out.bw.setCell (p := ⟨n9, 6, none⟩) l9 (.int .i64 (dl + 1))).setCell (p := ⟨n8, 0, none⟩) l8 (.int .i64 kd)).setCell (p := ⟨n8, 1, none⟩) l8 (.int .i64 F)).setCell (p := ⟨n8, 2, none⟩) l8 (.int .i64 ax)).setCell (p := ⟨n8, 3, none⟩) l8 (.string ⟨#[]⟩)).setCell (p := ⟨n8, 4, none⟩) l8 (.slice none 0 0)).setCell (p := ⟨n8, 5, none⟩) l8 (.slice P k cc)).setCell (p := ⟨n8, 6, none⟩) l8 (.int .i64 (dl + 1)))
      have hfin := node_done (w := w) (n8 := n8) (n9 := n9) (X' := ((((((((wr.setCell ⟨n9, 6, none⟩ (.int .i64 (dl + 1))).setCell ⟨n8, 0, none⟩ (.int .i64 kd)).setCell ⟨n8, 1, none⟩ (.int .i64 F)).setCell ⟨n8, 2, none⟩ (.int .i64 ax)).setCell ⟨n8, 3, none⟩ (.string ⟨#[]⟩)).setCell ⟨n8, 4, none⟩ (.slice none 0 0)).setCell ⟨n8, 5, none⟩ (.slice P k cc)).setCell ⟨n8, 6, none⟩ (.int .i64 (dl + 1)))) HO.out (by omega) HQ.out (by simp [World.setCell])
        (fun i h8 h9 => (((((((Below.heap_setCell _ _ _ _ h8).trans (Below.heap_setCell _ _ _ _ h8)).trans (Below.heap_setCell _ _ _ _ h8)).trans (Below.heap_setCell _ _ _ _ h8)).trans (Below.heap_setCell _ _ _ _ h8)).trans (Below.heap_setCell _ _ _ _ h8)).trans (Below.heap_setCell _ _ _ _ h8)).trans (Below.heap_setCell _ _ _ _ h9))
      refine bodyPost_ret (v := .agg #[.int .i64 kd, .int .i64 F, .int .i64 ax, .string ⟨#[]⟩, .slice none 0 0, .slice P k cc, .int .i64 (dl + 1)]) (by simp [results, Tryz.results56, go_sem, r0, r1, r2, r3, r4, r5, r6]) rfl ⟨P, cc, by rw [HDL.out], hfin.1, hfin.2.1, hfin.2.2, hbel⟩
end Go.Proofs.YthgojbaindejjaaGreatDoor.ps

/- Package parse: rows of numbers, trees of leaves, operands. -/
namespace Go.Proofs.YthgojbaindejjaaGreatDoor.ps
open Go.ChangeShapes Go.WideShapes Go.ChangeAt Go.RowKit Go.Proofs.YthgojbaindejjaaGreatDoor.mem Go.Proofs.YthgojbaindejjaaGreatDoor.lx Go.Proofs.YthgojbaindejjaaGreatDoor.tr
set_option linter.unusedVariables false
set_option linter.unusedSimpArgs false
attribute [local go_sem] tk_kind tk_text tk_num

theorem int64_info : (Tryz.prog.info? 2).map (fun i => (i.zero, i.size, i.bytes)) = some (some (.int .i64 0), 1, 8) := by kernel_rfl
/-- A row of int64 of the call's own. -/
def Own8 (w : World) (B : Nat) (v : Value) (xs : List Int) : Prop := w.ownsRow B 2 1 v xs.length (xs.map (Value.int .i64))
theorem own8_nil (w : World) (B : Nat) : Own8 w B (.slice none 0 0) [] := World.ownsRow_nil w B _ 1
theorem Own8.form {w : World} {B : Nat} {v : Value} {xs : List Int} (h : Own8 w B v xs) : ∃ A c, v = .slice A xs.length c ∧ xs.length ≤ c ∧ c ≤ maxLen ∧ (A = none → c = 0) ∧ (∀ ad, A = some ad → B ≤ ad.block ∧ ad.block < w.heap.size) := by
  rcases h.2 with ⟨rfl, h0⟩ | ⟨g, cap, cur, rfl, hB, hg, hc, hm, _⟩
  · exact ⟨none, 0, by rw [h0], by omega, by unfold maxLen; omega, (fun _ => rfl), (fun ad e => by cases e)⟩
  · exact ⟨_, _, rfl, hc, hm, (fun h => by cases h), (fun ad e => by injection e with e; rw [← e]; exact ⟨hB, (Array.getElem?_eq_some_iff.1 hg).1⟩)⟩
theorem Own8.rd {w : World} {B : Nat} {A : Option Addr} {n c : Nat} {xs : List Int} (h : Own8 w B (.slice A n c) xs) : Rd w A n xs := by
  have hn : n = xs.length := by
    obtain ⟨_, _, e, _⟩ := h.form
    injection e
  subst hn
  refine ⟨rfl, fun k hk => ?_⟩
  obtain ⟨g, cap, hv, _, hlt⟩ := World.ownsRow.form h (by omega)
  have hA : A = some ⟨g, 0, none⟩ := by injection hv
  subst hA
  exact ⟨_, rfl, hlt, h.cells (g := g) rfl k _ (by simp [List.getElem?_eq_getElem hk])⟩
theorem Own8.lt {w : World} {B : Nat} {v : Value} {xs : List Int} (h : Own8 w B v xs) : ∀ g, v.ownBlock = some g → B ≤ g ∧ g < w.heap.size := fun g e => World.ownsRow.lt h g e
theorem Own8.as {w w' : World} {B : Nat} {v : Value} {xs : List Int} (h : Own8 w B v xs) (hv : ∀ g, v.ownBlock = some g → w'.heap[g]? = w.heap[g]?) : Own8 w' B v xs := by
  refine ⟨h.1, ?_⟩
  rcases h.2 with h' | ⟨g, cap, cur, rfl, hb, hg, rest⟩
  · exact .inl h'
  · exact .inr ⟨g, cap, cur, rfl, hb, (hv g rfl).trans hg, rest⟩
theorem own8_one (w : World) (x : Int) : Own8 (w.alloc (.cells #[.int .i64 x] 2)) w.heap.size (.slice (some ⟨w.heap.size, 0, none⟩) 1 1) [x] := by
  have h := World.ownsRow_nil (w.alloc (.cells #[.int .i64 x] 2)) w.heap.size 2 1
  refine ⟨rfl, .inr ⟨w.heap.size, 1, #[.int .i64 x], rfl, Nat.le_refl _, heap_alloc_new w _, by simp, by unfold maxLen; omega, rfl, rfl⟩⟩
theorem rd_one (w : World) (x : Int) (t : TypeId) : Rd (w.alloc (.cells #[.int .i64 x] t)) (some ⟨w.heap.size, 0, none⟩) 1 [x] := by
  have := rd_new w t [x]
  simpa using this
set_option maxRecDepth 20000 in
theorem wpList_push8 {V : World} {ops : Array Oper} {rest : List Oper} {o : Oper} {a : Act} {K : Exit → Act → World → Prop} (hgd : o.guard = none) (s x : Operand)
    (ho : o.op = .call { callee := .builtin .append, args := #[s, x], argTypes := #[22, 22] })
    (B : Nat) (P : Option Addr) (k c : Nat) (xs : List Int) (hs : a.eval s = .slice P k c) (hown : Own8 V B (.slice P k c) xs) (hB : B ≤ V.heap.size) (hk : xs.length = k) (h40 : k ≤ 1000000) (y : Int) (t : TypeId) (q : Nat) (hx : a.eval x = .slice (some ⟨q, 0, none⟩) 1 1) (hq : q = V.heap.size)
    (h : ∀ P' c' w', Own8 w' B (.slice P' (k + 1) c') (xs ++ [y]) → Below B V w' → wpList Tryz.prog ops K rest (a.put o.dst (.slice P' (k + 1) c')) w') : wpList Tryz.prog ops K (o :: rest) a (V.alloc (.cells #[.int .i64 y] t)) := by
  subst hq
  have hba := Joins.below_alloc1 V (.cells #[.int .i64 y] t)
  have hown' : Own8 (V.alloc (.cells #[.int .i64 y] t)) B (.slice P k c) xs := hown.as (fun g e => hba.block g (hown.lt g e).2)
  have hr := rd_one V y t
  obtain ⟨i0, hi0, hz0, hz1, hz2⟩ := info_parts int64_info
  obtain ⟨v', w', hrun, h2, h3, _, h5⟩ := run_append_own_at (P := Tryz.prog) (V.alloc (.cells #[.int .i64 y] t)) B 22 o.type 2 i0 _ 1 8 Tryz.underlying22 hi0 hz0 hz1 hz2 rfl (by omega) _ _ _ hown' ⟨V.heap.size, 0, none⟩ 1 1 [.int .i64 y] (by rfl)
    (fun j u hu => by
      cases j with
      | zero => simp at hu; subst hu; obtain ⟨ad, e, _, hc⟩ := hr.2 0 (by omega); injection e with e; subst e; exact hc
      | succ j => simp at hu)
    (fun u hu => by simp at hu; subst hu; rfl) (by unfold maxLen; omega) (by omega) (by have := hba.size; omega)
  have hw : Own8 w' B v' (xs ++ [y]) := by
    unfold Own8
    rw [List.length_append, List.map_append]
    exact h2
  obtain ⟨P', c', rfl, _⟩ := hw.form
  have el : (xs ++ [y]).length = k + 1 := by rw [List.length_append, hk]; rfl
  rw [el] at hw hrun
  have hg : Below B V w' := ⟨h3.os, h3.tape, h3.output, Nat.le_trans hba.size h3.size, fun i hi => (h3.block i (by have := hba.size; omega) (fun e => by
    have := (hown.lt i e.symm).1
    omega)).trans (hba.block i (by omega))⟩
  refine wpList_plain hgd fun K hK => ?_
  unfold Oper.wp execOp
  simp only [ho, resolve, invoke, builtin, Sem.run_bind, Sem.run_pure, Result.andThen_ok, List.map_toArray, List.map_cons, List.map_nil, hs, hx, hrun]
  exact hK _ _ (h P' c' w' hw hg)

/-! ### Answers of trees -/
def AnsT (b m1 m2 : Nat) (w : World) (r : Option (Tr × List Tk)) (e : Ending) (w' : World) : Prop := Mv b w w' ∧ match r with
  | none => e = .panicked PCH
  | some (T, R) => ∃ u : S6, e = .returned (.agg #[u.c0, u.c1, u.c2, u.c3, u.c4, u.c5, .int .i64 (deepT T)]) ∧ RdQ (fun k => w.heap.size ≤ k) w' T u.agg ∧ At b m1 m2 w' R
theorem At.lo {b m1 m2 B : Nat} {w w' : World} {L : List Tk} (h : At b m1 m2 w L) (hB : b < B) (hb : Below B w w') : At b m1 m2 w' L := by
  obtain ⟨A, n, c, t1, t2, t3, t4, t5, t6⟩ := h.tok
  have n1 := h.ne1
  have n2 := h.ne2
  refine ⟨Nat.lt_of_lt_of_le h.lt hb.size, ⟨A, n, c, (hb.cell (p := ⟨b, 0, none⟩) hB).trans t1, ⟨t2.1, fun k x hk => ?_⟩, t3, t4, t5, t6⟩, (hb.cell (p := ⟨b, 1, none⟩) hB).trans h.mon, (hb.cell (p := ⟨b, 2, none⟩) hB).trans h.dya, (hb.frozen (p := ⟨b, 0, none⟩) hB).trans h.wr, (hb.block m1 (by omega)).trans h.map1, (hb.block m2 (by omega)).trans h.map2, h.ne1, h.ne2, h.ok, h.len⟩
  obtain ⟨ad, e, hl, c1, c2, c3⟩ := t2.2 k x hk
  have hlt := t5 ad e
  have hc : ∀ j, w'.cell? (ad.add j) = w.cell? (ad.add j) := fun j => hb.cell (by rw [blk_add]; omega)
  exact ⟨ad, e, Nat.lt_of_lt_of_le hl hb.size, (hc _).trans c1, (hc _).trans c2, (hc _).trans c3⟩
theorem Mv.lo {b B : Nat} {U V V' : World} (h : Mv b U V) (hB : U.heap.size ≤ B) (hb : Below B V V') : Mv b U V' :=
  ⟨hb.os.trans h.os, hb.tape.trans h.tape, hb.output.trans h.output, Nat.le_trans h.size hb.size, fun k hk hn => (hb.block k (by omega)).trans (h.block k hk hn)⟩
theorem in64_k {x : Int} (h : -9223372036854775808 ≤ x) (h' : x ≤ 9223372036854775807) : In64 x := WalkArith.wf_i64 ⟨h, h'⟩
theorem rd_lit {w : World} {Q : Nat → Prop} {P : Option Addr} {n c : Nat} {ns : List Int} (hr : Rd w P n ns) (hnc : n ≤ c) (hn : n ≤ 65536) (hnil : P = none → c = 0) (hin : ∀ x ∈ ns, -9223372036854775808 ≤ x ∧ x ≤ 9223372036854775807) (hq : ∀ ad, P = some ad → 0 < n → Q ad.block) :
    RdQ Q w (lit ns) (.agg #[.int .i64 1, .int .i64 0, .int .i64 (-1), .string ⟨#[]⟩, .slice P n c, .slice none 0 0]) := by
  unfold lit
  rw [rdQ_node]
  exact ⟨P, n, c, none, 0, 0, rfl, in64_k (by decide) (by decide), in64_k (by decide) (by decide), in64_k (by decide) (by decide), by decide, hr, hnc, by omega, hnil, fun x hx => in64_k (hin x hx).1 (hin x hx).2, rfl, Nat.le_refl _, by omega, fun _ => rfl, hq, rdQL_nil⟩
theorem rd_nm {w : World} {Q : Nat → Prop} {t : List UInt8} (ht : t.length ≤ 65536) : RdQ Q w (.node 2 0 (-1) (txt.strOf t) [] []) (.agg #[.int .i64 2, .int .i64 0, .int .i64 (-1), .string (txt.strOf t), .slice none 0 0, .slice none 0 0]) := by
  rw [rdQ_node]
  exact ⟨none, 0, 0, none, 0, 0, rfl, in64_k (by decide) (by decide), in64_k (by decide) (by decide), in64_k (by decide) (by decide), by rw [txt.strOf_size]; unfold reachBytes; omega, Rd.nil_, Nat.le_refl _, by omega, (fun _ => rfl), (fun x hx => by simp at hx), rfl, Nat.le_refl _, by omega, (fun _ => rfl), (fun ad e _ => by cases e), rdQL_nil⟩
end Go.Proofs.YthgojbaindejjaaGreatDoor.ps
