/- Package tree: the iterator over copies of the nodes (Steps' answer). -/
import Derived.Test.YtbcnilkenkmabaaTreeCopy
import Derived.Shelf.RegionOpen
namespace Go.Proofs.Ytbcnilkenkmabaa.tr
open Go.ChangeShapes Go.WideShapes Go.ChangeAt Go.RowKit Go.Proofs.Ytbcnilkenkmabaa.mem Go.Proofs.Ytbcnilkenkmabaa.sq
set_option linter.unusedVariables false
attribute [local go_sem] Oper.semAt_some

/-- The reading, where every cell that was there is as it was. -/
theorem RdQ.some_ {Q : Nat → Prop} {w w' : World} (hs : w.heap.size ≤ w'.heap.size) (hc : ∀ (a : Addr) x, w.cell? a = some x → w'.cell? a = some x) : ∀ {T : Tr} {v : Value}, RdQ Q w T v → RdQ Q w' T v := by
  intro T
  induction T using Tr.ind with
  | h k f a s ns ks ih =>
    intro v h
    rw [rdQ_node] at h ⊢
    obtain ⟨A, n, c, B, m, d, h0, h1, h2, h3, h4, h5, h6, h7, h8, h9, h10, h11, h12, h13, h15, h14⟩ := h
    have h5' : Rd w' A n ns := ⟨h5.1, fun j hj => by
      obtain ⟨ad, e, hl, hx⟩ := h5.2 j hj
      exact ⟨ad, e, Nat.lt_of_lt_of_le hl hs, hc _ _ hx⟩⟩
    refine ⟨A, n, c, B, m, d, h0, h1, h2, h3, h4, h5', h6, h7, h8, h9, h10, h11, h12, h13, h15, ?_⟩
    clear h0 h1 h2 h3 h4 h5 h5' h6 h7 h8 h9 h10 h11 h12 h13 h15
    generalize 0 = i at h14 ⊢
    induction ks generalizing i with
    | nil => exact rdQL_nil
    | cons T r ihr =>
      rw [rdQL_cons] at h14 ⊢
      obtain ⟨⟨ad, c0, c1, c2, c3, c4, c5, e, hQ, hl, q0, q1, q2, q3, q4, q5, hT⟩, hr⟩ := h14
      exact ⟨⟨ad, c0, c1, c2, c3, c4, c5, e, hQ, Nat.lt_of_lt_of_le hl hs, hc _ _ q0, hc _ _ q1, hc _ _ q2, hc _ _ q3, hc _ _ q4, hc _ _ q5, ih T (by simp) hT⟩, ihr (fun U hU => ih U (by simp [hU])) _ hr⟩

theorem stp_mem : ∀ {T : Tr} {lv : Nat} {x : Nat × Tr}, x ∈ stp lv T → sizeT x.2 ≤ sizeT T := by
  intro T
  induction T using Tr.ind with
  | h k f a s ns ks ih =>
    intro lv x hx
    rw [stp_node] at hx
    rcases List.mem_append.1 hx with hx | hx
    · rw [stpL_flat] at hx
      obtain ⟨y, hy, hxy⟩ := List.mem_flatMap.1 hx
      have h1 := ih y (by simpa using hy) hxy
      obtain ⟨i, hi⟩ := List.mem_iff_getElem?.1 (show y ∈ ks by simpa using hy)
      have h2 := kid_size hi
      rw [size_node]; omega
    · simp at hx; subst hx; exact Nat.le_refl _
/-- What Steps hands out: a tree in memory. -/
def HandS (W : World) (T : Tr) (vs : Array Value) : Prop := ∃ v : Value, vs = #[v] ∧ RdT W T v

/-- How it stands between the nodes. -/
def SI (B0 : Nat) (KT : Nat → Prop) (J : (Nat → Prop) → List Tr → World → Prop) (w1 : World) : (Nat → Prop) → List (Nat × Tr) → World → Prop := fun Ri p X =>
  ∃ R2, (∀ k, R2 k → B0 ≤ k ∧ k < X.heap.size) ∧ (∀ k, Ri k → R2 k) ∧ R2 B0 ∧ J R2 (p.map Prod.snd) X ∧ (∀ q, (KT q ∨ q = B0) → X.heap[q]? = w1.heap[q]?) ∧ w1.heap.size ≤ X.heap.size
def SIx (B0 : Nat) (xs : List Tr) (Jx : (Nat → Prop) → List Tr → World → Prop) : Code → (Nat → Prop) → List (Nat × Tr) → World → Prop := fun c Ri _ X =>
  c = .ret ∧ ∃ R2, (∀ k, R2 k → B0 ≤ k ∧ k < X.heap.size) ∧ (∀ k, Ri k → R2 k) ∧ ∃ p, p <+: xs ∧ Jx R2 p X
theorem grow_bound {B0 : Nat} {R2 Ri Ri' : Nat → Prop} {X C : World} (hbd : ∀ k, R2 k → B0 ≤ k ∧ k < X.heap.size) (hi : ∀ k, Ri k → R2 k) (hg : Grow Ri Ri' X C) (hX : X.heap.size ≤ C.heap.size) (h0 : B0 ≤ X.heap.size) :
    (∀ k, (R2 k ∨ Ri' k) → B0 ≤ k ∧ k < C.heap.size) ∧ Grow R2 (fun k => R2 k ∨ Ri' k) X C := by
  refine ⟨fun k e => ?_, ⟨fun k e => .inl e, fun k e => ?_⟩⟩
  · rcases e with e | e
    · have := hbd k e; omega
    · rcases hg.new k e with e | e
      · have := hbd k (hi k e); omega
      · omega
  · rcases e with e | e
    · exact .inl e
    · exact (hg.new k e).imp (hi k) id
theorem si_bides {B0 : Nat} {KT : Nat → Prop} {J : (Nat → Prop) → List Tr → World → Prop} {w1 : World} (hJ : Bides B0 J) (hK : ∀ q, KT q → q < w1.heap.size) (h0 : B0 < w1.heap.size) : Bides w1.heap.size (SI B0 KT J w1) := by
  rintro Ri Ri' p X C ⟨R2, hbd, hi, hr, hj, hs, hz⟩ ht hgr
  obtain ⟨g1, g2⟩ := grow_bound hbd hi hgr ht.size (by omega)
  refine ⟨_, g1, fun k e => .inr e, .inl hr, hJ _ _ _ _ _ hj (ht.mono (by omega) hi) g2, fun q e => ?_, Nat.le_trans hz ht.size⟩
  have hq : q < w1.heap.size := by
    rcases e with e | rfl
    · exact hK q e
    · exact h0
  rcases ht.block q (by omega) with e' | ⟨e', _⟩
  · exact e'.trans (hs q e)
  · omega
theorem six_bides {B0 : Nat} {xs : List Tr} {Jx : (Nat → Prop) → List Tr → World → Prop} {w1 : World} (hJ : Bides B0 Jx) (h0 : B0 < w1.heap.size) (c : Code) : Bides w1.heap.size (fun Ri p X => SIx B0 xs Jx c Ri p X ∧ w1.heap.size ≤ X.heap.size) := by
  rintro Ri Ri' p X C ⟨⟨hc, R2, hbd, hi, q, hq, hj⟩, hz⟩ ht hgr
  obtain ⟨g1, g2⟩ := grow_bound hbd hi hgr ht.size (by omega)
  exact ⟨⟨hc, _, g1, fun k e => .inr e, q, hq, hJ _ _ _ _ _ hj (ht.mono (by omega) hi) g2⟩, Nat.le_trans hz ht.size⟩

set_option maxHeartbeats 4000000 in
theorem steps_seq (n b : Nat) (T : Tr) (v : Value) (KT : Nat → Prop) (w : World) (hv : Lies6 w b v) (hT : RdQ KT w T v) (hK : ∀ k, KT k → k < w.heap.size) (hd : deepT T ≤ 999) (hz : sizeT T ≤ 1000000) :
    ISeq Fence.wide n Try.prog 35 #[.pointer (some ⟨b, 0, none⟩)] KT HandS (stepsT T) w := by
  intro l J Jx W hW hJ hJx h0 hY
  obtain ⟨c0, c1, c2, c3, c4, c5, rfl, g0, g1, g2, g3, g4, g5⟩ := hv.below hW
  have hTW := hT.below hW
  obtain ⟨w0, hw0⟩ : ∃ w0, w0 = W.alloc (.cells #[.func (.yield l) #[] #[]] 28) := ⟨_, rfl⟩
  have hb0 : Below W.heap.size W w0 := by rw [hw0]; exact (Below.refl _ _).alloc (Nat.le_refl _) _
  have hs0 : w0.heap.size = W.heap.size + 1 := by rw [hw0]; simp
  have hbW := World.block_lt_of_cell? _ _ g0
  have q0 := hb0.cell (p := ⟨b, 0, none⟩) hbW |>.trans g0
  have q1 := hb0.cell (p := ⟨b, 1, none⟩) hbW |>.trans g1
  have q2 := hb0.cell (p := ⟨b, 2, none⟩) hbW |>.trans g2
  have q3 := hb0.cell (p := ⟨b, 3, none⟩) hbW |>.trans g3
  have q4 := hb0.cell (p := ⟨b, 4, none⟩) hbW |>.trans g4
  have q5 := hb0.cell (p := ⟨b, 5, none⟩) hbW |>.trans g5
  have hyb : Boxed w0 W.heap.size 28 (.func (.yield l) #[] #[]) := by rw [hw0]; exact Boxed.new W _ _
  have HT := Lib.hid (hTW.below hb0); have HB0 := Lib.hid hb0; have HS0 := Lib.hid hs0; have HYB := Lib.hid hyb
  have HK := Lib.hid (show ∀ k, KT k → k < W.heap.size from fun k e => by have := hK k e; have := hW.size; omega)
  have HD := Lib.hid hd; have HZ := Lib.hid hz; have HJ := Lib.hid hJ; have HJX := Lib.hid hJx; have HY := Lib.hid hY
  have HJ0 := Lib.hid h0
  clear hW hJ hJx h0 hY hv hT hTW hK hd hz g0 g1 g2 g3 g4 g5 hb0 hs0 hbW hyb
  refine callsIn_wide.2 ((callsIn_wide (n := 3)).1 ?_)
  refine callsIn_of_wp_marks Try.func35 rfl trivial ?_ rfl
  simp only [Try.ntmps35, List.size_toArray, List.length_cons, List.length_nil, Nat.reduceAdd, Nat.reduceSub, Array.replicate_succ, Array.replicate_zero, List.push_toArray, List.append_toArray, List.nil_append, List.cons_append]
  refine wpIn_wide.2 ?_
  go_upto_region 1 with fail
  rw [← hw0]
  clear hw0
  go_wp2_with fail
  refine (nodes_any _ _ _ _ _ _ _).mono ?_
  rintro e w1 ⟨rfl, hb1, hs1, hl1⟩
  have hbw : Below W.heap.size W w1 := HB0.out.trans (hb1.mono HB0.out.size)
  rw [HS0.out] at hl1
  have hseq := nodes_seq (3 - 1) (W.heap.size + 1) _ _ KT w1 hl1 (HT.out.below hb1) (fun q e => by have := HK.out q e; have := hbw.size; omega) HD.out HZ.out
  have HSEQ := Lib.hid hseq; have HS1 := Lib.hid (show w1.heap.size = W.heap.size + 2 by rw [hs1, HS0.out])
  have HY1 := Lib.hid (boxed_below HYB.out hb1)
  have hsi : SI W.heap.size KT J w1 (fun _ => False) [] w1 :=
    ⟨fun k => k = W.heap.size, fun k e => by have := HS1.out; omega, fun k e => e.elim, rfl, HJ.out _ _ _ _ _ HJ0.out (.of_below hbw) ⟨fun k e => e.elim, fun k e => .inr (by have := HS1.out; omega)⟩, fun _ _ => rfl, Nat.le_refl _⟩
  have HSI := Lib.hid hsi
  clear hseq hs1 hl1 hbw hsi hb1 q0 q1 q2 q3 q4 q5 HB0 HYB HJ0
  rw [HS0.out]
  clear HS0
  go_wp2_with fail
  refine (wpIn_wide (n := 3)).1 ?_
  refine wpIn_iterate rfl (fun h => by cases h) (gf := 47) rfl trivial (Hand := HandN KT) (enters_of Try.func47 (by kernel_rfl) rfl) (fun W x vs h => by obtain ⟨v, rfl, _⟩ := h; rfl) HSEQ.out (Below.refl _ _) (fun q e => by have := HK.out q e; have := HS1.out; omega)
    (SI W.heap.size KT J w1) (fun c Ri p X => SIx W.heap.size (stepsT T) Jx c Ri p X ∧ w1.heap.size ≤ X.heap.size) (si_bides HJ.out (fun q e => by have := HK.out q e; have := HS1.out; omega) (by have := HS1.out; omega)) (six_bides HJX.out (by have := HS1.out; omega)) HSI.out ?round ?done ?stop
  case round =>
    rintro l2 Ri p ⟨lv, x⟩ vs C hl1 hl2 hlo hRi ⟨R2, hbd, hi, hr, hj, hs, hz⟩ hpx ⟨vx, rfl, hTx⟩
    dsimp only at hTx
    obtain ⟨k', f', a', s', ns', ks'⟩ := x
    have hTx2 := hTx
    obtain ⟨Ab, nb, cb, Bb, mb, db, rfl, -⟩ := rdQ_node.1 hTx2
    have hsx : sizeT (.node k' f' a' s' ns' ks') ≤ 1000000 := by
      have h1 := stp_mem (List.mem_of_getElem? (pre_last hpx))
      have := HZ.out
      dsimp only at h1
      omega
    have HTX := Lib.hid hTx; have HPX := Lib.hid hpx; have HL := Lib.hid (show w1.heap.size ≤ l2 ∧ l2 < C.heap.size from ⟨hl1, hl2⟩); have HLO := Lib.hid hlo; have HRI := Lib.hid hRi
    have HBD := Lib.hid hbd; have HI := Lib.hid hi; have HR := Lib.hid hr; have HJC := Lib.hid hj; have HS := Lib.hid hs; have HZC := Lib.hid hz; have HSX := Lib.hid hsx
    clear hTx hTx2 hpx hl1 hl2 hlo hRi hbd hi hr hj hs hz hsx
    gi_wp2_with fail
    refine ⟨Spares.of_below ((Below.refl _ _).alloc (Nat.le_refl _) _) (fun q e => by have := HL.out; have := HK.out q e; have := HS1.out; omega) (fun q e => (HRI.out q e).2), fun X hX => ?_⟩
    have hlt := HL.out; have hs1 := HS1.out
    have hCb : Below C.heap.size C (C.alloc (.cells #[.int .i64 k', .int .i64 f', .int .i64 a', .string s', .slice Ab nb cb, .slice Bb mb db] 25)) := (Below.refl _ _).alloc (Nat.le_refl _) _
    have hoth : ∀ q, q < C.heap.size → q ≠ l2 → X.heap[q]? = C.heap[q]? := fun q h1 h2 => heap_round hCb hX h1 h2
    have hyX : X.cell? ⟨W.heap.size, 0, none⟩ = some (.func (.yield l) #[] #[]) := cell_as HY1.out.cell ((hoth _ (by show W.heap.size < _; omega) (by show W.heap.size ≠ l2; omega)).trans (HS.out _ (.inr rfl)))
    have hk0 : X.cell? ⟨C.heap.size, 0, none⟩ = some (.int .i64 k') := cell_out hX (cell_new _ _ _ _ rfl) (by show C.heap.size ≠ l2; omega)
    have hk1 : X.cell? ⟨C.heap.size, 1, none⟩ = some (.int .i64 f') := cell_out hX (cell_new _ _ _ _ rfl) (by show C.heap.size ≠ l2; omega)
    have hk2 : X.cell? ⟨C.heap.size, 2, none⟩ = some (.int .i64 a') := cell_out hX (cell_new _ _ _ _ rfl) (by show C.heap.size ≠ l2; omega)
    have hk3 : X.cell? ⟨C.heap.size, 3, none⟩ = some (.string s') := cell_out hX (cell_new _ _ _ _ rfl) (by show C.heap.size ≠ l2; omega)
    have hk4 : X.cell? ⟨C.heap.size, 4, none⟩ = some (.slice Ab nb cb) := cell_out hX (cell_new _ _ _ _ rfl) (by show C.heap.size ≠ l2; omega)
    have hk5 : X.cell? ⟨C.heap.size, 5, none⟩ = some (.slice Bb mb db) := cell_out hX (cell_new _ _ _ _ rfl) (by show C.heap.size ≠ l2; omega)
    have hsX : C.heap.size + 1 ≤ X.heap.size := by have := hX.size; simp at this; omega
    have hjX : J R2 (p.map Prod.snd) X := HJ.out _ _ _ _ _ HJC.out (turn_round hCb hX HLO.out (by omega)) (Grow.refl _ _ _)
    have hTX : RdT X (.node k' f' a' s' ns' ks') (.agg #[.int .i64 k', .int .i64 f', .int .i64 a', .string s', .slice Ab nb cb, .slice Bb mb db]) := (HTX.out.carry (by omega) (fun q e => hoth q (by have := HK.out q e; omega) (by have := HK.out q e; omega))).rd
    have hpre : p.map Prod.snd ++ [.node k' f' a' s' ns' ks'] <+: stepsT T := by
      obtain ⟨t, ht⟩ := HPX.out
      exact ⟨t.map Prod.snd, by rw [← stp_snd T 1, ← ht]; simp⟩
    have PD : ∀ V, Hid (Below X.heap.size X V) → Hid (Calls Try.prog 36 #[.agg #[.int .i64 k', .int .i64 f', .int .i64 a', .string s', .slice Ab nb cb, .slice Bb mb db]] V fun e V' => ∃ A2 n2 c2 B2 m2 d2, e = .returned (.agg #[.int .i64 k', .int .i64 f', .int .i64 a', .string s', .slice A2 n2 c2, .slice B2 m2 d2]) ∧ Hid (RdT V' (.node k' f' a' s' ns' ks') (.agg #[.int .i64 k', .int .i64 f', .int .i64 a', .string s', .slice A2 n2 c2, .slice B2 m2 d2])) ∧ Hid (Below X.heap.size X V')) := fun V h =>
      Lib.hid ((dup_any _ _ V (hTX.below h.out) HSX.out).mono fun e V' ⟨v, he, hr, hb⟩ => by
        obtain ⟨A2, n2, c2, B2, m2, d2, rfl, -⟩ := rdQ_node.1 hr
        exact ⟨A2, n2, c2, B2, m2, d2, he, Lib.hid hr.rd, Lib.hid (h.out.trans (hb.mono h.out.size))⟩)
    have PY : ∀ V v', Hid (Below X.heap.size X V) → Hid (RdT V (.node k' f' a' s' ns' ks') v') → Hid (YieldAt Fence.wide 0 Try.prog l #[v'] V fun e V' => ∃ b, e = .returned (.bool b) ∧ Hid ((b = true ∧ J R2 ((p ++ [(lv, Tr.node k' f' a' s' ns' ks')]).map Prod.snd) V') ∨ (b = false ∧ Jx R2 (p.map Prod.snd ++ [Tr.node k' f' a' s' ns' ks']) V')) ∧ Hid (Spares W.heap.size KT R2 V V')) := fun V v' hb hr => Lib.hid (by
      obtain ⟨fn, tmps, assign, body, hy, hR⟩ := HY.out R2 _ _ #[v'] V (fun q e => by have := HBD.out q e; have := hb.out.size; omega) (by have := hb.out.size; omega) (HJ.out.below hjX hb.out) hpre ⟨_, rfl, hr.out⟩
      refine yield_wide ⟨fn, tmps, assign, body, hy, hR.mono fun e V' h => ?_⟩
      obtain ⟨h1 | h1, h2⟩ := h
      · exact ⟨true, h1.1, Lib.hid (.inl ⟨rfl, by rw [List.map_append]; exact h1.2⟩), Lib.hid h2⟩
      · exact ⟨false, h1.1, Lib.hid (.inr ⟨rfl, h1.2⟩), Lib.hid h2⟩)
    have KC : ∀ V, Hid (Below X.heap.size X V) → Hid (V.cell? ⟨W.heap.size, 0, none⟩ = some (.func (.yield l) #[] #[]) ∧ (V.cell? ⟨C.heap.size, 0, none⟩ = some (.int .i64 k') ∧ V.cell? ⟨C.heap.size, 1, none⟩ = some (.int .i64 f') ∧ V.cell? ⟨C.heap.size, 2, none⟩ = some (.int .i64 a') ∧ V.cell? ⟨C.heap.size, 3, none⟩ = some (.string s') ∧ V.cell? ⟨C.heap.size, 4, none⟩ = some (.slice Ab nb cb) ∧ V.cell? ⟨C.heap.size, 5, none⟩ = some (.slice Bb mb db))) := fun V h => Lib.hid (by
      have l0 : C.heap.size < X.heap.size := by omega
      exact ⟨(h.out.cell (p := ⟨W.heap.size, 0, none⟩) (by show W.heap.size < _; omega)).trans hyX, (h.out.cell (p := ⟨C.heap.size, 0, none⟩) l0).trans hk0, (h.out.cell (p := ⟨C.heap.size, 1, none⟩) l0).trans hk1, (h.out.cell (p := ⟨C.heap.size, 2, none⟩) l0).trans hk2, (h.out.cell (p := ⟨C.heap.size, 3, none⟩) l0).trans hk3, (h.out.cell (p := ⟨C.heap.size, 4, none⟩) l0).trans hk4, (h.out.cell (p := ⟨C.heap.size, 5, none⟩) l0).trans hk5⟩)
    have HK0 := Lib.hid (Below.refl X.heap.size X)
    have HXO := Lib.hid hoth; have HSZ := Lib.hid hsX; have HXX := Lib.hid hX
    clear hlt hs1 hCb hoth hsX hjX hTX hpre hX
    have hmx : Try.prog.follows .mixedOrders = true := by kernel_rfl
    gi_wp2_with fail
    gi_region_with_o (first
      | (refine call_round (PD _ (by first | assumption | exact Lib.hid (Below.drew HK0.out))).out ?_; rintro e w8 ⟨A2, n2, cc2, B2, m2, d2, rfl, HR8, HK8⟩; obtain ⟨e5, ⟨e60, e61, e62, e63, e64, e65⟩⟩ := (KC _ HK8).out; obtain ⟨fn, tmps, assign, body, hy, hRN⟩ := (PY _ _ HK8 HR8).out; have HRN := Lib.hid hRN; clear hRN)
      | (refine HRN.out.mono ?_; rintro e w9 ⟨bb, rfl, HC9, HS9⟩; clear hy))
    all_goals
      clear e5 e60 e61 e62 e63 e64 e65 hyX hk0 hk1 hk2 hk3 hk4 hk5
      have hsp : Spares w1.heap.size KT Ri X w9 := by
        have h1 := HS1.out; have h2 := HL.out; have h3 := HSZ.out
        exact (Spares.of_below HK8.out (fun q e => by have := HK.out q e; omega) (fun q e => by have := HRI.out q e; omega)).trans (HS9.out.mono (by omega) (fun _ h => h) HI.out)
      have hbd9 : ∀ q, R2 q → W.heap.size ≤ q ∧ q < w9.heap.size := fun q e => by
        have h1 := HBD.out q e; have h2 := HSZ.out; have h3 := HK8.out.size; have h4 := HS9.out.size
        omega
      have hsz9 : w1.heap.size ≤ w9.heap.size := by have h1 := HZC.out; have h2 := HSZ.out; have h3 := HK8.out.size; have h4 := HS9.out.size; omega
      have hsame : ∀ q, (KT q ∨ q = W.heap.size) → w9.heap[q]? = w1.heap[q]? := fun q e => by
        have h1 := HS1.out; have h2 := HL.out; have h3 := HSZ.out
        have hq : q < w1.heap.size := by
          rcases e with e | rfl
          · have := HK.out q e; omega
          · omega
        refine Eq.trans ?_ ((HK8.out.block q (by omega)).trans ((HXO.out q (by omega) (by omega)).trans (HS.out q e)))
        rcases e with e | rfl
        · exact HS9.out.kept q e
        · exact HS9.out.own _ HR.out
      have HSP := Lib.hid hsp; have HBD9 := Lib.hid hbd9; have HSZ9 := Lib.hid hsz9; have HSAME := Lib.hid hsame
      clear hsp hbd9 hsz9 hsame
      cases bb
      · have hj : Jx R2 (p.map Prod.snd ++ [Tr.node k' f' a' s' ns' ks']) w9 := by
          rcases HC9.out with ⟨e, _⟩ | ⟨_, h⟩
          · cases e
          · exact h
        have hp : p.map Prod.snd ++ [Tr.node k' f' a' s' ns' ks'] <+: stepsT T := by
          obtain ⟨t, ht⟩ := HPX.out
          exact ⟨t.map Prod.snd, by rw [← stp_snd T 1, ← ht]; simp⟩
        have HJX9 := Lib.hid hj; have HP := Lib.hid hp
        clear hj hp
        gi_wp2_with fail
        exact ⟨HSP.out, ⟨rfl, R2, HBD9.out, HI.out, _, HP.out, HJX9.out⟩, HSZ9.out⟩
      · have hj : J R2 ((p ++ [(lv, Tr.node k' f' a' s' ns' ks')]).map Prod.snd) w9 := by
          rcases HC9.out with ⟨_, h⟩ | ⟨e, _⟩
          · exact h
          · cases e
        have HJ9 := Lib.hid hj
        clear hj
        gi_wp2_with fail
        exact ⟨HSP.out, R2, HBD9.out, HI.out, HR.out, HJ9.out, HSAME.out, HSZ9.out⟩
  case done =>
    rintro D Ri X hD ⟨R2, hbd, hi, hr, hj, hs, hz⟩ hK
    rw [stp_snd] at hj
    have HJ1 := Lib.hid hj; have HKD := Lib.hid hK; have HD1 := Lib.hid hD
    clear hbd hi hr hj hs hz hK hD
    go_wp2_with fail
    refine ⟨by simp, .inl ⟨_, _, rfl, run_takeDeferred HKD.out, ?_⟩⟩
    exact ⟨_, results_none rfl _ _ _, ⟨_, rfl⟩, .inl ⟨R2, HJ.out.put _ HJ1.out (by have := HD1.out; have := HS1.out; omega) HKD.out rfl⟩⟩
  case stop =>
    rintro D c Ri p X hD _ ⟨⟨rfl, R2, hbd, hi, q, hq, hj⟩, hz⟩ hK
    have HJ1 := Lib.hid hj; have HKD := Lib.hid hK; have HD1 := Lib.hid hD; have HQ := Lib.hid hq
    clear hbd hi hj hz hK hD hq
    gi_wp2_with fail
    refine ⟨by simp, .inl ⟨_, _, rfl, run_takeDeferred HKD.out, ?_⟩⟩
    exact ⟨_, results_none rfl _ _ _, ⟨_, rfl⟩, .inr ⟨R2, q, HQ.out, HJX.out.put _ HJ1.out (by have := HD1.out; have := HS1.out; omega) HKD.out rfl⟩⟩
end Go.Proofs.Ytbcnilkenkmabaa.tr
