/- Package tree: visit, the recursion within the iterator over the nodes (a closure that calls itself, with a loop over an iterator in it). -/
import Derived.Test.YtbcnilkenkmabaaTreeStp
import Derived.Deep.CutBlock
namespace Go.Proofs.Ytbcnilkenkmabaa.tr
open Go.ChangeShapes Go.WideShapes Go.ChangeAt Go.RowKit Go.Proofs.Ytbcnilkenkmabaa.mem Go.Proofs.Ytbcnilkenkmabaa.sq
set_option linter.unusedVariables false
attribute [local go_sem] Oper.semAt_some

def vfun (b1 b2 b3 : Nat) : Value := .func (.func 48) #[] #[.pointer (some ⟨b1, 0, none⟩), .pointer (some ⟨b2, 0, none⟩), .pointer (some ⟨b3, 0, none⟩)]

/-- How the world stands where visit is called. -/
structure Vst (B0 l b1 b2 b3 : Nat) (J : (Nat → Prop) → List (Nat × Tr) → World → Prop) (R : Nat → Prop) (pre : List (Nat × Tr)) (m : Nat) (A : World) : Prop where
  bound : ∀ k, R k → B0 ≤ k ∧ k < A.heap.size
  size : B0 ≤ A.heap.size
  r1 : R b1
  r2 : R b2
  r3 : R b3
  n1 : b1 ≠ b2
  n3 : b3 ≠ b2
  c1 : A.cell? ⟨b1, 0, none⟩ = some (vfun b1 b2 b3)
  c3 : A.cell? ⟨b3, 0, none⟩ = some (.func (.yield l) #[] #[])
  c2 : Boxed A b2 3 (.int .i64 (m : Int))
  inv : J R pre A

def VPost (B0 b2 : Nat) (Keep : Nat → Prop) (J Jx : (Nat → Prop) → List (Nat × Tr) → World → Prop) (xs : List (Nat × Tr)) (R : Nat → Prop) (pre evs : List (Nat × Tr)) (m : Nat) (A : World) : Ending → World → Prop := fun e W' =>
  ∃ R', Grow R R' A W' ∧ Spares B0 (fun k => (R k ∨ Keep k) ∧ k ≠ b2) (fun _ => False) A W' ∧
    ((e = .returned (.bool true) ∧ J R' (pre ++ evs) W' ∧ Boxed W' b2 3 (.int .i64 ((m + evs.length : Nat) : Int))) ∨ (e = .returned (.bool false) ∧ ∃ p, p <+: xs ∧ Jx R' p W'))

/-- How it stands between the kids. -/
def VI (B0 b2 : Nat) (Keep : Nat → Prop) (J : (Nat → Prop) → List (Nat × Tr) → World → Prop) (R1 : Nat → Prop) (pre : List (Nat × Tr)) (m lv : Nat) (w1 : World) : (Nat → Prop) → List Tr → World → Prop := fun Ri p X =>
  ∃ R2, Grow R1 R2 w1 X ∧ (∀ k, Ri k → R2 k) ∧ (∀ k, R2 k → B0 ≤ k ∧ k < X.heap.size) ∧ J R2 (pre ++ p.flatMap (stp lv)) X ∧ Spares B0 (fun k => (R1 k ∨ Keep k) ∧ k ≠ b2) (fun _ => False) w1 X ∧ Boxed X b2 3 (.int .i64 ((m + (p.flatMap (stp lv)).length : Nat) : Int))
/-- .. and where it was left. -/
def VIx (B0 b2 b7 : Nat) (Keep : Nat → Prop) (Jx : (Nat → Prop) → List (Nat × Tr) → World → Prop) (xs : List (Nat × Tr)) (R1 : Nat → Prop) (w1 : World) : Code → (Nat → Prop) → List Tr → World → Prop := fun c Ri _ X =>
  c = .ret ∧ ∃ R2, Grow R1 R2 w1 X ∧ (∀ k, Ri k → R2 k) ∧ (∀ k, R2 k → B0 ≤ k ∧ k < X.heap.size) ∧ (∃ p, p <+: xs ∧ Jx R2 p X) ∧ Spares B0 (fun k => (R1 k ∨ Keep k) ∧ k ≠ b2 ∧ k ≠ b7) (fun _ => False) w1 X ∧ Boxed X b7 4 (.bool false)

theorem grow_or {R1 R2 Ri Ri' : Nat → Prop} {w1 X C : World} (h : Grow R1 R2 w1 X) (hi : ∀ k, Ri k → R2 k) (hg : Grow Ri Ri' X C) (hs : w1.heap.size ≤ X.heap.size) (hX : X.heap.size ≤ C.heap.size) : Grow R1 (fun k => R2 k ∨ Ri' k) w1 C ∧ Grow R2 (fun k => R2 k ∨ Ri' k) X C := by
  refine ⟨⟨fun k e => .inl (h.sub k e), fun k e => ?_⟩, ⟨fun k e => .inl e, fun k e => ?_⟩⟩
  · rcases e with e | e
    · exact (h.new k e).imp id fun e => ⟨e.1, by omega⟩
    · rcases hg.new k e with e | e
      · exact (h.new k (hi k e)).imp id fun e => ⟨e.1, by omega⟩
      · exact .inr ⟨by omega, e.2⟩
  · rcases e with e | e
    · exact .inl e
    · exact (hg.new k e).imp (hi k) id
theorem vi_bides {B0 b2 : Nat} {Keep : Nat → Prop} {J : (Nat → Prop) → List (Nat × Tr) → World → Prop} {R1 : Nat → Prop} {pre : List (Nat × Tr)} {m lv : Nat} {w1 : World} (hJ : Bides B0 J) (h1 : ∀ k, R1 k → k < w1.heap.size) (h2 : ∀ k, Keep k → k < w1.heap.size) (h0 : B0 ≤ w1.heap.size) (hb : R1 b2) :
    Bides w1.heap.size (VI B0 b2 Keep J R1 pre m lv w1) := by
  rintro Ri Ri' p X C ⟨R2, hg, hi, hbd, hj, hs, hc⟩ ht hgr
  have hX := hs.size
  obtain ⟨g1, g2⟩ := grow_or hg hi hgr hX ht.size
  have hb2 := h1 _ hb
  refine ⟨_, g1, fun k e => .inr e, fun k e => ?_, hJ _ _ _ _ _ hj (ht.mono h0 hi) g2, spares_turn hs ht (fun k e => ?_) (Nat.le_refl _), boxed_as hc ?_⟩
  · rcases g2.new k e with e | e
    · have := hbd k e; have := ht.size; omega
    · omega
  · rcases e.1 with e | e
    · exact ⟨h1 k e, h1 k e⟩
    · exact ⟨h2 k e, h2 k e⟩
  · rcases ht.block b2 (by omega) with e | ⟨e, _⟩
    · exact e
    · omega
theorem vix_bides {B0 b2 b7 : Nat} {Keep : Nat → Prop} {Jx : (Nat → Prop) → List (Nat × Tr) → World → Prop} {xs : List (Nat × Tr)} {R1 : Nat → Prop} {w1 : World} (hJ : Bides B0 Jx) (h1 : ∀ k, R1 k → k < w1.heap.size) (h2 : ∀ k, Keep k → k < w1.heap.size) (h0 : B0 ≤ w1.heap.size) (hb : R1 b7) (c : Code) :
    Bides w1.heap.size (VIx B0 b2 b7 Keep Jx xs R1 w1 c) := by
  rintro Ri Ri' p X C ⟨hc0, R2, hg, hi, hbd, ⟨q, hq, hj⟩, hs, hc⟩ ht hgr
  have hX := hs.size
  obtain ⟨g1, g2⟩ := grow_or hg hi hgr hX ht.size
  have hb2 := h1 _ hb
  refine ⟨hc0, _, g1, fun k e => .inr e, fun k e => ?_, ⟨q, hq, hJ _ _ _ _ _ hj (ht.mono h0 hi) g2⟩, spares_turn hs ht (fun k e => ?_) (Nat.le_refl _), boxed_as hc ?_⟩
  · rcases g2.new k e with e | e
    · have := hbd k e; have := ht.size; omega
    · omega
  · rcases e.1 with e | e
    · exact ⟨h1 k e, h1 k e⟩
    · exact ⟨h2 k e, h2 k e⟩
  · rcases ht.block b7 (by omega) with e | ⟨e, _⟩
    · exact e
    · omega
theorem call_round {n l : Nat} {P : Program} {f : FuncId} {args : Array Value} {w : World} {R R' : Ending → World → Prop} (h : Calls P f args w R) (hr : ∀ e w', R e w' → R' e w') :
    Fence.wide.fn f ∧ CallsIn (Fence.wide.inRound l) n P f args w R' := ⟨trivial, CallsIn.inRound l ((callsIn_wide.2 h).mono hr)⟩
theorem mem_rev {ks p : List Tr} {x : Tr} (h : p ++ [x] <+: ks.reverse) : x ∈ ks := by
  obtain ⟨t, ht⟩ := h
  have : x ∈ ks.reverse := by rw [← ht]; simp
  simpa using this
theorem flat_pre {ks p : List Tr} {x : Tr} {lv : Nat} {pre xs : List (Nat × Tr)} {y : Nat × Tr} (h : p ++ [x] <+: ks.reverse) (hx : pre ++ (stpL lv ks ++ [y]) <+: xs) : pre ++ p.flatMap (stp lv) ++ stp lv x <+: xs := by
  obtain ⟨t, ht⟩ := h
  obtain ⟨u, hu⟩ := hx
  refine ⟨t.flatMap (stp lv) ++ [y] ++ u, ?_⟩
  rw [← hu, stpL_flat, ← ht]
  simp [List.flatMap_append, List.append_assoc]
theorem flat_len {ks p : List Tr} {x : Tr} {lv : Nat} (h : p ++ [x] <+: ks.reverse) : (p.flatMap (stp lv)).length + sizeT x ≤ sizeL ks := by
  obtain ⟨t, ht⟩ := h
  have h1 := stpL_len ks lv
  rw [stpL_flat, ← ht] at h1
  rw [List.flatMap_append, List.flatMap_append, List.length_append, List.length_append, List.flatMap_cons, List.flatMap_nil, List.append_nil, stp_len] at h1
  omega

set_option maxHeartbeats 8000000 in
theorem visit_any {B0 l : Nat} {Keep : Nat → Prop} {xs : List (Nat × Tr)} {J Jx : (Nat → Prop) → List (Nat × Tr) → World → Prop} (hC : Caller B0 Keep xs l J Jx) (b1 b2 b3 : Nat) :
    ∀ (T : Tr) (lv m : Nat) (z : Int) (v : Value) (R : Nat → Prop) (pre : List (Nat × Tr)) (A : World), z = (lv : Int) → lv + deepT T ≤ 1000 → m + sizeT T ≤ 1000000 → Vst B0 l b1 b2 b3 J R pre m A → RdQ Keep A T v → pre ++ stp lv T <+: xs →
      Calls Try.prog 48 #[.int .i64 z, v, .pointer (some ⟨b1, 0, none⟩), .pointer (some ⟨b2, 0, none⟩), .pointer (some ⟨b3, 0, none⟩)] A (VPost B0 b2 Keep J Jx xs R pre (stp lv T) m A) := by
  intro T
  induction T using Tr.ind with
  | h k f a s ns ks ih =>
  intro lv m z v R pre A hz hlv hm hV hT hpre
  have hT0 := hT
  obtain ⟨Aa, na, ca, B, mm, d, rfl, -, -, -, -, -, -, -, -, -, hml, hmd, hdd, -, -, hks⟩ := rdQ_node.1 hT
  have hz0 : 0 ≤ z := by omega
  have hz1 : z ≤ 1000 := by omega
  have hdk := deep_node k f a s ns ks
  have hsk := size_node k f a s ns ks
  obtain ⟨w0, hw0⟩ : ∃ w0, w0 = ((A.alloc (.cells #[.int .i64 z] 3)).alloc (.cells #[.int .i64 k, .int .i64 f, .int .i64 a, .string s, .slice Aa na ca, .slice B mm d] 25)).alloc (.cells #[.bool false] 4) := ⟨_, rfl⟩
  have hb0 : Below A.heap.size A w0 := by rw [hw0]; exact (((Below.refl _ A).alloc (Nat.le_refl _) _).alloc (by simp) _).alloc (by simp; omega) _
  have hs0 : w0.heap.size = A.heap.size + 3 := by rw [hw0]; simp
  have hL0 : w0.cell? ⟨A.heap.size, 0, none⟩ = some (.int .i64 z) := by rw [hw0]; exact cell_old (cell_old (cell_new _ _ _ _ rfl))
  have hN0 : w0.cell? ⟨A.heap.size + 1, 0, none⟩ = some (.int .i64 k) := by rw [hw0]; exact cell_old (cell_new1 _ _ _ _ _ rfl)
  have hN1 : w0.cell? ⟨A.heap.size + 1, 1, none⟩ = some (.int .i64 f) := by rw [hw0]; exact cell_old (cell_new1 _ _ _ _ _ rfl)
  have hN2 : w0.cell? ⟨A.heap.size + 1, 2, none⟩ = some (.int .i64 a) := by rw [hw0]; exact cell_old (cell_new1 _ _ _ _ _ rfl)
  have hN3 : w0.cell? ⟨A.heap.size + 1, 3, none⟩ = some (.string s) := by rw [hw0]; exact cell_old (cell_new1 _ _ _ _ _ rfl)
  have hN4 : w0.cell? ⟨A.heap.size + 1, 4, none⟩ = some (.slice Aa na ca) := by rw [hw0]; exact cell_old (cell_new1 _ _ _ _ _ rfl)
  have hN5 : w0.cell? ⟨A.heap.size + 1, 5, none⟩ = some (.slice B mm d) := by rw [hw0]; exact cell_old (cell_new1 _ _ _ _ _ rfl)
  have hB7 : Boxed w0 (A.heap.size + 1 + 1) 4 (.bool false) := by
    have := Boxed.new ((A.alloc (.cells #[.int .i64 z] 3)).alloc (.cells #[.int .i64 k, .int .i64 f, .int .i64 a, .string s, .slice Aa na ca, .slice B mm d] 25)) 4 (.bool false)
    rw [World.size_alloc, World.size_alloc] at this
    rw [hw0]; exact this
  have HZ := Lib.hid hz; have HLV := Lib.hid hlv; have HM := Lib.hid hm; have HV := Lib.hid hV; have HT := Lib.hid hT0; have HPRE := Lib.hid hpre
  have HKS := Lib.hid hks; have HML := Lib.hid hml; have HDK := Lib.hid hdk; have HSK := Lib.hid hsk
  have HB0 := Lib.hid hb0; have HS0 := Lib.hid hs0; have HL0 := Lib.hid hL0; have HN0 := Lib.hid hN0; have HN1 := Lib.hid hN1; have HN2 := Lib.hid hN2; have HN3 := Lib.hid hN3; have HN4 := Lib.hid hN4; have HN5 := Lib.hid hN5; have HB7 := Lib.hid hB7
  have HMD := Lib.hid hdd
  clear hz hlv hm hV hT hT0 hpre hks hml hdk hsk hb0 hs0 hN0 hN1 hN2 hN3 hN4 hB7 hmd hdd
  refine (callsIn_wide (n := 3)).1 ?_
  refine callsIn_of_wp_marks Try.func48 rfl trivial ?_ rfl
  simp only [Try.ntmps48, List.size_toArray, List.length_cons, List.length_nil, Nat.reduceAdd, Nat.reduceSub, Array.replicate_succ, Array.replicate_zero, List.push_toArray, List.append_toArray, List.nil_append, List.cons_append]
  refine wpIn_wide.2 ?_
  go_upto_region 1 with fail
  rw [← hw0]
  clear hw0
  go_wp2_with fail
  refine (backward_any _ _ _ _).mono ?_
  rintro e w1 ⟨rfl, hb1, hs1, hcS⟩
  have hV := HV.out
  have hbd := hV.bound
  obtain ⟨R1, hR1⟩ : ∃ R1 : Nat → Prop, R1 = fun q => R q ∨ (A.heap.size ≤ q ∧ q < w1.heap.size) := ⟨_, rfl⟩
  have hs01 : w1.heap.size = A.heap.size + 4 := by rw [hs1, HS0.out]
  have hA1 : Below A.heap.size A w1 := HB0.out.trans (hb1.mono (by rw [HS0.out]; omega))
  have hR1b : ∀ q, R1 q → B0 ≤ q ∧ q < w1.heap.size := fun q e => by
    rw [hR1] at e
    rcases e with e | e
    · have := hbd q e; omega
    · have := hV.size; omega
  have hR1s : ∀ q, R q → R1 q := fun q e => by rw [hR1]; exact .inl e
  have hR1n : ∀ q, A.heap.size ≤ q → q < w1.heap.size → R1 q := fun q e1 e2 => by rw [hR1]; exact .inr ⟨e1, e2⟩
  have hg1 : Grow R R1 A w1 := ⟨hR1s, fun q e => by rw [hR1] at e; exact e.imp id fun e => ⟨e.1, e.2⟩⟩
  have hj1 : J R1 pre w1 := hC.hJ R R1 _ _ _ hV.inv (.of_below hA1) hg1
  have hKw : ∀ q, Keep q → q < w1.heap.size := fun q e => by have := hC.keep q e; have := hV.size; omega
  have hks1 := RdQL.carry HKS.out (by omega) (fun q e => hA1.block q (by have := hC.keep q e; have := hV.size; omega))
  have hseq := back_seq (3 - 1) (A.heap.size + 3) B mm d ks Keep (fun q => Keep q ∨ q = A.heap.size + 3) w1 (by rw [HS0.out] at hcS; exact hcS) (.inr rfl) (fun q e => .inl e) hks1 HML.out HMD.out (fun q e => by
    rcases e with e | rfl
    · exact hKw q e
    · omega)
  have hC0 : Boxed w1 b2 3 (.int .i64 (m : Int)) := boxed_below hV.c2 hA1
  have h0 : VI B0 b2 Keep J R1 pre m (lv + 1) w1 (fun _ => False) [] w1 :=
    ⟨R1, Grow.refl _ _ _, fun _ e => e.elim, hR1b, by rw [List.flatMap_nil, List.append_nil]; exact hj1, Spares.refl _, hC0⟩
  have HG1 := Lib.hid hg1; have HSEQ := Lib.hid hseq; have HVI := Lib.hid h0; have HR1b := Lib.hid hR1b; have HR1s := Lib.hid hR1s; have HR1n := Lib.hid hR1n; have HKW := Lib.hid hKw; have HA1 := Lib.hid hA1; have HS1 := Lib.hid hs01
  have HL1 := Lib.hid ((hb1.cell (p := ⟨A.heap.size, 0, none⟩) (by show A.heap.size < _; rw [HS0.out]; omega)).trans HL0.out)
  have HM1 := Lib.hid (show w1.cell? ⟨A.heap.size + 1, 0, none⟩ = some (.int .i64 k) ∧ w1.cell? ⟨A.heap.size + 1, 1, none⟩ = some (.int .i64 f) ∧ w1.cell? ⟨A.heap.size + 1, 2, none⟩ = some (.int .i64 a) ∧ w1.cell? ⟨A.heap.size + 1, 3, none⟩ = some (.string s) ∧ w1.cell? ⟨A.heap.size + 1, 4, none⟩ = some (.slice Aa na ca) ∧ w1.cell? ⟨A.heap.size + 1, 5, none⟩ = some (.slice B mm d) from by
    have hlt : A.heap.size + 1 < w0.heap.size := by rw [HS0.out]; omega
    exact ⟨(hb1.cell (p := ⟨A.heap.size + 1, 0, none⟩) hlt).trans HN0.out, (hb1.cell (p := ⟨A.heap.size + 1, 1, none⟩) hlt).trans HN1.out, (hb1.cell (p := ⟨A.heap.size + 1, 2, none⟩) hlt).trans HN2.out,
      (hb1.cell (p := ⟨A.heap.size + 1, 3, none⟩) hlt).trans HN3.out, (hb1.cell (p := ⟨A.heap.size + 1, 4, none⟩) hlt).trans HN4.out, (hb1.cell (p := ⟨A.heap.size + 1, 5, none⟩) hlt).trans HN5.out⟩)
  have HB17 := Lib.hid (boxed_below HB7.out hb1)
  clear hV hbd hs01 hA1 hR1b hR1s hR1n hg1 hj1 hKw hks1 hseq hC0 h0 hb1 hs1 hcS hR1 hL0 hN5 HB0 HL0 HN0 HN1 HN2 HN3 HN4 HN5 HB7 HKS
  rw [HS0.out]
  clear HS0
  go_wp2_with fail
  refine (wpIn_wide (n := 3)).1 ?_
  refine wpIn_iterate rfl (fun h => by cases h) (gf := 57) rfl trivial (enters_of Try.func57 (by kernel_rfl) rfl) (fun W x vs h => by obtain ⟨i, v, rfl, _⟩ := h; rfl) HSEQ.out (Below.refl _ _)
    (fun q e => by
      rcases e with e | rfl
      · exact HKW.out q e
      · have := HS1.out; omega)
    (VI B0 b2 Keep J R1 pre m (lv + 1) w1) (VIx B0 b2 (A.heap.size + 1 + 1) Keep Jx xs R1 w1)
    (vi_bides hC.hJ (fun q e => (HR1b.out q e).2) HKW.out (by have := HV.out.size; have := HS1.out; omega) (HR1s.out _ HV.out.r2))
    (vix_bides hC.hJx (fun q e => (HR1b.out q e).2) HKW.out (by have := HV.out.size; have := HS1.out; omega) (HR1n.out _ (by omega) (by have := HS1.out; omega))) HVI.out ?round ?done ?stop
  case round =>
    rintro l2 Ri p x vs C hl1 hl2 hlo hRi ⟨R2, hg2, hsub, hbd2, hj2, hs2, hbx2⟩ hpx ⟨i, vx, rfl, hTx⟩
    have hTy : RdQ Keep C x vx := hTx
    have hxm := mem_rev hpx
    have hTz := hTx
    obtain ⟨k', f', a', s', ns', ks'⟩ := x
    obtain ⟨Ab, nb, cb, Bb, mb, db, rfl, -⟩ := rdQ_node.1 hTz
    have HTY := Lib.hid hTy; have HXM := Lib.hid hxm; have HPX := Lib.hid hpx
    have HG2 := Lib.hid hg2; have HSUB := Lib.hid hsub; have HBD2 := Lib.hid hbd2; have HJ2 := Lib.hid hj2; have HS2 := Lib.hid hs2; have HBX2 := Lib.hid hbx2
    have HL := Lib.hid (show w1.heap.size ≤ l2 ∧ l2 < C.heap.size from ⟨hl1, hl2⟩); have HLO := Lib.hid hlo; have HRI := Lib.hid hRi
    clear hTx hTy hTz hxm hpx hg2 hsub hbd2 hj2 hs2 hbx2 hl1 hl2 hlo hRi
    gi_wp2_with fail
    refine ⟨Spares.of_below ((Below.refl _ _).alloc (Nat.le_refl _) _) (fun q e => ?_) (fun q e => (HRI.out q e).2), fun W hW => ?_⟩
    · have := HL.out; have := HS1.out
      rcases e with e | rfl
      · have := HKW.out q e; omega
      · omega
    have hV := HV.out
    have hlt := HL.out; have hs1 := HS1.out
    have hCb : Below C.heap.size C (C.alloc (.cells #[.int .i64 k', .int .i64 f', .int .i64 a', .string s', .slice Ab nb cb, .slice Bb mb db] 25)) := (Below.refl _ _).alloc (Nat.le_refl _) _
    have hold : ∀ q, (R1 q ∨ Keep q) ∧ q ≠ b2 → W.heap[q]? = w1.heap[q]? := fun q e => by
      have hq : q < w1.heap.size := e.1.elim (fun e1 => (HR1b.out q e1).2) (fun e1 => HKW.out q e1)
      exact (heap_round hCb hW (by omega) (by omega)).trans (HS2.out.kept q e)
    have hA : ∀ q, q < A.heap.size → w1.heap[q]? = A.heap[q]? := fun q e => HA1.out.block q e
    have hb2 := hV.bound b2 hV.r2
    have hc1 : W.cell? ⟨b1, 0, none⟩ = some (vfun b1 b2 b3) := cell_as hV.c1 ((hold b1 ⟨.inl (HR1s.out _ hV.r1), hV.n1⟩).trans (hA b1 (hV.bound b1 hV.r1).2))
    have hc3 : W.cell? ⟨b3, 0, none⟩ = some (.func (.yield l) #[] #[]) := cell_as hV.c3 ((hold b3 ⟨.inl (HR1s.out _ hV.r3), hV.n3⟩).trans (hA b3 (hV.bound b3 hV.r3).2))
    have hlv : W.cell? ⟨A.heap.size, 0, none⟩ = some (.int .i64 z) := cell_as HL1.out (hold A.heap.size ⟨.inl (HR1n.out _ (Nat.le_refl _) (by omega)), by omega⟩)
    have hk0 : W.cell? ⟨C.heap.size, 0, none⟩ = some (.int .i64 k') := cell_out hW (cell_new _ _ _ _ rfl) (by show C.heap.size ≠ l2; omega)
    have hk1 : W.cell? ⟨C.heap.size, 1, none⟩ = some (.int .i64 f') := cell_out hW (cell_new _ _ _ _ rfl) (by show C.heap.size ≠ l2; omega)
    have hk2 : W.cell? ⟨C.heap.size, 2, none⟩ = some (.int .i64 a') := cell_out hW (cell_new _ _ _ _ rfl) (by show C.heap.size ≠ l2; omega)
    have hk3 : W.cell? ⟨C.heap.size, 3, none⟩ = some (.string s') := cell_out hW (cell_new _ _ _ _ rfl) (by show C.heap.size ≠ l2; omega)
    have hk4 : W.cell? ⟨C.heap.size, 4, none⟩ = some (.slice Ab nb cb) := cell_out hW (cell_new _ _ _ _ rfl) (by show C.heap.size ≠ l2; omega)
    have hk5 : W.cell? ⟨C.heap.size, 5, none⟩ = some (.slice Bb mb db) := cell_out hW (cell_new _ _ _ _ rfl) (by show C.heap.size ≠ l2; omega)
    have hsW : C.heap.size ≤ W.heap.size := Nat.le_trans hCb.size hW.size
    have hfl := flat_len (lv := lv + 1) HPX.out
    have hkd := kid_deep HXM.out
    have hkS : ∀ q, Keep q → W.heap[q]? = C.heap[q]? := fun q e => by have := HKW.out q e; exact heap_round hCb hW (by omega) (by omega)
    have hvW : Vst B0 l b1 b2 b3 J R2 (pre ++ p.flatMap (stp (lv + 1))) (m + (p.flatMap (stp (lv + 1))).length) W :=
      ⟨fun q e => by have := HBD2.out q e; omega, by have := hV.size; omega, HG2.out.sub _ (HR1s.out _ hV.r1), HG2.out.sub _ (HR1s.out _ hV.r2), HG2.out.sub _ (HR1s.out _ hV.r3), hV.n1, hV.n3, hc1, hc3,
        boxed_as HBX2.out (heap_round hCb hW (by omega) (by omega)), hC.hJ _ _ _ _ _ HJ2.out (turn_round hCb hW HLO.out (by have := hV.size; omega)) (Grow.refl _ _ _)⟩
    have PI := Lib.hid (ih _ HXM.out (lv + 1) (m + (p.flatMap (stp (lv + 1))).length) (z + 1) _ R2 (pre ++ p.flatMap (stp (lv + 1))) W (by rw [HZ.out]; omega) (by have := HLV.out; have := HDK.out; omega) (by have := HM.out; have := HSK.out; omega) hvW
      (HTY.out.carry hsW hkS) (flat_pre HPX.out (by have := HPRE.out; rw [stp_node] at this; exact this)))
    have HSP := Lib.hid (spares_turn HS2.out (turn_round (R := Ri) hCb hW HLO.out hlt.1) (fun q e => by
      have hq : q < w1.heap.size := e.1.elim (fun e1 => (HR1b.out q e1).2) (fun e1 => HKW.out q e1)
      exact ⟨hq, hq⟩) (Nat.le_refl _))
    have HOLD := Lib.hid hold; have HSW := Lib.hid hsW; have HVW := Lib.hid hvW
    have hc1' := hc1
    unfold vfun at hc1'
    clear hV hlt hs1 hCb hold hA hb2 hc1 hc3 hsW hfl hkd hkS hvW hW
    gi_wp2_with fail
    refine call_round PI.out ?_
    rintro e wa ⟨R3, hg3, hs3, (⟨rfl, hj3, hb3⟩ | ⟨rfl, q, hq, hjx3⟩)⟩
    · have HG3 := Lib.hid hg3; have HS3 := Lib.hid hs3; have HJ3 := Lib.hid hj3; have HB3 := Lib.hid hb3
      clear hg3 hs3 hj3 hb3 hc1' hlv hk0 hk1 hk2 hk3 hk4 hk5 PI
      gi_wp2_with fail
      have hV := HV.out
      have hlt := HL.out; have hs1 := HS1.out; have hsw := HSW.out; have hsa := HS3.out.size
      have hb2 := hV.bound b2 hV.r2
      refine ⟨HS3.out.pick (by have := hV.size; omega) (fun q e => ?_) (fun q e => ⟨.inl (HSUB.out q e), by have := HRI.out q e; omega⟩),
        R3, HG2.out.trans HG3.out (by omega) (by omega), fun q e => HG3.out.sub q (HSUB.out q e), fun q e => ?_, ?_, HSP.out.trans (HS3.out.pick (Nat.le_refl _) (fun q e => ⟨e.1.imp (HG2.out.sub q) id, e.2⟩) (fun q e => e.elim)), ?_⟩
      · rcases e with e | rfl
        · exact ⟨.inr e, by have := hC.keep q e; have := hV.bound b2 hV.r2; omega⟩
        · exact ⟨.inl (HG2.out.sub _ (HR1n.out _ (by omega) (by omega))), by omega⟩
      · rcases HG3.out.new q e with e | e
        · have := HBD2.out q e; omega
        · have := hV.size; omega
      · have := HJ3.out
        rwa [show pre ++ (p ++ [Tr.node k' f' a' s' ns' ks']).flatMap (stp (lv + 1)) = pre ++ p.flatMap (stp (lv + 1)) ++ stp (lv + 1) (Tr.node k' f' a' s' ns' ks') by simp [List.flatMap_append]]
      · have := HB3.out
        rwa [show m + ((p ++ [Tr.node k' f' a' s' ns' ks']).flatMap (stp (lv + 1))).length = m + (p.flatMap (stp (lv + 1))).length + (stp (lv + 1) (Tr.node k' f' a' s' ns' ks')).length by simp [List.flatMap_append, Nat.add_assoc]]
    · have hV := HV.out
      have hlt := HL.out; have hs1 := HS1.out
      have hb2 := hV.bound b2 hV.r2
      have h7 : Boxed wa (A.heap.size + 1 + 1) 4 (.bool false) := boxed_as HB17.out ((hs3.kept _ ⟨.inl (HG2.out.sub _ (HR1n.out _ (by omega) (by omega))), by omega⟩).trans (HOLD.out _ ⟨.inl (HR1n.out _ (by omega) (by omega)), by omega⟩))
      have hc7 := h7.cell
      have hf7 := h7.frozen
      have H7 := Lib.hid h7
      have HG3 := Lib.hid hg3; have HS3 := Lib.hid hs3; have HJX3 := Lib.hid hjx3; have HQ := Lib.hid hq
      clear h7 hV hlt hs1 hb2 hg3 hs3 hjx3 hq hc1' hlv hk0 hk1 hk2 hk3 hk4 hk5 PI
      gi_wp2_with fail
      have hV := HV.out
      have hlt := HL.out; have hs1 := HS1.out; have hsw := HSW.out; have hsa := HS3.out.size
      have hb2 := hV.bound b2 hV.r2
      have h7r : R1 (A.heap.size + 1 + 1) := HR1n.out _ (by omega) (by omega)
      refine ⟨(HS3.out.pick (by have := hV.size; omega) (fun q e => ?_) (fun q e => ⟨.inl (HSUB.out q e), by have := HRI.out q e; omega⟩)).set hc7 _ (fun e => ?_) (fun e => by have := HRI.out _ e; dsimp only at this; omega),
        rfl, R3, (HG2.out.trans HG3.out (by omega) (by omega)).to (by simp [World.setCell]), fun q e => HG3.out.sub q (HSUB.out q e), fun q e => ?_, ⟨q, HQ.out, hC.hJx _ _ _ _ _ HJX3.out (Turn.set (p := ⟨A.heap.size + 1 + 1, 0, none⟩) _ (by have := hV.size; show B0 ≤ A.heap.size + 1 + 1; omega) (HG3.out.sub _ (HG2.out.sub _ h7r))) (Grow.refl _ _ _)⟩, ?_, H7.out.set _⟩
      · rcases e with e | rfl
        · exact ⟨.inr e, by have := hC.keep q e; have := hV.bound b2 hV.r2; omega⟩
        · exact ⟨.inl (HG2.out.sub _ (HR1n.out _ (by omega) (by omega))), by omega⟩
      · dsimp only at e
        rcases e with e | e
        · have := hC.keep _ e; have := hV.size; omega
        · omega
      · have h9 : (wa.setCell ⟨A.heap.size + 1 + 1, 0, none⟩ (.bool false)).heap.size = wa.heap.size := by simp [World.setCell]
        rw [h9]
        rcases HG3.out.new q e with e | e
        · have := HBD2.out q e; omega
        · have := hV.size; omega
      · have hpk : Spares B0 (fun q => (R1 q ∨ Keep q) ∧ q ≠ b2 ∧ q ≠ A.heap.size + 1 + 1) (fun _ => False) w1 wa := (HSP.out.trans (HS3.out.pick (Nat.le_refl _) (fun q e => ⟨e.1.imp (HG2.out.sub q) id, e.2⟩) (fun q e => e.elim))).pick (Nat.le_refl _) (fun q e => ⟨e.1, e.2.1⟩) (fun q e => e.elim)
        exact Spares.set (p := ⟨A.heap.size + 1 + 1, 0, none⟩) hpk hc7 _ (fun e => e.2.2 rfl) (fun e => e)
  case done =>
    rintro D Ri X hD ⟨R2, hg2, hsub, hbd2, hj2, hs2, hbx2⟩ hK
    have hV := HV.out
    have hs1 := HS1.out
    have hsx := hs2.size
    have hb2 := hV.bound b2 hV.r2
    rw [← stpL_flat, stpL_len] at hbx2
    rw [← stpL_flat] at hj2
    obtain ⟨M, hM⟩ : ∃ M : Int, M = ((m + sizeL ks : Nat) : Int) := ⟨_, rfl⟩
    rw [← hM] at hbx2
    have hM0 : 0 ≤ M := by omega
    have hM1 : M < 1000000 := by have := HM.out; have := HSK.out; omega
    have hA : ∀ q, q < A.heap.size → w1.heap[q]? = A.heap[q]? := fun q e => HA1.out.block q e
    have hnew : ∀ q, A.heap.size ≤ q → q < w1.heap.size → X.heap[q]? = w1.heap[q]? := fun q e1 e2 => hs2.kept q ⟨.inl (HR1n.out q e1 e2), by omega⟩
    have hc3 : X.cell? ⟨b3, 0, none⟩ = some (.func (.yield l) #[] #[]) := cell_as hV.c3 ((hs2.kept b3 ⟨.inl (HR1s.out _ hV.r3), hV.n3⟩).trans (hA b3 (hV.bound b3 hV.r3).2))
    have hlv : X.cell? ⟨A.heap.size, 0, none⟩ = some (.int .i64 z) := cell_as HL1.out (hnew A.heap.size (Nat.le_refl _) (by omega))
    obtain ⟨g0, g1, g2, g3, g4, g5⟩ := HM1.out
    have hnb := hnew (A.heap.size + 1) (by omega) (by omega)
    have h7 := boxed_as HB17.out (hnew (A.heap.size + 1 + 1) (by omega) (by omega))
    have hcc := hbx2.cell
    have hcf := hbx2.frozen
    obtain ⟨C2, hC2⟩ : ∃ C2, C2 = X.setCell ⟨b2, 0, none⟩ (.int .i64 (M + 1)) := ⟨_, rfl⟩
    have hb2C : Boxed C2 b2 3 (.int .i64 (M + 1)) := by rw [hC2]; exact hbx2.set _
    have hoC : ∀ q, q ≠ b2 → C2.heap[q]? = X.heap[q]? := fun q e => by rw [hC2]; exact Below.heap_setCell _ _ _ _ e
    have hszC : C2.heap.size = X.heap.size := by rw [hC2]; simp [World.setCell]
    have hjC : J R2 (pre ++ stpL (lv + 1) ks) C2 := by
      rw [hC2]
      exact hC.hJ _ _ _ _ _ hj2 (Turn.set (p := ⟨b2, 0, none⟩) _ (by show B0 ≤ b2; omega) (hg2.sub _ (HR1s.out _ hV.r2))) (Grow.refl _ _ _)
    have hsC : Spares B0 (fun q => (R1 q ∨ Keep q) ∧ q ≠ b2) (fun _ => False) w1 C2 := by
      rw [hC2]
      exact Spares.set (p := ⟨b2, 0, none⟩) hs2 hcc _ (fun e => e.2 rfl) (fun e => e)
    have hTC : RdQ Keep C2 (.node k f a s ns ks) (.agg #[.int .i64 k, .int .i64 f, .int .i64 a, .string s, .slice Aa na ca, .slice B mm d]) := HT.out.carry (by omega) (fun q e => by
      have hq := hC.keep q e
      exact (hoC q (by omega)).trans ((hs2.kept q ⟨.inr e, by omega⟩).trans (hA q (by have := hV.size; omega))))
    have hpre2 : pre ++ stpL (lv + 1) ks ++ [(lv, Tr.node k f a s ns ks)] <+: xs := by
      have := HPRE.out
      rw [stp_node, ← List.append_assoc] at this
      exact this
    have hzz : z = (lv : Int) := HZ.out
    obtain ⟨fn, tmps, assign, body, hy, hR⟩ := hC.yields R2 _ (lv, Tr.node k f a s ns ks) #[.int .i64 z, .agg #[.int .i64 k, .int .i64 f, .int .i64 a, .string s, .slice Aa na ca, .slice B mm d]] C2 (fun q e => by have := hbd2 q e; omega) (by have := hV.size; omega) hjC hpre2 ⟨_, by rw [hzz], hTC⟩
    have q3 := cell_as hc3 (hoC b3 hV.n3)
    have ql := cell_as hlv (hoC A.heap.size (by omega))
    have hob : C2.heap[A.heap.size + 1]? = w1.heap[A.heap.size + 1]? := (hoC _ (by omega)).trans hnb
    have p0 := cell_as g0 hob; have p1 := cell_as g1 hob; have p2 := cell_as g2 hob; have p3 := cell_as g3 hob; have p4 := cell_as g4 hob; have p5 := cell_as g5 hob
    have HRN := Lib.hid hR; have HPRE2 := Lib.hid hpre2
    have HB2C := Lib.hid hb2C; have HSC := Lib.hid hsC; have HG2 := Lib.hid hg2; have HBD2 := Lib.hid hbd2; have HK := Lib.hid hK; have HHM := Lib.hid hM
    have H7C := Lib.hid (boxed_as h7 (hoC _ (by omega)))
    have HKC := Lib.hid (show C2.heap[D]? = some (.deferred (some [])) from (hoC D (by omega)).trans hK)
    have HDD := Lib.hid hD; have HSZC := Lib.hid (show w1.heap.size ≤ X.heap.size ∧ X.heap.size = C2.heap.size by omega)
    clear hV hs1 hsx hb2 hM hA hnew hc3 hlv g0 g1 g2 g3 g4 g5 hnb h7 hb2C hoC hjC hsC hTC hpre2 hzz hR hob hg2 hbd2 hK hsub hj2 hs2 hbx2 hD hszC
    go_upto_region 7 with fail
    rw [← hC2]
    clear hC2 hcc hcf
    refine (wpIn_wide (n := 3)).1 ?_
    gi_wp2_with fail
    refine HRN.out.mono ?_
    rintro e w4 ⟨hcase, hs4⟩
    have hV := HV.out
    have hs1 := HS1.out
    have hb2 := hV.bound b2 hV.r2
    have hc4 := boxed_as HB2C.out (hs4.own b2 (HG2.out.sub _ (HR1s.out _ hV.r2)))
    have h74 := boxed_as H7C.out (hs4.own (A.heap.size + 1 + 1) (HG2.out.sub _ (HR1n.out _ (by omega) (by omega))))
    have hk4 : w4.heap[D]? = some (.deferred (some [])) := hs4.others.same D _ (by have := HDD.out; have := hV.size; omega) HKC.out rfl
    have hKA : ∀ q, (R q ∨ Keep q) ∧ q ≠ b2 → q < A.heap.size := fun q e => e.1.elim (fun e => (hV.bound q e).2) (fun e => by have := hC.keep q e; have := hV.size; omega)
    have hspA : Spares B0 (fun q => (R q ∨ Keep q) ∧ q ≠ b2) (fun _ => False) A w4 :=
      ((Spares.of_below HA1.out hKA (fun _ e => e.elim)).trans (HSC.out.pick (Nat.le_refl _) (fun q e => ⟨e.1.imp (HR1s.out q) id, e.2⟩) (fun q e => e.elim))).trans
        ⟨hs4.os, hs4.tape, hs4.output, fun q e => e.elim, fun q e => e.1.elim (fun e1 => hs4.own q (HG2.out.sub _ (HR1s.out _ e1))) (fun e1 => hs4.kept q e1), hs4.others⟩
    have hcc := hc4.cell
    have hc7 := h74.cell
    have hf7 := h74.frozen
    have hM2 : M + 1 ≤ 1048576 := by omega
    have HSPA := Lib.hid hspA; have HKA := Lib.hid hKA; have HC4 := Lib.hid hc4; have H74 := Lib.hid h74; have HK4 := Lib.hid hk4
    have HS4 := Lib.hid (show w1.heap.size ≤ w4.heap.size by have := HSZC.out; have := hs4.size; omega)
    have HN := Lib.hid (show A.heap.size + 1 + 1 < w1.heap.size ∧ b2 < A.heap.size ∧ B0 ≤ A.heap.size by have := hV.size; omega)
    have HR7 := Lib.hid (show R2 (A.heap.size + 1 + 1) from HG2.out.sub _ (HR1n.out _ (by omega) (by omega)))
    have HG := Lib.hid ((HG1.out.trans HG2.out (by omega) HSZC.out.1).to (D := w4) (by have := HSZC.out; have := hs4.size; omega))
    have HCASE := Lib.hid hcase
    clear hV hs1 hb2 hc4 h74 hk4 hKA hspA hs4 HRN hy q3 ql p0 p1 p2 p3 p4 p5 hcase
    rcases HCASE.out with ⟨rfl, hj4⟩ | ⟨rfl, hj4⟩
    all_goals
      have HJ4 := Lib.hid hj4
      clear hj4 HCASE
      gi_wp2_with fail
      go_wp2_with fail
    · have hn := HN.out
      have hk5 : (w4.setCell ⟨A.heap.size + 1 + 1, 0, none⟩ (.bool true)).heap[D]? = some (.deferred (some [])) := (Below.heap_setCell w4 ⟨A.heap.size + 1 + 1, 0, none⟩ (.bool true) D (by have := HDD.out; show D ≠ A.heap.size + 1 + 1; omega)).trans HK4.out
      have hcell : ((w4.setCell ⟨A.heap.size + 1 + 1, 0, none⟩ (.bool true)).putObj D (.deferred none)).cell? ⟨A.heap.size + 1 + 1, 0, none⟩ = some (.bool true) := cell_put (H74.out.set _).cell hk5 rfl
      refine ⟨by simp, .inl ⟨_, _, rfl, run_takeDeferred hk5, ?_⟩⟩
      refine ⟨.bool true, by simp [results, Try.results48, go_sem, hcell], R2, HG.out.to (by simp [World.setCell]), ?_, .inl ⟨rfl, ?_, ?_⟩⟩
      · exact (Spares.set (p := ⟨A.heap.size + 1 + 1, 0, none⟩) HSPA.out hc7 _ (fun e => by have := HKA.out _ e; dsimp only at this; omega) (fun e => e)).put_new _ (by have := HDD.out; omega) HKA.out (fun _ e => e.elim)
      · rw [stp_node, ← List.append_assoc]
        exact hC.hJ.put _ (hC.hJ _ _ _ _ _ HJ4.out (Turn.set (p := ⟨A.heap.size + 1 + 1, 0, none⟩) _ (by show B0 ≤ A.heap.size + 1 + 1; omega) HR7.out) (Grow.refl _ _ _)) (by have := HDD.out; omega) hk5 rfl
      · have h := Boxed.put (o' := .deferred none) (boxed_as HC4.out (Below.heap_setCell w4 ⟨A.heap.size + 1 + 1, 0, none⟩ (.bool true) b2 (by show b2 ≠ A.heap.size + 1 + 1; omega))) hk5 rfl
        rwa [HHM.out, show ((m + sizeL ks : Nat) : Int) + 1 = ((m + (stp lv (Tr.node k f a s ns ks)).length : Nat) : Int) by rw [stp_len, size_node]; omega] at h
    · have hn := HN.out
      have hk5 : (w4.setCell ⟨A.heap.size + 1 + 1, 0, none⟩ (.bool false)).heap[D]? = some (.deferred (some [])) := (Below.heap_setCell w4 ⟨A.heap.size + 1 + 1, 0, none⟩ (.bool false) D (by have := HDD.out; show D ≠ A.heap.size + 1 + 1; omega)).trans HK4.out
      have hcell : ((w4.setCell ⟨A.heap.size + 1 + 1, 0, none⟩ (.bool false)).putObj D (.deferred none)).cell? ⟨A.heap.size + 1 + 1, 0, none⟩ = some (.bool false) := cell_put (H74.out.set _).cell hk5 rfl
      refine ⟨by simp, .inl ⟨_, _, rfl, run_takeDeferred hk5, ?_⟩⟩
      refine ⟨.bool false, by simp [results, Try.results48, go_sem, hcell], R2, HG.out.to (by simp [World.setCell]), ?_, .inr ⟨rfl, _, HPRE2.out, ?_⟩⟩
      · exact (Spares.set (p := ⟨A.heap.size + 1 + 1, 0, none⟩) HSPA.out hc7 _ (fun e => by have := HKA.out _ e; dsimp only at this; omega) (fun e => e)).put_new _ (by have := HDD.out; omega) HKA.out (fun _ e => e.elim)
      · exact hC.hJx.put _ (hC.hJx _ _ _ _ _ HJ4.out (Turn.set (p := ⟨A.heap.size + 1 + 1, 0, none⟩) _ (by show B0 ≤ A.heap.size + 1 + 1; omega) HR7.out) (Grow.refl _ _ _)) (by have := HDD.out; omega) hk5 rfl
  case stop =>
    rintro D c Ri p X hD _ ⟨rfl, R2, hg2, hsub, hbd2, ⟨q, hq, hjx⟩, hs2, hb7⟩ hK
    have HG2 := Lib.hid hg2; have HJX := Lib.hid hjx; have HS2 := Lib.hid hs2; have HB7 := Lib.hid hb7; have HK := Lib.hid hK; have HQ := Lib.hid hq
    clear hg2 hsub hbd2 hjx hs2 hb7 hK hq
    gi_wp2_with fail
    have hV := HV.out
    have hs1 := HS1.out
    have hsx := HS2.out.size
    have hcell : (X.putObj D (.deferred none)).cell? ⟨A.heap.size + 1 + 1, 0, none⟩ = some (.bool false) := cell_put HB7.out.cell HK.out rfl
    refine ⟨by simp, .inl ⟨_, _, rfl, run_takeDeferred HK.out, ?_⟩⟩
    refine ⟨.bool false, by simp [results, Try.results48, go_sem, hcell], R2, (HG1.out.trans HG2.out (by omega) (by omega)).to (by simp), ?_, .inr ⟨rfl, q, HQ.out, (hC.hJx).put _ HJX.out (by have := hV.size; omega) HK.out rfl⟩⟩
    have hKA : ∀ q, (R q ∨ Keep q) ∧ q ≠ b2 → q < A.heap.size := fun q e => e.1.elim (fun e => (hV.bound q e).2) (fun e => by have := hC.keep q e; have := hV.size; omega)
    refine Spares.put_new ((Spares.of_below HA1.out hKA (fun _ e => e.elim)).trans (HS2.out.pick (Nat.le_refl _) (fun q e => ⟨e.1.imp (HR1s.out q) id, e.2, by have := hKA q e; omega⟩) (fun q e => e.elim))) _ (by omega) hKA (fun _ e => e.elim)
end Go.Proofs.Ytbcnilkenkmabaa.tr
