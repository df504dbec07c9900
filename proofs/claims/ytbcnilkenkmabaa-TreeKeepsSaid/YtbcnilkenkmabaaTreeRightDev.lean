/- Package tree: Right. -/
import Derived.Test.YtbcnilkenkmabaaTreeRules
import Derived.Test.YtbcnilkenkmabaaTreeStepSeq
namespace Go.Proofs.Ytbcnilkenkmabaa.tr
open Go.ChangeShapes Go.WideShapes Go.ChangeAt Go.RowKit Go.Proofs.Ytbcnilkenkmabaa.mem Go.Proofs.Ytbcnilkenkmabaa.sq
set_option linter.unusedVariables false
attribute [local go_sem] Oper.semAt_some

theorem nodes_all : ∀ (T : Tr) (lv : Nat), (stp lv T).all (fun x => nodeB x.2) = nodesT T := by
  intro T
  induction T using Tr.ind with
  | h k f a s ns ks ih =>
    intro lv
    rw [stp_node, nodes_node, List.all_append]
    have : ∀ lv, (stpL lv ks).all (fun x => nodeB x.2) = nodesL ks := by
      clear k f a s ns
      induction ks with
      | nil => intro lv; simp only [stpL, nodesL]; rfl
      | cons T r ihr => intro lv; rw [stpL_cons, nodesL_cons, List.all_append, ih T (by simp), ihr (fun U hU => ih U (by simp [hU])), Bool.and_comm]
    rw [this, Bool.and_comm]
    simp
theorem all_pre {α : Type} {P : α → Bool} {xs p : List α} {x : α} (h : p ++ [x] <+: xs) (hx : P x = false) : xs.all P = false := by
  obtain ⟨t, ht⟩ := h
  rw [← ht]
  simp [hx]

def RI (w w1 : World) : (Nat → Prop) → List (Nat × Tr) → World → Prop := fun _ p X => p.all (fun x => nodeB x.2) = true ∧ Below w1.heap.size w1 X
def RIx (w w1 : World) (T : Tr) (s : Nat) : Code → (Nat → Prop) → List (Nat × Tr) → World → Prop := fun c _ _ X => c = .ret ∧ rightT T = false ∧ Below s w X ∧ Boxed X (s + 1) 4 (.bool false) ∧ w1.heap.size ≤ X.heap.size
theorem turn_below {B : Nat} {R : Nat → Prop} {w A C : World} {n : Nat} (h : Below n w A) (ht : Turn B R A C) (hn : n ≤ B) (hw : n ≤ w.heap.size) : Below n w C :=
  ⟨ht.os.trans h.os, ht.tape.trans h.tape, ht.output.trans h.output, Nat.le_trans h.size ht.size, fun k hk => by
    rcases ht.block k (by have := h.size; omega) with e | ⟨e, _⟩
    · exact e.trans (h.block k hk)
    · omega⟩
theorem ri_bides (w w1 : World) : Bides w1.heap.size (RI w w1) := fun R R' p A C ⟨h1, h2⟩ ht _ => ⟨h1, turn_below h2 ht (Nat.le_refl _) (Nat.le_refl _)⟩
theorem rix_bides (w w1 : World) (T : Tr) (s : Nat) (hs : s + 1 < w1.heap.size) (hw : s ≤ w.heap.size) (c : Code) : Bides w1.heap.size (RIx w w1 T s c) := fun R R' p A C ⟨h1, h2, h3, h4, h5⟩ ht _ =>
  ⟨h1, h2, turn_below h3 ht (by omega) hw, boxed_as h4 (by
    rcases ht.block (s + 1) (by omega) with e | ⟨e, _⟩
    · exact e
    · omega), Nat.le_trans h5 ht.size⟩

/-- The rule of a node's kind, called. -/
def ruleArgs (b1 b2 : Nat) (k : Int) : Array Value := if k = 3 then #[.pointer (some ⟨b1, 0, none⟩)] else if k = 4 then #[.pointer (some ⟨b2, 0, none⟩)] else #[]

set_option maxHeartbeats 4000000 in
theorem right_deep (T : Tr) (v : Value) (w : World) (hT : RdT w T v) (hd : deepT T ≤ 999) (hz : sizeT T ≤ 1000000) (h100 : 100 < deepT T) : Calls Try.prog 10 #[v] w (Say w (rightT T)) := by
  have hr : rightT T = false := by unfold rightT; rw [decide_eq_false (by omega)]; rfl
  rw [hr]
  obtain ⟨k, f, a, s, ns, ks⟩ := T
  obtain ⟨Aa, na, ca, B, mm, d, rfl, -⟩ := rdT_node.1 hT
  obtain ⟨w0, hw0⟩ : ∃ w0, w0 = (w.alloc (.cells #[.int .i64 k, .int .i64 f, .int .i64 a, .string s, .slice Aa na ca, .slice B mm d] 25)).alloc (.cells #[.bool false] 4) := ⟨_, rfl⟩
  have hb0 : Below w.heap.size w w0 := by rw [hw0]; exact ((Below.refl _ _).alloc (Nat.le_refl _) _).alloc (by simp) _
  have hX0 : Six w0 w.heap.size (.int .i64 k) (.int .i64 f) (.int .i64 a) (.string s) (.slice Aa na ca) (.slice B mm d) := by
    rw [hw0]; exact (Six.new w _ _ _ _ _ _).below ((Below.refl _ _).alloc (Nat.le_refl _) _)
  have hB0 : Boxed w0 (w.heap.size + 1) 4 (.bool false) := by
    have := Boxed.new (w.alloc (.cells #[.int .i64 k, .int .i64 f, .int .i64 a, .string s, .slice Aa na ca, .slice B mm d] 25)) 4 (.bool false)
    rw [World.size_alloc] at this
    rw [hw0]; exact this
  have PM := Lib.hid (measure_any _ _ w0 (hT.below hb0) hd hz)
  have HB0 := Lib.hid hb0; have HX0 := Lib.hid hX0; have HBX := Lib.hid hB0
  obtain ⟨q0, q1, q2, q3, q4, q5⟩ := hX0.six
  have hd2 : (100 : Int) < (deepT (.node k f a s ns ks) : Int) := by omega
  have hz2 : (sizeT (.node k f a s ns ks) : Int) ≤ 1048576 := by omega
  clear hT hd hz hb0 hX0 hB0 h100 hr
  refine (callsIn_wide (n := 3)).1 ?_
  refine callsIn_of_wp_marks Try.func10 rfl trivial ?_ rfl
  simp only [Try.ntmps10, List.size_toArray, List.length_cons, List.length_nil, Nat.reduceAdd, Nat.reduceSub, Array.replicate_succ, Array.replicate_zero, List.push_toArray, List.append_toArray, List.nil_append, List.cons_append]
  refine wpIn_wide.2 ?_
  go_upto_region 1 with fail
  rw [← hw0]
  clear hw0
  go_wp2_with fail
  refine PM.out.mono ?_
  rintro e w1 ⟨rfl, hb1⟩
  have hB1 := boxed_below HBX.out hb1
  have hc := hB1.cell
  have hf := hB1.frozen
  have HB1 := Lib.hid hB1; have HBL := Lib.hid (HB0.out.trans (hb1.mono HB0.out.size))
  clear hb1 hB1 q0 q1 q2 q3 q4 q5 PM
  go_wp2_with fail
  have hcell := (HB1.out.set (.bool false)).cell
  exact ⟨.bool false, by simp [results, Try.results10, go_sem, hcell], rfl, HBL.out.setCell (p := ⟨w.heap.size + 1, 0, none⟩) (by show w.heap.size ≤ w.heap.size + 1; omega) _⟩

theorem right_leave {w w4 X wa : World} {Ri : Nat → Prop} {T : Tr} {p : List (Nat × Tr)} {n1 : Nat} (h1 : w.heap.size + 2 ≤ n1) (h4 : n1 ≤ w4.heap.size) (hX : Below w4.heap.size w4 X) (ha : Below X.heap.size X wa) (hw : Below w.heap.size w w4) (hb : Boxed wa (w.heap.size + 1) 4 (.bool false)) (hf : rightT T = false)
    (hRi : ∀ q, Ri q → w.heap.size + 1 < q ∧ q < X.heap.size) :
    Spares w4.heap.size (fun q => q < w.heap.size) Ri X (wa.setCell ⟨w.heap.size + 1, 0, none⟩ (.bool false)) ∧ RIx w w4 T w.heap.size .ret Ri p (wa.setCell ⟨w.heap.size + 1, 0, none⟩ (.bool false)) := by
  have hs := hX.size
  refine ⟨Spares.set (p := ⟨w.heap.size + 1, 0, none⟩) (Spares.of_below ha (fun q e => by omega) (fun q e => (hRi q e).2)) hb.cell _ (fun e => by dsimp only at e; omega) (fun e => by have := hRi _ e; dsimp only at this; omega), rfl, hf, ?_, hb.set _, ?_⟩
  · exact (hw.trans ((hX.trans (ha.mono hs)).mono (by omega))).setCell (p := ⟨w.heap.size + 1, 0, none⟩) (by show w.heap.size ≤ w.heap.size + 1; omega) _
  · have := ha.size; simp [World.setCell]; omega

set_option maxHeartbeats 8000000 in
set_option maxRecDepth 100000 in
theorem right_flat (T : Tr) (v : Value) (w : World) (hT : RdT w T v) (hd : deepT T ≤ 999) (hz : sizeT T ≤ 1000000) (h100 : deepT T ≤ 100) : Calls Try.prog 10 #[v] w (Say w (rightT T)) := by
  have hr : rightT T = (stp 1 T).all (fun x => nodeB x.2) := by unfold rightT; rw [decide_eq_true h100, nodes_all]; rfl
  have HT := Lib.hid ((RdQ.old hT).le (Q' := fun q => q < w.heap.size) (fun q e => e.2))
  obtain ⟨k, f, a, s, ns, ks⟩ := T
  obtain ⟨Aa, na, ca, B, mm, d, rfl, -⟩ := rdT_node.1 hT
  obtain ⟨w0, hw0⟩ : ∃ w0, w0 = (w.alloc (.cells #[.int .i64 k, .int .i64 f, .int .i64 a, .string s, .slice Aa na ca, .slice B mm d] 25)).alloc (.cells #[.bool false] 4) := ⟨_, rfl⟩
  have hb0 : Below w.heap.size w w0 := by rw [hw0]; exact ((Below.refl _ _).alloc (Nat.le_refl _) _).alloc (by simp) _
  have hs0 : w0.heap.size = w.heap.size + 2 := by rw [hw0]; simp
  have hX0 : Six w0 w.heap.size (.int .i64 k) (.int .i64 f) (.int .i64 a) (.string s) (.slice Aa na ca) (.slice B mm d) := by
    rw [hw0]; exact (Six.new w _ _ _ _ _ _).below ((Below.refl _ _).alloc (Nat.le_refl _) _)
  have hB0 : Boxed w0 (w.heap.size + 1) 4 (.bool false) := by
    have := Boxed.new (w.alloc (.cells #[.int .i64 k, .int .i64 f, .int .i64 a, .string s, .slice Aa na ca, .slice B mm d] 25)) 4 (.bool false)
    rw [World.size_alloc] at this
    rw [hw0]; exact this
  have PM := Lib.hid (measure_any _ _ w0 (hT.below hb0) hd hz)
  have HB0 := Lib.hid hb0; have HX0 := Lib.hid hX0; have HBX := Lib.hid hB0; have HS0 := Lib.hid hs0; have HRT := Lib.hid hr
  have HD := Lib.hid hd; have HZ := Lib.hid hz
  obtain ⟨q0, q1, q2, q3, q4, q5⟩ := hX0.six
  obtain ⟨zS, hzS⟩ : ∃ z : Int, z = (sizeT (.node k f a s ns ks) : Int) := ⟨_, rfl⟩
  obtain ⟨zD, hzD⟩ : ∃ z : Int, z = (deepT (.node k f a s ns ks) : Int) := ⟨_, rfl⟩
  rw [← hzS, ← hzD] at PM
  have hd2 : decide ((100 : Int) < zD) = false := by simp; omega
  have hz2 : decide ((1048576 : Int) < zS) = false := by simp; omega
  clear hT hd hz hb0 hX0 hB0 h100 hr hs0 hzS hzD
  refine (callsIn_wide (n := 3)).1 ?_
  refine callsIn_of_wp_marks Try.func10 rfl trivial ?_ rfl
  simp only [Try.ntmps10, List.size_toArray, List.length_cons, List.length_nil, Nat.reduceAdd, Nat.reduceSub, Array.replicate_succ, Array.replicate_zero, List.push_toArray, List.append_toArray, List.nil_append, List.cons_append]
  refine wpIn_wide.2 ?_
  go_upto_region 1 with fail
  rw [← hw0]
  clear hw0
  go_wp2_with fail
  refine PM.out.mono ?_
  rintro e w1 ⟨rfl, hb1⟩
  have HB1 := Lib.hid hb1
  clear hb1 q0 q1 q2 q3 q4 q5 PM
  go_wp2_with fail
  refine (kinds_any _).mono ?_
  rintro e w2 ⟨br, b1, b2, m1, m2, rfl, hru, hb2⟩
  have hbw2 : Below w0.heap.size w0 w2 := HB1.out.trans (hb2.mono HB1.out.size)
  obtain ⟨w3, hw3⟩ : ∃ w3, w3 = w2.alloc (.cells #[.map (some br)] 44) := ⟨_, rfl⟩
  have hb23 : Below w2.heap.size w2 w3 := by rw [hw3]; exact (Below.refl _ _).alloc (Nat.le_refl _) _
  have hbw3 : Below w0.heap.size w0 w3 := hbw2.trans (hb23.mono hbw2.size)
  have hru3 : Rules w3 w1.heap.size br b1 b2 m1 m2 := hru.as (fun q _ h2 => hb23.block q h2)
  have hbr3 : Boxed w3 w2.heap.size 44 (.map (some br)) := by rw [hw3]; exact Boxed.new _ _ _
  have hs3 : w3.heap.size = w2.heap.size + 1 := by rw [hw3]; simp
  obtain ⟨p0, p1, p2, p3, p4, p5⟩ := (HX0.out.below hbw3).six
  have HBW3 := Lib.hid hbw3; have HRU := Lib.hid hru3; have HBR := Lib.hid hbr3; have HS3 := Lib.hid hs3
  have HS2 := Lib.hid (show w0.heap.size ≤ w1.heap.size ∧ w1.heap.size ≤ w2.heap.size from ⟨HB1.out.size, hb2.size⟩)
  clear hru hb2 hbw2 hb23 hbw3 hru3 hbr3 hs3 HB1
  go_upto_region 5 with fail
  rw [← hw3]
  clear hw3
  go_wp2_with fail
  refine (nodes_any _ _ _ _ _ _ _).mono ?_
  rintro e w4 ⟨rfl, hb4, hs4, hl4⟩
  have hb04 : Below w0.heap.size w0 w4 := HBW3.out.trans (hb4.mono HBW3.out.size)
  have hbw4 : Below w.heap.size w w4 := HB0.out.trans (hb04.mono HB0.out.size)
  have hseq := nodes_seq (3 - 1) w3.heap.size _ _ (fun q => q < w.heap.size) w4 hl4 (HT.out.carry hbw4.size (fun q e => hbw4.block q e)) (fun q e => by have := hbw4.size; omega) HD.out HZ.out
  have HSEQ := Lib.hid hseq; have HB04 := Lib.hid hb04; have HBW4 := Lib.hid hbw4
  have HRU4 := Lib.hid (HRU.out.as (fun q _ h2 => hb4.block q h2)); have HBR4 := Lib.hid (boxed_below HBR.out hb4)
  have HN := Lib.hid (show w.heap.size + 2 ≤ w1.heap.size ∧ w1.heap.size ≤ w2.heap.size ∧ w2.heap.size + 1 = w3.heap.size ∧ w3.heap.size + 1 = w4.heap.size by have := HS0.out; have := HS2.out; have := HS3.out; omega)
  clear hseq hb04 hbw4 hb4 hs4 hl4 p0 p1 p2 p3 p4 p5 HRU HBR HS3 HS2
  go_wp2_with fail
  refine (wpIn_wide (n := 3)).1 ?_
  refine wpIn_iterate rfl (fun h => by cases h) (gf := 47) rfl trivial (Hand := HandN (fun q => q < w.heap.size)) (enters_of Try.func47 (by kernel_rfl) rfl) (fun W x vs h => by obtain ⟨v, rfl, _⟩ := h; rfl) HSEQ.out (Below.refl _ _) (fun q e => by have := HN.out; omega)
    (RI w w4) (RIx w w4 (.node k f a s ns ks) w.heap.size) (ri_bides w w4) (rix_bides w w4 _ _ (by have := HN.out; omega) (Nat.le_refl _)) ⟨rfl, Below.refl _ _⟩ ?round ?done ?stop
  case round =>
    rintro l2 Ri p ⟨lv, x⟩ vs C hl1 hl2 hlo hRi ⟨hall, hbl⟩ hpx ⟨vx, rfl, hTx⟩
    dsimp only at hTx
    obtain ⟨k', f', a', s', ns', ks'⟩ := x
    have hTx2 := hTx
    obtain ⟨Ab, nb, cb, Bb, mb, db, rfl, -, -, -, hss, hns, -, hnb, -, -, hml, -, hmb, -⟩ := rdQ_node.1 hTx2
    have hnl := hns.1
    have HTX := Lib.hid hTx; have HPX := Lib.hid hpx; have HL := Lib.hid (show w4.heap.size ≤ l2 ∧ l2 < C.heap.size from ⟨hl1, hl2⟩); have HLO := Lib.hid hlo; have HRI := Lib.hid hRi; have HALL := Lib.hid hall; have HBL := Lib.hid hbl
    have HSS := Lib.hid hss; have HNL := Lib.hid hnl; have HML := Lib.hid hml
    clear hTx hTx2 hpx hl1 hl2 hlo hRi hall hbl hss hns hnl hml
    gi_wp2_with fail
    refine ⟨Spares.of_below ((Below.refl _ _).alloc (Nat.le_refl _) _) (fun q e => by have := HL.out; have := HN.out; omega) (fun q e => (HRI.out q e).2), fun X hX => ?_⟩
-- BEGIN ROUND
    have hlt := HL.out; have hn := HN.out
    have hCb : Below C.heap.size C (C.alloc (.cells #[.int .i64 k', .int .i64 f', .int .i64 a', .string s', .slice Ab nb cb, .slice Bb mb db] 25)) := (Below.refl _ _).alloc (Nat.le_refl _) _
    have hX4 : ∀ q, q < w4.heap.size → X.heap[q]? = w4.heap[q]? := fun q h => (heap_round hCb hX (by omega) (by omega)).trans (HBL.out.block q h)
    have hsX : C.heap.size + 1 ≤ X.heap.size := by have := hX.size; simp at this; omega
    have hbrX : X.cell? ⟨w2.heap.size, 0, none⟩ = some (.map (some br)) := cell_as HBR4.out.cell (hX4 _ (by show w2.heap.size < _; omega))
    have hruX : Rules X w1.heap.size br b1 b2 m1 m2 := HRU4.out.as (fun q _ h => hX4 q h)
    have hlk := ask_rule hruX k'
    have hres : Boxed X (w.heap.size + 1) 4 (.bool false) := boxed_as HBX.out ((hX4 _ (by omega)).trans (HB04.out.block _ (by have := HBX.out.lt; omega)))
    have hk0 : X.cell? ⟨C.heap.size, 0, none⟩ = some (.int .i64 k') := cell_out hX (cell_new _ _ _ _ rfl) (by show C.heap.size ≠ l2; omega)
    have hk1 : X.cell? ⟨C.heap.size, 1, none⟩ = some (.int .i64 f') := cell_out hX (cell_new _ _ _ _ rfl) (by show C.heap.size ≠ l2; omega)
    have hk2 : X.cell? ⟨C.heap.size, 2, none⟩ = some (.int .i64 a') := cell_out hX (cell_new _ _ _ _ rfl) (by show C.heap.size ≠ l2; omega)
    have hk3 : X.cell? ⟨C.heap.size, 3, none⟩ = some (.string s') := cell_out hX (cell_new _ _ _ _ rfl) (by show C.heap.size ≠ l2; omega)
    have hk4 : X.cell? ⟨C.heap.size, 4, none⟩ = some (.slice Ab nb cb) := cell_out hX (cell_new _ _ _ _ rfl) (by show C.heap.size ≠ l2; omega)
    have hk5 : X.cell? ⟨C.heap.size, 5, none⟩ = some (.slice Bb mb db) := cell_out hX (cell_new _ _ _ _ rfl) (by show C.heap.size ≠ l2; omega)
    have hTX : RdT X (.node k' f' a' s' ns' ks') (.agg #[.int .i64 k', .int .i64 f', .int .i64 a', .string s', .slice Ab nb cb, .slice Bb mb db]) := (HTX.out.carry (by omega) (fun q e => heap_round hCb hX (by omega) (by omega))).rd
    have hbX : Below w4.heap.size w4 X := by
      have ht := turn_round (R := Ri) hCb hX HLO.out (by omega : w4.heap.size ≤ l2)
      exact turn_below HBL.out ht (Nat.le_refl _) (Nat.le_refl _)
    have HRES := Lib.hid hres; have HBXX := Lib.hid hbX; have HSX := Lib.hid hsX
    rcases (show k' = 1 ∨ k' = 2 ∨ k' = 3 ∨ k' = 4 ∨ ¬ (1 ≤ k' ∧ k' ≤ 4) by omega) with rfl | rfl | rfl | rfl | hno
    · have PR0 := kind1_any 1 f' a' s' Ab Bb nb cb mb db X hmb _ (Lib.hid rfl)
      rw [← HNL.out, ← HML.out, nodeB_1 f' a' s' ns' ks'] at PR0
      rw [HNL.out, HML.out] at PR0
      have PR := Lib.hid PR0
      have hlk' : (Instr.lookup 44 (.map (some br)) (.int .i64 1) true).run Try.prog X = .ok (.tuple #[.func (.func 39) #[] #[], .bool true]) X := hlk
      clear hlk PR0 hlt hn hCb hX4 hsX hruX hres hTX hbX hX
      generalize hbb : nodeB (.node 1 f' a' s' ns' ks') = bb at PR
      have HBB := Lib.hid hbb
      clear hbb
      gi_wp2_with fail
      refine call_round PR.out ?_
      rintro e wa ⟨rfl, hba⟩
      have hra := boxed_below HRES.out hba
      have hca := hra.cell
      have hfa := hra.frozen
      have HBA := Lib.hid hba; have HRA := Lib.hid hra
      clear hba hra hlk' PR hk0 hk1 hk2 hk3 hk4 hk5 hbrX
      cases bb
      · have HF := Lib.hid (show rightT (.node k f a s ns ks) = false by rw [HRT.out]; exact all_pre HPX.out HBB.out)
        gi_wp2_with fail
        exact right_leave HN.out.1 (by have := HN.out; omega) HBXX.out HBA.out HBW4.out HRA.out HF.out (fun q e => by have := HRI.out q e; have := HL.out; have := HN.out; have := HSX.out; omega)
      · have HA := Lib.hid (show (p ++ [(lv, Tr.node 1 f' a' s' ns' ks')]).all (fun x => nodeB x.2) = true by rw [List.all_append, HALL.out]; simp [HBB.out])
        gi_wp2_with fail
        exact ⟨Spares.of_below HBA.out (fun q e => by have := HN.out; have := HSX.out; have := HL.out; omega) (fun q e => by have := HRI.out q e; have := HSX.out; omega), HA.out, HBXX.out.trans (HBA.out.mono HBXX.out.size)⟩
    · have PR0 := kind2_any 2 f' a' s' Ab Bb nb cb mb db X hmb hnb (by have := HSS.out; unfold reachBytes at this; omega)
      rw [← HNL.out, ← HML.out, nodeB_2 f' a' s' ns' ks'] at PR0
      rw [HNL.out, HML.out] at PR0
      have PR := Lib.hid PR0
      have hlk' : (Instr.lookup 44 (.map (some br)) (.int .i64 2) true).run Try.prog X = .ok (.tuple #[.func (.func 41) #[] #[], .bool true]) X := hlk
      clear hlk PR0 hlt hn hCb hX4 hsX hruX hres hTX hbX hX
      generalize hbb : nodeB (.node 2 f' a' s' ns' ks') = bb at PR
      have HBB := Lib.hid hbb
      clear hbb
      gi_wp2_with fail
      refine call_round PR.out ?_
      rintro e wa ⟨rfl, hba⟩
      have hra := boxed_below HRES.out hba
      have hca := hra.cell
      have hfa := hra.frozen
      have HBA := Lib.hid hba; have HRA := Lib.hid hra
      clear hba hra hlk' PR hk0 hk1 hk2 hk3 hk4 hk5 hbrX
      cases bb
      · have HF := Lib.hid (show rightT (.node k f a s ns ks) = false by rw [HRT.out]; exact all_pre HPX.out HBB.out)
        gi_wp2_with fail
        exact right_leave HN.out.1 (by have := HN.out; omega) HBXX.out HBA.out HBW4.out HRA.out HF.out (fun q e => by have := HRI.out q e; have := HL.out; have := HN.out; have := HSX.out; omega)
      · have HA := Lib.hid (show (p ++ [(lv, Tr.node 2 f' a' s' ns' ks')]).all (fun x => nodeB x.2) = true by rw [List.all_append, HALL.out]; simp [HBB.out])
        gi_wp2_with fail
        exact ⟨Spares.of_below HBA.out (fun q e => by have := HN.out; have := HSX.out; have := HL.out; omega) (fun q e => by have := HRI.out q e; have := HSX.out; omega), HA.out, HBXX.out.trans (HBA.out.mono HBXX.out.size)⟩
    · have PR0 := kind3_any 3 f' a' s' Ab Bb nb cb mb db X _ _ _ _ _ _ hruX hmb hnb _ (Lib.hid rfl)
      rw [← HNL.out, ← HML.out, nodeB_3 f' a' s' ns' ks'] at PR0
      rw [HNL.out, HML.out] at PR0
      have PR := Lib.hid PR0
      have hlk' : (Instr.lookup 44 (.map (some br)) (.int .i64 3) true).run Try.prog X = .ok (.tuple #[.func (.func 43) #[] #[.pointer (some ⟨b1, 0, none⟩)], .bool true]) X := hlk
      clear hlk PR0 hlt hn hCb hX4 hsX hruX hres hTX hbX hX
      generalize hbb : nodeB (.node 3 f' a' s' ns' ks') = bb at PR
      have HBB := Lib.hid hbb
      clear hbb
      gi_wp2_with fail
      refine call_round PR.out ?_
      rintro e wa ⟨rfl, hba⟩
      have hra := boxed_below HRES.out hba
      have hca := hra.cell
      have hfa := hra.frozen
      have HBA := Lib.hid hba; have HRA := Lib.hid hra
      clear hba hra hlk' PR hk0 hk1 hk2 hk3 hk4 hk5 hbrX
      cases bb
      · have HF := Lib.hid (show rightT (.node k f a s ns ks) = false by rw [HRT.out]; exact all_pre HPX.out HBB.out)
        gi_wp2_with fail
        exact right_leave HN.out.1 (by have := HN.out; omega) HBXX.out HBA.out HBW4.out HRA.out HF.out (fun q e => by have := HRI.out q e; have := HL.out; have := HN.out; have := HSX.out; omega)
      · have HA := Lib.hid (show (p ++ [(lv, Tr.node 3 f' a' s' ns' ks')]).all (fun x => nodeB x.2) = true by rw [List.all_append, HALL.out]; simp [HBB.out])
        gi_wp2_with fail
        exact ⟨Spares.of_below HBA.out (fun q e => by have := HN.out; have := HSX.out; have := HL.out; omega) (fun q e => by have := HRI.out q e; have := HSX.out; omega), HA.out, HBXX.out.trans (HBA.out.mono HBXX.out.size)⟩
    · have PR0 := kind4_any 4 f' a' s' ns' ks' Ab Bb nb cb mb db X _ _ _ _ _ _ hTX hruX _ (Lib.hid rfl)
      rw [← HNL.out, ← HML.out, nodeB_4 f' a' s' ns' ks'] at PR0
      rw [HNL.out, HML.out] at PR0
      have PR := Lib.hid PR0
      have hlk' : (Instr.lookup 44 (.map (some br)) (.int .i64 4) true).run Try.prog X = .ok (.tuple #[.func (.func 45) #[] #[.pointer (some ⟨b2, 0, none⟩)], .bool true]) X := hlk
      clear hlk PR0 hlt hn hCb hX4 hsX hruX hres hTX hbX hX
      generalize hbb : nodeB (.node 4 f' a' s' ns' ks') = bb at PR
      have HBB := Lib.hid hbb
      clear hbb
      gi_wp2_with fail
      refine call_round PR.out ?_
      rintro e wa ⟨rfl, hba⟩
      have hra := boxed_below HRES.out hba
      have hca := hra.cell
      have hfa := hra.frozen
      have HBA := Lib.hid hba; have HRA := Lib.hid hra
      clear hba hra hlk' PR hk0 hk1 hk2 hk3 hk4 hk5 hbrX
      cases bb
      · have HF := Lib.hid (show rightT (.node k f a s ns ks) = false by rw [HRT.out]; exact all_pre HPX.out HBB.out)
        gi_wp2_with fail
        exact right_leave HN.out.1 (by have := HN.out; omega) HBXX.out HBA.out HBW4.out HRA.out HF.out (fun q e => by have := HRI.out q e; have := HL.out; have := HN.out; have := HSX.out; omega)
      · have HA := Lib.hid (show (p ++ [(lv, Tr.node 4 f' a' s' ns' ks')]).all (fun x => nodeB x.2) = true by rw [List.all_append, HALL.out]; simp [HBB.out])
        gi_wp2_with fail
        exact ⟨Spares.of_below HBA.out (fun q e => by have := HN.out; have := HSX.out; have := HL.out; omega) (fun q e => by have := HRI.out q e; have := HSX.out; omega), HA.out, HBXX.out.trans (HBA.out.mono HBXX.out.size)⟩
    · have hlk' : (Instr.lookup 44 (.map (some br)) (.int .i64 k') true).run Try.prog X = .ok (.tuple #[.nilFunc, .bool false]) X := by
        rw [hlk]
        unfold ruleV
        rw [if_neg (by omega), if_neg (by omega), if_neg (by omega), if_neg (by omega), decide_eq_false hno]
      have HF := Lib.hid (show rightT (.node k f a s ns ks) = false by rw [HRT.out]; exact all_pre HPX.out (nodeB_0 k' f' a' s' ns' ks' hno))
      have hca := hres.cell
      have hfa := hres.frozen
      have HNO := Lib.hid hno
      clear hlk hlt hn hCb hX4 hsX hruX hres hTX hbX hX hno
      gi_wp2_with fail
      refine ⟨(fun f h => by cases h), ?_⟩
      gi_wp2_with fail
      exact right_leave HN.out.1 (by have := HN.out; omega) HBXX.out (Below.refl _ _) HBW4.out HRES.out HF.out (fun q e => by have := HRI.out q e; have := HL.out; have := HN.out; have := HSX.out; omega)
    -- END ROUND
  case done =>
    rintro D Ri X hD ⟨hall, hbl⟩ hK
    have h1 := boxed_as HBX.out ((hbl.block _ (by have := HN.out; omega)).trans (HB04.out.block _ (by have := HBX.out.lt; omega)))
    have hc1 := h1.cell; have hf1 := h1.frozen
    have HALL := Lib.hid hall; have HBL := Lib.hid (HBW4.out.trans (hbl.mono HBW4.out.size)); have HK := Lib.hid hK; have HD1 := Lib.hid hD; have H1 := Lib.hid h1
    clear h1 hall hbl hK hD
    go_wp2_with fail
    have hn := HN.out
    have hk5 : (X.setCell ⟨w.heap.size + 1, 0, none⟩ (.bool true)).heap[D]? = some (.deferred (some [])) := (Below.heap_setCell X ⟨w.heap.size + 1, 0, none⟩ (.bool true) D (by have := HD1.out; show D ≠ w.heap.size + 1; omega)).trans HK.out
    have hcell : ((X.setCell ⟨w.heap.size + 1, 0, none⟩ (.bool true)).putObj D (.deferred none)).cell? ⟨w.heap.size + 1, 0, none⟩ = some (.bool true) := cell_put (H1.out.set _).cell hk5 rfl
    refine ⟨by simp, .inl ⟨_, _, rfl, run_takeDeferred hk5, ?_⟩⟩
    refine ⟨.bool true, by simp [results, Try.results10, go_sem, hcell], by rw [HRT.out, HALL.out], ?_⟩
    have hb9 := HBL.out.setCell (p := ⟨w.heap.size + 1, 0, none⟩) (by show w.heap.size ≤ w.heap.size + 1; omega) (.bool true)
    exact hb9.grown (grownBy_putObj' _ D (.deferred none)) hb9.size (fun q e => by cases e; have := HD1.out; omega)
  case stop =>
    rintro D c Ri p X hD _ ⟨rfl, hF, hbl, h1, hsz⟩ hK
    have HF := Lib.hid hF; have HBL := Lib.hid hbl; have HK := Lib.hid hK; have HD1 := Lib.hid hD; have H1 := Lib.hid h1
    clear h1 hF hbl hK hD hsz
    gi_wp2_with fail
    have hn := HN.out
    have hcell : (X.putObj D (.deferred none)).cell? ⟨w.heap.size + 1, 0, none⟩ = some (.bool false) := cell_put H1.out.cell HK.out rfl
    refine ⟨by simp, .inl ⟨_, _, rfl, run_takeDeferred HK.out, ?_⟩⟩
    refine ⟨.bool false, by simp [results, Try.results10, go_sem, hcell], by rw [HF.out], ?_⟩
    exact HBL.out.grown (grownBy_putObj' _ D (.deferred none)) HBL.out.size (fun q e => by cases e; have := HD1.out; omega)
theorem right_any (T : Tr) (v : Value) (w : World) (hT : RdT w T v) (hd : deepT T ≤ 999) (hz : sizeT T ≤ 1000000) : Calls Try.prog 10 #[v] w (Say w (rightT T)) := by
  by_cases h : deepT T ≤ 100
  · exact right_flat T v w hT hd hz h
  · exact right_deep T v w hT hd hz (by omega)
end Go.Proofs.Ytbcnilkenkmabaa.tr
