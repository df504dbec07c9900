/- Package lex: the token that a text begins with. -/
import Derived.Test.YthgojbaindejjaaGreatDoorLexNum
import Derived.Test.YthgojbaindejjaaGreatDoorLexGly
import Derived.LoopN
import Derived.Laws.EntriesVeiled
import Derived.Deep.RegionHeld3
import Derived.IntWalk
namespace Go.Proofs.YthgojbaindejjaaGreatDoor.lx
open Go.ChangeShapes Go.WideShapes Go.ChangeAt Go.RowKit Go.Proofs.YthgojbaindejjaaGreatDoor.mem Go.Proofs.YthgojbaindejjaaGreatDoor.txt
set_option linter.unusedVariables false

theorem clone_any (l : List UInt8) (hl : l.length ≤ 1000000) (w : World) : Calls Tryz.prog 82 #[.string (strOf l)] w (Str w l) := by
  have C := Lib.hid (Tryz.stringslite_Clone (strOf l) w (by rw [strOf_size]; omega))
  go_enter Tryz.func82, Tryz.ntmps82
  go_wp2_with fail
  refine C.out.mono ?_
  rintro e w' ⟨rfl, hb⟩
  have HB := Lib.hid hb; clear hb
  go_wp2_with fail
  go_ret
  exact ⟨rfl, HB.out⟩
/-- A token and true, or none and false. -/
def Fst (w : World) (o : Option Tk) (e : Ending) (w' : World) : Prop :=
  (match o with
    | some t => e = .returned (.tuple #[.agg #[.int .i64 t.k, .string (strOf t.t), .int .i64 t.n], .bool true])
    | none => e = .returned (.tuple #[.agg #[.int .i64 0, .string ⟨#[]⟩, .int .i64 0], .bool false])) ∧ Below w.heap.size w w'
/-- A block of a token's three cells, none of them written yet. -/
def Res3 (w : World) (b : Nat) : Prop := b < w.heap.size ∧ (w.cell? ⟨b, 0, none⟩ = some (.int .i64 0) ∧ w.cell? ⟨b, 1, none⟩ = some (.string ⟨#[]⟩) ∧ w.cell? ⟨b, 2, none⟩ = some (.int .i64 0)) ∧ w.frozen? ⟨b, 0, none⟩ = false ∧ w.frozen? ⟨b, 1, none⟩ = false ∧ w.frozen? ⟨b, 2, none⟩ = false
theorem Res3.below {w w' : World} {b : Nat} (h : Res3 w b) (hb : Below w.heap.size w w') : Res3 w' b := by
  obtain ⟨h0, ⟨h1, h2, h3⟩, f1, f2, f3⟩ := h
  exact ⟨Nat.lt_of_lt_of_le h0 hb.size, ⟨(hb.cell (p := ⟨b, 0, none⟩) h0).trans h1, (hb.cell (p := ⟨b, 1, none⟩) h0).trans h2, (hb.cell (p := ⟨b, 2, none⟩) h0).trans h3⟩, (hb.frozen (p := ⟨b, 0, none⟩) h0).trans f1, (hb.frozen (p := ⟨b, 1, none⟩) h0).trans f2, (hb.frozen (p := ⟨b, 2, none⟩) h0).trans f3⟩
theorem res3_new (w : World) (t : TypeId) : Res3 (w.alloc (.cells #[.int .i64 0, .string ⟨#[]⟩, .int .i64 0] t)) w.heap.size := by
  refine ⟨by simp, ⟨?_, ?_, ?_⟩, ?_, ?_, ?_⟩
  · rw [cell_of_row _ _ _ _ t (0, 0) (heap_alloc_new w _)]; rfl
  · rw [cell_of_row _ _ _ _ t (0, 0) (heap_alloc_new w _)]; rfl
  · rw [cell_of_row _ _ _ _ t (0, 0) (heap_alloc_new w _)]; rfl
  · exact frozen_of_row _ _ _ _ t (heap_alloc_new w _)
  · exact frozen_of_row _ _ _ _ t (heap_alloc_new w _)
  · exact frozen_of_row _ _ _ _ t (heap_alloc_new w _)
/-- The block's first cell holds the number. -/
def One1 (w : World) (b : Nat) (k : Int) : Prop := b < w.heap.size ∧ w.cell? ⟨b, 0, none⟩ = some (.int .i64 k)
theorem One1.below {w w' : World} {b : Nat} {k : Int} (h : One1 w b k) (hb : Below w.heap.size w w') : One1 w' b k :=
  ⟨Nat.lt_of_lt_of_le h.1 hb.size, (hb.cell (p := ⟨b, 0, none⟩) h.1).trans h.2⟩
theorem one1_new (w : World) (t : TypeId) (k : Int) (f : Value) : One1 (w.alloc (.cells #[.int .i64 k, f] t)) w.heap.size k := by
  refine ⟨by simp, ?_⟩
  rw [cell_of_row _ _ _ _ t (0, 0) (heap_alloc_new w _)]; rfl
theorem set_off {w : World} {p q : Addr} {x v : Value} (h : w.cell? q = some x) (hne : q.block ≠ p.block) : (w.setCell p v).cell? q = some x := (World.cell?_of_block (Below.heap_setCell _ _ _ _ hne)).trans h
theorem set3_keep {w : World} {b c : Nat} {x a0 a1 a2 : Value} (h : w.cell? ⟨b, 0, none⟩ = some x) (hne : b ≠ c) : (((w.setCell ⟨c, 0, none⟩ a0).setCell ⟨c, 1, none⟩ a1).setCell ⟨c, 2, none⟩ a2).cell? ⟨b, 0, none⟩ = some x :=
  set_off (set_off (set_off h hne) hne) hne
def rowV : Value := .agg #[.int .i64 1, .func (.func 79) #[] #[], .int .i64 2, .func (.func 80) #[] #[], .int .i64 3, .func (.func 81) #[] #[]]
theorem row_at0 (w : World) : (Instr.index 126 (.agg #[.int .i64 1, .func (.func 79) #[] #[], .int .i64 2, .func (.func 80) #[] #[], .int .i64 3, .func (.func 81) #[] #[]]) (.int .i64 0)).run Tryz.prog w = .ok (.agg #[.int .i64 1, .func (.func 79) #[] #[]]) w := by kernel_rfl
theorem row_at1 (w : World) : (Instr.index 126 (.agg #[.int .i64 1, .func (.func 79) #[] #[], .int .i64 2, .func (.func 80) #[] #[], .int .i64 3, .func (.func 81) #[] #[]]) (.int .i64 1)).run Tryz.prog w = .ok (.agg #[.int .i64 2, .func (.func 80) #[] #[]]) w := by kernel_rfl
theorem row_at2 (w : World) : (Instr.index 126 (.agg #[.int .i64 1, .func (.func 79) #[] #[], .int .i64 2, .func (.func 80) #[] #[], .int .i64 3, .func (.func 81) #[] #[]]) (.int .i64 2)).run Tryz.prog w = .ok (.agg #[.int .i64 3, .func (.func 81) #[] #[]]) w := by kernel_rfl
set_option maxHeartbeats 2000000 in
set_option maxRecDepth 100000 in
theorem first_word (l : List UInt8) (hl : l.length ≤ 65536) (w : World) (h : wordL l ≠ []) : Calls Tryz.prog 69 #[.string (strOf l)] w (Fst w (some ⟨1, wordL l, 0⟩)) := by
  have W := Lib.hid (fun W => word_any (strOf l) W (by rw [strOf_size]; omega))
  rw [bl_str] at W
  have hlen : (wordL l).length ≤ l.length := by obtain ⟨r, h⟩ := word_pre l; have := congrArg List.length h; rw [List.length_append] at this; omega
  have C := Lib.hid (clone_any (wordL l) (by omega))
  obtain ⟨e1, e2⟩ := full_list h
  obtain ⟨R, hR⟩ : ∃ R, R = wordL l := ⟨_, rfl⟩
  rw [← hR] at W C e1 e2 ⊢
  clear hR hlen h
  have I0 := row_at0; have I1 := row_at1; have I2 := row_at2
  go_enter Tryz.func69, Tryz.ntmps69
  go_wp2_with fail
  refine wp_loop_rounds 4 ?_
  rw [rounds_succ]
  go_wp2_with fail
  have HV := Lib.hid (res3_new w 75)
  have HB := Lib.hid ((Below.refl w.heap.size w).alloc (Nat.le_refl _) (.cells #[.int .i64 0, .string ⟨#[]⟩, .int .i64 0] 75))
  have HS0 : Hid ((w.alloc (.cells #[.int .i64 0, .string ⟨#[]⟩, .int .i64 0] 75)).heap.size = w.heap.size + 1) := Lib.hid (by simp)
  generalize w.alloc (.cells #[.int .i64 0, .string ⟨#[]⟩, .int .i64 0] 75) = w0 at *
  obtain ⟨b1, hb1⟩ : ∃ b, b = w.heap.size + 1 := ⟨_, rfl⟩
  rw [← hb1] at HS0 ⊢
  have HNE1 : Hid (b1 ≠ w.heap.size) := Lib.hid (by omega)
  clear hb1
  have HO := Lib.hid (one1_new w0 125 1 (.func (.func 79) #[] #[]))
  rw [HS0.out] at HO
  have HV := Lib.hid (HV.out.below ((Below.refl w0.heap.size w0).alloc (Nat.le_refl _) (.cells #[.int .i64 1, .func (.func 79) #[] #[]] 125)))
  have HB := Lib.hid (HB.out.alloc HB.out.size (.cells #[.int .i64 1, .func (.func 79) #[] #[]] 125))
  generalize w0.alloc (.cells #[.int .i64 1, .func (.func 79) #[] #[]] 125) = U1 at *
  refine (W.out _).mono ?_
  rintro e w1 ⟨rfl, hb⟩
  have HV := Lib.hid (HV.out.below hb)
  have HO := Lib.hid (HO.out.below hb)
  have HB := Lib.hid (HB.out.trans (hb.mono HB.out.size)); clear hb
  go_wp2_with fail
  have HKC := Lib.hid (fun U (h : Below w1.heap.size w1 U) => (HO.out.below h).2)
  have hk0 := HKC.out w1 (Below.refl _ _)
  have P1 := Lib.hid (fun U (h : Hid (Below w1.heap.size w1 U)) => (C.out U).mono (R' := fun e U' => e = .returned (.string (strOf R)) ∧ Hid (Below w1.heap.size w1 U')) fun e U' ⟨he, hb⟩ => ⟨he, Lib.hid (h.out.trans (hb.mono h.out.size))⟩)
  have HD := Lib.hid (Below.refl w1.heap.size w1)
  go_region_held3 (fun w' => w'.cell? ⟨b1, 0, none⟩ = some (.int .i64 1)) (first | go_keep | exact set3_keep u1 HNE1.out)
    ((go_at_call 82; (with_reducible refine (P1.out _ (by first | assumption | exact Lib.hid (Below.refl _ _) | exact Lib.hid (Below.drew (Below.refl _ _)))).mono ?_); rintro e w9 ⟨rfl, HK2⟩; have u1 := HKC.out _ HK2.out; obtain ⟨v0, ⟨v1, v2, v3⟩, f1, f2, f3⟩ := HV.out.below HK2.out))
  all_goals
    go_wp2_with fail
    refine bodyPost_ret (v := .tuple #[.agg #[.int .i64 1, .string (strOf R), .int .i64 0], .bool true]) (by simp [results, Tryz.results69, go_sem, v1, v2, v3]) rfl ⟨rfl, ?_⟩
    exact (((HB.out.trans (HK2.out.mono HB.out.size)).setCell (Nat.le_refl _) _).setCell (Nat.le_refl _) _).setCell (Nat.le_refl _) _
set_option maxHeartbeats 2000000 in
set_option maxRecDepth 100000 in
theorem first_number (l : List UInt8) (hl : l.length ≤ 65536) (w : World) (hL : Lays w) (h0 : wordL l = []) (n : Int) (h : numB (digL l) (negB l) = some n) : Calls Tryz.prog 69 #[.string (strOf l)] w (Fst w (some ⟨2, preL l ++ digL l, n⟩)) := by
  have W := Lib.hid (fun W => word_any (strOf l) W (by rw [strOf_size]; omega))
  rw [bl_str] at W
  have N := Lib.hid (fun W h => number_any l hl W h)
  have hr : numR l = (preL l ++ digL l, n) := by unfold numR; rw [h]
  rw [h0] at W
  rw [hr] at N
  have hlen : (preL l ++ digL l).length ≤ l.length := by obtain ⟨r, h⟩ := num_pre l; have := congrArg List.length h; rw [List.length_append] at this; omega
  have C := Lib.hid (clone_any (preL l ++ digL l) (by omega))
  obtain ⟨e1, e2⟩ := full_list (show preL l ++ digL l ≠ [] from fun e => (numB_some h).1 (List.append_eq_nil_iff.1 e).2)
  obtain ⟨z1, z2⟩ := empty_list (rfl : ([] : List UInt8) = [])
  obtain ⟨R, hR⟩ : ∃ R, R = preL l ++ digL l := ⟨_, rfl⟩
  rw [← hR] at N C e1 e2 ⊢
  have HL := Lib.hid hL
  clear hR hlen h hr h0 hL
  have I0 := row_at0; have I1 := row_at1; have I2 := row_at2
  go_enter Tryz.func69, Tryz.ntmps69
  go_wp2_with fail
  refine wp_loop_rounds 4 ?_
  rw [rounds_succ]
  go_wp2_with fail
  have HV := Lib.hid (res3_new w 75)
  have HB := Lib.hid ((Below.refl w.heap.size w).alloc (Nat.le_refl _) (.cells #[.int .i64 0, .string ⟨#[]⟩, .int .i64 0] 75))
  have HS0 : Hid ((w.alloc (.cells #[.int .i64 0, .string ⟨#[]⟩, .int .i64 0] 75)).heap.size = w.heap.size + 1) := Lib.hid (by simp)
  generalize w.alloc (.cells #[.int .i64 0, .string ⟨#[]⟩, .int .i64 0] 75) = w0 at *
  obtain ⟨b1, hb1⟩ : ∃ b, b = w.heap.size + 1 := ⟨_, rfl⟩
  rw [← hb1] at HS0 ⊢
  have HNE1 : Hid (b1 ≠ w.heap.size) := Lib.hid (by omega)
  clear hb1
  have HO := Lib.hid (one1_new w0 125 1 (.func (.func 79) #[] #[]))
  rw [HS0.out] at HO
  have HV := Lib.hid (HV.out.below ((Below.refl w0.heap.size w0).alloc (Nat.le_refl _) (.cells #[.int .i64 1, .func (.func 79) #[] #[]] 125)))
  have HB := Lib.hid (HB.out.alloc HB.out.size (.cells #[.int .i64 1, .func (.func 79) #[] #[]] 125))
  generalize w0.alloc (.cells #[.int .i64 1, .func (.func 79) #[] #[]] 125) = U1 at *
  refine (W.out _).mono ?_
  rintro e w1 ⟨rfl, hb⟩
  have HV := Lib.hid (HV.out.below hb)
  have HO := Lib.hid (HO.out.below hb)
  have HB := Lib.hid (HB.out.trans (hb.mono HB.out.size)); clear hb
  go_wp2_with fail
  rw [rounds_succ]
  go_wp2_with fail
  obtain ⟨b2, hb2⟩ : ∃ b, b = w1.heap.size := ⟨_, rfl⟩
  have HNE2 : Hid (b2 ≠ w.heap.size) := Lib.hid (by have := HV.out.1; omega)
  have HS0 : Hid (w1.heap.size = b2) := Lib.hid hb2.symm
  rw [← hb2]
  clear hb2
  have HO := Lib.hid (one1_new w1 125 2 (.func (.func 80) #[] #[]))
  rw [HS0.out] at HO
  have HV := Lib.hid (HV.out.below ((Below.refl w1.heap.size w1).alloc (Nat.le_refl _) (.cells #[.int .i64 2, .func (.func 80) #[] #[]] 125)))
  have HB := Lib.hid (HB.out.alloc HB.out.size (.cells #[.int .i64 2, .func (.func 80) #[] #[]] 125))
  generalize w1.alloc (.cells #[.int .i64 2, .func (.func 80) #[] #[]] 125) = U2 at *
  refine (N.out _ (HL.out.below HB.out)).mono ?_
  rintro e w2 ⟨rfl, hb⟩
  have HV := Lib.hid (HV.out.below hb)
  have HO := Lib.hid (HO.out.below hb)
  have HB := Lib.hid (HB.out.trans (hb.mono HB.out.size)); clear hb
  go_wp2_with fail
  have HKC := Lib.hid (fun U (h : Below w2.heap.size w2 U) => (HO.out.below h).2)
  have hk0 := HKC.out w2 (Below.refl _ _)
  have P1 := Lib.hid (fun U (h : Hid (Below w2.heap.size w2 U)) => (C.out U).mono (R' := fun e U' => e = .returned (.string (strOf R)) ∧ Hid (Below w2.heap.size w2 U')) fun e U' ⟨he, hb⟩ => ⟨he, Lib.hid (h.out.trans (hb.mono h.out.size))⟩)
  have HD := Lib.hid (Below.refl w2.heap.size w2)
  go_region_held3 (fun w' => w'.cell? ⟨b2, 0, none⟩ = some (.int .i64 2)) (first | go_keep | exact set3_keep u1 HNE2.out)
    ((go_at_call 82; (with_reducible refine (P1.out _ (by first | assumption | exact Lib.hid (Below.refl _ _) | exact Lib.hid (Below.drew (Below.refl _ _)))).mono ?_); rintro e w9 ⟨rfl, HK2⟩; have u1 := HKC.out _ HK2.out; obtain ⟨v0, ⟨v1, v2, v3⟩, f1, f2, f3⟩ := HV.out.below HK2.out))
  all_goals
    go_wp2_with fail
    refine bodyPost_ret (v := .tuple #[.agg #[.int .i64 2, .string (strOf R), .int .i64 n], .bool true]) (by simp [results, Tryz.results69, go_sem, v1, v2, v3]) rfl ⟨rfl, ?_⟩
    exact (((HB.out.trans (HK2.out.mono HB.out.size)).setCell (Nat.le_refl _) _).setCell (Nat.le_refl _) _).setCell (Nat.le_refl _) _
set_option maxHeartbeats 2000000 in
set_option maxRecDepth 100000 in
theorem first_glyph (l : List UInt8) (hl : l.length ≤ 65536) (w : World) (hL : Lays w) (h0 : wordL l = []) (h1 : numB (digL l) (negB l) = none) (h : glyL l ≠ []) : Calls Tryz.prog 69 #[.string (strOf l)] w (Fst w (some ⟨3, glyL l, 0⟩)) := by
  have W := Lib.hid (fun W => word_any (strOf l) W (by rw [strOf_size]; omega))
  rw [bl_str] at W
  have N := Lib.hid (fun W h => number_any l hl W h)
  have G := Lib.hid (fun W => glyph_any l W)
  have hr : numR l = ([], 0) := by unfold numR; rw [h1]
  rw [h0] at W
  rw [hr] at N
  have hlen : (glyL l).length ≤ l.length := by obtain ⟨r, h⟩ := gly_pre l; have := congrArg List.length h; rw [List.length_append] at this; omega
  have C := Lib.hid (clone_any (glyL l) (by omega))
  obtain ⟨e1, e2⟩ := full_list h
  obtain ⟨z1, z2⟩ := empty_list (rfl : ([] : List UInt8) = [])
  obtain ⟨R, hR⟩ : ∃ R, R = glyL l := ⟨_, rfl⟩
  rw [← hR] at G C e1 e2 ⊢
  have HL := Lib.hid hL
  clear hR hlen h hr h0 h1 hL
  have I0 := row_at0; have I1 := row_at1; have I2 := row_at2
  go_enter Tryz.func69, Tryz.ntmps69
  go_wp2_with fail
  refine wp_loop_rounds 4 ?_
  rw [rounds_succ]
  go_wp2_with fail
  have HV := Lib.hid (res3_new w 75)
  have HB := Lib.hid ((Below.refl w.heap.size w).alloc (Nat.le_refl _) (.cells #[.int .i64 0, .string ⟨#[]⟩, .int .i64 0] 75))
  have HS0 : Hid ((w.alloc (.cells #[.int .i64 0, .string ⟨#[]⟩, .int .i64 0] 75)).heap.size = w.heap.size + 1) := Lib.hid (by simp)
  generalize w.alloc (.cells #[.int .i64 0, .string ⟨#[]⟩, .int .i64 0] 75) = w0 at *
  obtain ⟨b1, hb1⟩ : ∃ b, b = w.heap.size + 1 := ⟨_, rfl⟩
  rw [← hb1] at HS0 ⊢
  have HNE1 : Hid (b1 ≠ w.heap.size) := Lib.hid (by omega)
  clear hb1
  have HO := Lib.hid (one1_new w0 125 1 (.func (.func 79) #[] #[]))
  rw [HS0.out] at HO
  have HV := Lib.hid (HV.out.below ((Below.refl w0.heap.size w0).alloc (Nat.le_refl _) (.cells #[.int .i64 1, .func (.func 79) #[] #[]] 125)))
  have HB := Lib.hid (HB.out.alloc HB.out.size (.cells #[.int .i64 1, .func (.func 79) #[] #[]] 125))
  generalize w0.alloc (.cells #[.int .i64 1, .func (.func 79) #[] #[]] 125) = U1 at *
  refine (W.out _).mono ?_
  rintro e w1 ⟨rfl, hb⟩
  have HV := Lib.hid (HV.out.below hb)
  have HO := Lib.hid (HO.out.below hb)
  have HB := Lib.hid (HB.out.trans (hb.mono HB.out.size)); clear hb
  go_wp2_with fail
  rw [rounds_succ]
  go_wp2_with fail
  obtain ⟨b2, hb2⟩ : ∃ b, b = w1.heap.size := ⟨_, rfl⟩
  have HNE2 : Hid (b2 ≠ w.heap.size) := Lib.hid (by have := HV.out.1; omega)
  have HS0 : Hid (w1.heap.size = b2) := Lib.hid hb2.symm
  rw [← hb2]
  clear hb2
  have HO := Lib.hid (one1_new w1 125 2 (.func (.func 80) #[] #[]))
  rw [HS0.out] at HO
  have HV := Lib.hid (HV.out.below ((Below.refl w1.heap.size w1).alloc (Nat.le_refl _) (.cells #[.int .i64 2, .func (.func 80) #[] #[]] 125)))
  have HB := Lib.hid (HB.out.alloc HB.out.size (.cells #[.int .i64 2, .func (.func 80) #[] #[]] 125))
  generalize w1.alloc (.cells #[.int .i64 2, .func (.func 80) #[] #[]] 125) = U2 at *
  refine (N.out _ (HL.out.below HB.out)).mono ?_
  rintro e w2 ⟨rfl, hb⟩
  have HV := Lib.hid (HV.out.below hb)
  have HO := Lib.hid (HO.out.below hb)
  have HB := Lib.hid (HB.out.trans (hb.mono HB.out.size)); clear hb
  go_wp2_with fail
  rw [rounds_succ]
  go_wp2_with fail
  obtain ⟨b3, hb3⟩ : ∃ b, b = w2.heap.size := ⟨_, rfl⟩
  have HNE3 : Hid (b3 ≠ w.heap.size) := Lib.hid (by have := HV.out.1; omega)
  have HS0 : Hid (w2.heap.size = b3) := Lib.hid hb3.symm
  rw [← hb3]
  clear hb3
  have HO := Lib.hid (one1_new w2 125 3 (.func (.func 81) #[] #[]))
  rw [HS0.out] at HO
  have HV := Lib.hid (HV.out.below ((Below.refl w2.heap.size w2).alloc (Nat.le_refl _) (.cells #[.int .i64 3, .func (.func 81) #[] #[]] 125)))
  have HB := Lib.hid (HB.out.alloc HB.out.size (.cells #[.int .i64 3, .func (.func 81) #[] #[]] 125))
  generalize w2.alloc (.cells #[.int .i64 3, .func (.func 81) #[] #[]] 125) = U3 at *
  refine (G.out _).mono ?_
  rintro e w3 ⟨rfl, hb⟩
  have HV := Lib.hid (HV.out.below hb)
  have HO := Lib.hid (HO.out.below hb)
  have HB := Lib.hid (HB.out.trans (hb.mono HB.out.size)); clear hb
  go_wp2_with fail
  have HKC := Lib.hid (fun U (h : Below w3.heap.size w3 U) => (HO.out.below h).2)
  have hk0 := HKC.out w3 (Below.refl _ _)
  have P1 := Lib.hid (fun U (h : Hid (Below w3.heap.size w3 U)) => (C.out U).mono (R' := fun e U' => e = .returned (.string (strOf R)) ∧ Hid (Below w3.heap.size w3 U')) fun e U' ⟨he, hb⟩ => ⟨he, Lib.hid (h.out.trans (hb.mono h.out.size))⟩)
  have HD := Lib.hid (Below.refl w3.heap.size w3)
  go_region_held3 (fun w' => w'.cell? ⟨b3, 0, none⟩ = some (.int .i64 3)) (first | go_keep | exact set3_keep u1 HNE3.out)
    ((go_at_call 82; (with_reducible refine (P1.out _ (by first | assumption | exact Lib.hid (Below.refl _ _) | exact Lib.hid (Below.drew (Below.refl _ _)))).mono ?_); rintro e w9 ⟨rfl, HK2⟩; have u1 := HKC.out _ HK2.out; obtain ⟨v0, ⟨v1, v2, v3⟩, f1, f2, f3⟩ := HV.out.below HK2.out))
  all_goals
    go_wp2_with fail
    refine bodyPost_ret (v := .tuple #[.agg #[.int .i64 3, .string (strOf R), .int .i64 0], .bool true]) (by simp [results, Tryz.results69, go_sem, v1, v2, v3]) rfl ⟨rfl, ?_⟩
    exact (((HB.out.trans (HK2.out.mono HB.out.size)).setCell (Nat.le_refl _) _).setCell (Nat.le_refl _) _).setCell (Nat.le_refl _) _
set_option maxHeartbeats 2000000 in
set_option maxRecDepth 100000 in
theorem first_none (l : List UInt8) (hl : l.length ≤ 65536) (w : World) (hL : Lays w) (h0 : wordL l = []) (h1 : numB (digL l) (negB l) = none) (h : glyL l = []) : Calls Tryz.prog 69 #[.string (strOf l)] w (Fst w none) := by
  have W := Lib.hid (fun W => word_any (strOf l) W (by rw [strOf_size]; omega))
  rw [bl_str] at W
  have N := Lib.hid (fun W h => number_any l hl W h)
  have G := Lib.hid (fun W => glyph_any l W)
  have hr : numR l = ([], 0) := by unfold numR; rw [h1]
  rw [h0] at W
  rw [hr] at N
  rw [h] at G
  obtain ⟨z1, z2⟩ := empty_list (rfl : ([] : List UInt8) = [])
  have HL := Lib.hid hL
  clear h hr h0 h1 hL
  have I0 := row_at0; have I1 := row_at1; have I2 := row_at2
  go_enter Tryz.func69, Tryz.ntmps69
  go_wp2_with fail
  refine wp_loop_rounds 4 ?_
  rw [rounds_succ]
  go_wp2_with fail
  have HV := Lib.hid (res3_new w 75)
  have HB := Lib.hid ((Below.refl w.heap.size w).alloc (Nat.le_refl _) (.cells #[.int .i64 0, .string ⟨#[]⟩, .int .i64 0] 75))
  have HS0 : Hid ((w.alloc (.cells #[.int .i64 0, .string ⟨#[]⟩, .int .i64 0] 75)).heap.size = w.heap.size + 1) := Lib.hid (by simp)
  generalize w.alloc (.cells #[.int .i64 0, .string ⟨#[]⟩, .int .i64 0] 75) = w0 at *
  obtain ⟨b1, hb1⟩ : ∃ b, b = w.heap.size + 1 := ⟨_, rfl⟩
  rw [← hb1] at HS0 ⊢
  have HNE1 : Hid (b1 ≠ w.heap.size) := Lib.hid (by omega)
  clear hb1
  have HO := Lib.hid (one1_new w0 125 1 (.func (.func 79) #[] #[]))
  rw [HS0.out] at HO
  have HV := Lib.hid (HV.out.below ((Below.refl w0.heap.size w0).alloc (Nat.le_refl _) (.cells #[.int .i64 1, .func (.func 79) #[] #[]] 125)))
  have HB := Lib.hid (HB.out.alloc HB.out.size (.cells #[.int .i64 1, .func (.func 79) #[] #[]] 125))
  generalize w0.alloc (.cells #[.int .i64 1, .func (.func 79) #[] #[]] 125) = U1 at *
  refine (W.out _).mono ?_
  rintro e w1 ⟨rfl, hb⟩
  have HV := Lib.hid (HV.out.below hb)
  have HO := Lib.hid (HO.out.below hb)
  have HB := Lib.hid (HB.out.trans (hb.mono HB.out.size)); clear hb
  go_wp2_with fail
  rw [rounds_succ]
  go_wp2_with fail
  obtain ⟨b2, hb2⟩ : ∃ b, b = w1.heap.size := ⟨_, rfl⟩
  have HNE2 : Hid (b2 ≠ w.heap.size) := Lib.hid (by have := HV.out.1; omega)
  have HS0 : Hid (w1.heap.size = b2) := Lib.hid hb2.symm
  rw [← hb2]
  clear hb2
  have HO := Lib.hid (one1_new w1 125 2 (.func (.func 80) #[] #[]))
  rw [HS0.out] at HO
  have HV := Lib.hid (HV.out.below ((Below.refl w1.heap.size w1).alloc (Nat.le_refl _) (.cells #[.int .i64 2, .func (.func 80) #[] #[]] 125)))
  have HB := Lib.hid (HB.out.alloc HB.out.size (.cells #[.int .i64 2, .func (.func 80) #[] #[]] 125))
  generalize w1.alloc (.cells #[.int .i64 2, .func (.func 80) #[] #[]] 125) = U2 at *
  refine (N.out _ (HL.out.below HB.out)).mono ?_
  rintro e w2 ⟨rfl, hb⟩
  have HV := Lib.hid (HV.out.below hb)
  have HO := Lib.hid (HO.out.below hb)
  have HB := Lib.hid (HB.out.trans (hb.mono HB.out.size)); clear hb
  go_wp2_with fail
  rw [rounds_succ]
  go_wp2_with fail
  obtain ⟨b3, hb3⟩ : ∃ b, b = w2.heap.size := ⟨_, rfl⟩
  have HNE3 : Hid (b3 ≠ w.heap.size) := Lib.hid (by have := HV.out.1; omega)
  have HS0 : Hid (w2.heap.size = b3) := Lib.hid hb3.symm
  rw [← hb3]
  clear hb3
  have HO := Lib.hid (one1_new w2 125 3 (.func (.func 81) #[] #[]))
  rw [HS0.out] at HO
  have HV := Lib.hid (HV.out.below ((Below.refl w2.heap.size w2).alloc (Nat.le_refl _) (.cells #[.int .i64 3, .func (.func 81) #[] #[]] 125)))
  have HB := Lib.hid (HB.out.alloc HB.out.size (.cells #[.int .i64 3, .func (.func 81) #[] #[]] 125))
  generalize w2.alloc (.cells #[.int .i64 3, .func (.func 81) #[] #[]] 125) = U3 at *
  refine (G.out _).mono ?_
  rintro e w3 ⟨rfl, hb⟩
  have HV := Lib.hid (HV.out.below hb)
  have HO := Lib.hid (HO.out.below hb)
  have HB := Lib.hid (HB.out.trans (hb.mono HB.out.size)); clear hb
  go_wp2_with fail
  rw [rounds_succ]
  obtain ⟨v0, ⟨v1, v2, v3⟩, f1, f2, f3⟩ := HV.out
  go_wp2_with fail
  refine bodyPost_ret (v := .tuple #[.agg #[.int .i64 0, .string ⟨#[]⟩, .int .i64 0], .bool false]) (by simp [results, Tryz.results69, go_sem, v1, v2, v3]) rfl ⟨rfl, ?_⟩
  exact ((HB.out.setCell (Nat.le_refl _) _).setCell (Nat.le_refl _) _).setCell (Nat.le_refl _) _
theorem first_any (l : List UInt8) (hl : l.length ≤ 65536) (w : World) (hL : Lays w) : Calls Tryz.prog 69 #[.string (strOf l)] w (Fst w (fir l)) := by
  unfold fir
  by_cases hw : wordL l ≠ []
  · rw [if_pos hw]; exact first_word l hl w hw
  · have hw' : wordL l = [] := by simpa using hw
    rw [if_neg hw]
    cases hn : numB (digL l) (negB l) with
    | some n => exact first_number l hl w hL hw' n hn
    | none =>
      by_cases hg : glyL l ≠ []
      · simp only []; rw [if_pos hg]; exact first_glyph l hl w hL hw' hn hg
      · simp only []; rw [if_neg hg]; exact first_none l hl w hL hw' hn (by simpa using hg)
end Go.Proofs.YthgojbaindejjaaGreatDoor.lx
