/- Package show: the writer at work: a part, a function, numbers. Package show: the texts of a function with its axis and of numbers are written. Package show: the text of a tree is written. -/
import Derived.Test.YthgojbaindejjaaGreatDoorShWr
import Derived.Test.YthgojbaindejjaaGreatDoorShRef
/- Package show: the writer at work: a part, a function, numbers. -/
namespace Go.Proofs.YthgojbaindejjaaGreatDoor.sh
open Go.ChangeShapes Go.WideShapes Go.ChangeAt Go.RowKit Go.Proofs.YthgojbaindejjaaGreatDoor.mem Go.Proofs.YthgojbaindejjaaGreatDoor.lx Go.Proofs.YthgojbaindejjaaGreatDoor.tr Go.Proofs.YthgojbaindejjaaGreatDoor.ps
set_option linter.unusedVariables false
set_option linter.unusedSimpArgs false

/-- The table of glyphs is as the program lays it. -/
def Glyphs (w : World) : Prop := ∀ f : Nat, 1 ≤ f → f ≤ 6 → w.cell? ⟨0, f, none⟩ = some (.string (txt.strOf (glyF f)))
def ShEnv (w : World) : Prop := Lays w ∧ Glyphs w
theorem ShEnv.below {w w' : World} (h : ShEnv w) (hb : Below w.heap.size w w') : ShEnv w' :=
  ⟨h.1.below hb, fun f h1 h2 => (hb.cell (p := ⟨_, f, none⟩) (Lib.lt_of_cell (h.2 f h1 h2))).trans (h.2 f h1 h2)⟩
def outC (c : Bool) (l s : List UInt8) : List UInt8 := if c then l else l ++ s
theorem outC_app (c : Bool) (l s t : List UInt8) : outC c (outC c l s) t = outC c l (s ++ t) := by cases c <;> simp [outC]
theorem outC_nil (c : Bool) (l : List UInt8) : outC c l [] = l := by cases c <;> simp [outC]
theorem outC_len (c : Bool) (l s : List UInt8) : (outC c l s).length ≤ l.length + s.length := by cases c <;> simp [outC]
/-- A writer at work in block b: behind the base world w0. -/
structure Job (w0 : World) (b : Nat) (l : List UInt8) (r : Int) (c : Bool) (w : World) : Prop where
  wr : Wr w0.heap.size b l r c w
  base : Below w0.heap.size w0 w
  env : ShEnv w0
  room : 0 ≤ r
  sum : (l.length : Int) + r ≤ 2147483647
/-- What a writing call answers and leaves. -/
def Wrote (w0 : World) (b : Nat) (l : List UInt8) (r : Int) (c : Bool) (w : World) (s : List UInt8) (e : Ending) (w' : World) : Prop :=
  e = .returned (.tuple #[]) ∧ Job w0 b (outC c l s) (r - s.length) c w' ∧ Fr w0.heap.size b w w'
theorem Job.then {w0 : World} {b : Nat} {l s t : List UInt8} {r : Int} {c : Bool} {w : World} (h : Job w0 b (outC c (outC c l s) t) (r - s.length - t.length) c w) : Job w0 b (outC c l (s ++ t)) (r - (s ++ t).length) c w := by
  rw [outC_app] at h
  have e : r - (s ++ t).length = r - s.length - t.length := by rw [List.length_append]; omega
  rw [e]
  exact h
theorem Job.envNow {w0 : World} {b : Nat} {l : List UInt8} {r : Int} {c : Bool} {w : World} (h : Job w0 b l r c w) : ShEnv w := h.env.below h.base
theorem Job.move {w0 : World} {b : Nat} {l : List UInt8} {r : Int} {c : Bool} {w w' : World} (h : Job w0 b l r c w) (hw : Wr w0.heap.size b l r c w') (hb : Below w0.heap.size w w') : Job w0 b l r c w' := ⟨hw, h.base.trans hb, h.env, h.room, h.sum⟩
theorem Job.alloc {w0 : World} {b : Nat} {l : List UInt8} {r : Int} {c : Bool} {w : World} (h : Job w0 b l r c w) (o : Obj) : Job w0 b l r c (w.alloc o) := h.move (h.wr.alloc o) ((Below.refl _ w).alloc h.wr.base _)
theorem WrAt.later {B b : Nat} {p : Value} {l : List UInt8} {r : Int} {c : Bool} {w w' : World} (h : WrAt B b p l r c w) (hb : Below w.heap.size w w') : WrAt B b p l r c w' := by
  have hlt := h.lt
  obtain ⟨hB, v, hbk, hown, hne⟩ := h
  exact ⟨hB, v, (hb.block b hlt).trans hbk, hown.kept (row := none) ⟨hb.os, hb.tape, hb.output, hb.size, fun k hk _ => hb.block k hk⟩ (by cases hv : v.ownBlock <;> simp), hne⟩
theorem Job.later {w0 : World} {b : Nat} {l : List UInt8} {r : Int} {c : Bool} {w w' : World} (h : Job w0 b l r c w) (hb : Below w.heap.size w w') : Job w0 b l r c w' :=
  h.move (h.wr.elim (fun h => .inl (h.later hb)) (fun h => .inr (h.later hb))) (hb.mono h.wr.base)
theorem Fr.later {B b : Nat} {w w' : World} (hB : B ≤ w.heap.size) (hb : Below w.heap.size w w') : Fr B b w w' :=
  ⟨hb.mono hB, fun k o hk _ _ => (hb.block k (Array.getElem?_eq_some_iff.1 hk).1).trans hk⟩

/-! ### Boxes beside the writer -/
def Bx (w : World) (g : Nat) (t : TypeId) (xs : Array Value) : Prop := w.heap[g]? = some (.cells xs t (0, 0))
theorem Bx.kept {B b g : Nat} {w w' : World} {t : TypeId} {xs : Array Value} (h : Bx w g t xs) (hf : Fr B b w w') (hne : g ≠ b) (ht : t ≠ 5) : Bx w' g t xs :=
  hf.2 g _ h (fun e => hne (Option.some.inj e)) (fun c fz e => by injection e with _ e _; exact absurd e ht)
theorem Bx.cell {w : World} {g : Nat} {t : TypeId} {xs : Array Value} (h : Bx w g t xs) (j : Nat) : w.cell? ⟨g, j, none⟩ = xs[j]? := Lib.cell_of_heap h j
theorem Bx.six {w : World} {g : Nat} {t : TypeId} {x0 x1 x2 x3 x4 x5 : Value} (h : Bx w g t #[x0, x1, x2, x3, x4, x5]) : w.cell? ⟨g, 0, none⟩ = some x0 ∧ w.cell? ⟨g, 1, none⟩ = some x1 ∧ w.cell? ⟨g, 2, none⟩ = some x2 ∧ w.cell? ⟨g, 3, none⟩ = some x3 ∧ w.cell? ⟨g, 4, none⟩ = some x4 ∧ w.cell? ⟨g, 5, none⟩ = some x5 :=
  ⟨h.cell 0, h.cell 1, h.cell 2, h.cell 3, h.cell 4, h.cell 5⟩
theorem Bx.seven {w : World} {g : Nat} {t : TypeId} {x0 x1 x2 x3 x4 x5 x6 : Value} (h : Bx w g t #[x0, x1, x2, x3, x4, x5, x6]) : w.cell? ⟨g, 0, none⟩ = some x0 ∧ w.cell? ⟨g, 1, none⟩ = some x1 ∧ w.cell? ⟨g, 2, none⟩ = some x2 ∧ w.cell? ⟨g, 3, none⟩ = some x3 ∧ w.cell? ⟨g, 4, none⟩ = some x4 ∧ w.cell? ⟨g, 5, none⟩ = some x5 ∧ w.cell? ⟨g, 6, none⟩ = some x6 :=
  ⟨h.cell 0, h.cell 1, h.cell 2, h.cell 3, h.cell 4, h.cell 5, h.cell 6⟩

set_option maxHeartbeats 4000000 in
set_option maxRecDepth 100000 in
theorem part_any (w0 : World) (b : Nat) (l : List UInt8) (r : Int) (c : Bool) (s : List UInt8) (w : World) (h : Job w0 b l r c w) (hs : s ≠ []) (hr : (s.length : Int) ≤ r) :
    Calls Tryz.prog 49 #[.pointer (some ⟨b, 0, none⟩), .string (txt.strOf s)] w (Wrote w0 b l r c w s) := by
  obtain ⟨x2, x3, f2⟩ := wr_cells h.wr
  have hsz := txt.strOf_size s
  have hse : ((txt.strOf s).toList == []) = false := by rw [toList_str]; cases s <;> simp at hs ⊢
  have hsum := h.sum
  have hwrap : IntKind.i64.wrap (r - s.length) = r - s.length := by rw [IntKind.wrap_i64]; omega
  have hgt : ¬ r < (s.length : Int) := by omega
  obtain ⟨V, hV⟩ : ∃ V, V = w.setCell ⟨b, 2, none⟩ (.int .i64 (r - s.length)) := ⟨_, rfl⟩
  have hfr : Fr w0.heap.size b w V := by
    rw [hV]
    have : w0.heap.size ≤ b := h.wr.elim (·.1) (·.1)
    exact ⟨(Below.refl _ w).setCell (p := ⟨b, 2, none⟩) this _, (Lib.OthersKept.refl _ _ w).setCell ⟨b, 2, none⟩ rfl _⟩
  have hwr : Wr w0.heap.size b l (r - s.length) c V := by rw [hV]; exact h.wr.room _
  obtain ⟨y2, y3, -⟩ := wr_cells hwr
  have HFR := Lib.hid hfr
  have HV := Lib.hid hV
  have WS := Lib.hid (writeString_any w0.heap.size b l s (r - s.length) c V hwr (by omega))
  have HB := Lib.hid h.base
  have HE := Lib.hid h.env
  have HWR := Lib.hid hwr
  have HS := Lib.hid (And.intro hsum hr)
  clear h hs hfr hwr hV hsum hr
  go_enter Tryz.func49, Tryz.ntmps49
  go_upto_region 3 with fail
  rw [← HV.out]
  clear x2 x3
  cases c with
  | true =>
    go_wp2_with fail
    go_end0
    exact ⟨rfl, ⟨HWR.out, HB.out.trans HFR.out.1, HE.out, by have := HS.out; omega, by have := HS.out; simp only [outC, if_true]; omega⟩, HFR.out⟩
  | false =>
    go_wp2_with fail
    refine WS.out.mono ?_
    rintro e w1 ⟨rfl, h1, hf⟩
    go_wp2_with fail
    go_end0
    exact ⟨rfl, ⟨h1, (HB.out.trans HFR.out.1).trans hf.1, HE.out, by have := HS.out; omega, by have := HS.out; have := outC_len false l s; omega⟩, HFR.out.trans hf⟩
end Go.Proofs.YthgojbaindejjaaGreatDoor.sh

/- Package show: the texts of a function with its axis and of numbers are written. -/
namespace Go.Proofs.YthgojbaindejjaaGreatDoor.sh
open Go.ChangeShapes Go.WideShapes Go.ChangeAt Go.RowKit Go.Proofs.YthgojbaindejjaaGreatDoor.mem Go.Proofs.YthgojbaindejjaaGreatDoor.lx Go.Proofs.YthgojbaindejjaaGreatDoor.tr Go.Proofs.YthgojbaindejjaaGreatDoor.ps
set_option linter.unusedVariables false
set_option linter.unusedSimpArgs false

theorem decL_ne (x : Int) : decL x ≠ [] := by
  unfold decL
  split
  · intro e
    exact digits_ne _ (List.append_eq_nil_iff.1 e).2
  · exact digits_ne _
/-- A new box beside the writer. -/
theorem box_new {w0 : World} {b : Nat} {l : List UInt8} {r : Int} {c : Bool} {w W : World} {xs : Array Value} {t : TypeId} (h : Job w0 b l r c w) (hW : W = w.alloc (.cells xs t)) : Job w0 b l r c W ∧ Bx W w.heap.size t xs ∧ Fr w0.heap.size b w W ∧ w.heap.size ≠ b := by
  subst hW
  exact ⟨h.alloc _, heap_alloc_new w _, Fr.alloc h.wr.base _, by have := h.wr.lt; omega⟩
set_option maxHeartbeats 4000000 in
set_option maxRecDepth 100000 in
theorem fun_any (w0 : World) (b : Nat) (l : List UInt8) (r : Int) (c : Bool) {F ax : Int} (hF1 : 1 ≤ F) (hF2 : F ≤ 6) (hax : ax = -1 ∨ (0 ≤ ax ∧ ax ≤ 15)) (k : Int) (s : ByteArray) (A B : Option Addr) (n q m d : Nat) (w : World) (h : Job w0 b l r c w) (hr : ((fnS F ax).length : Int) ≤ r) :
    Calls Tryz.prog 64 #[.pointer (some ⟨b, 0, none⟩), .agg #[.int .i64 k, .int .i64 F, .int .i64 ax, .string s, .slice A n q, .slice B m d]] w (Wrote w0 b l r c w (fnS F ax)) := by
  obtain ⟨W, hW⟩ : ∃ W, W = w.alloc (.cells #[.int .i64 k, .int .i64 F, .int .i64 ax, .string s, .slice A n q, .slice B m d] 25) := ⟨_, rfl⟩
  obtain ⟨hJ, hX, hf, hne⟩ := box_new h hW
  have HJ := Lib.hid hJ
  have HX := Lib.hid hX
  have HF := Lib.hid hf
  have HN := Lib.hid hne
  have HW := Lib.hid hW
  have PP := Lib.hid (fun (l : List UInt8) (r : Int) (s : List UInt8) (w : World) (h : Job w0 b l r c w) (h1 : s ≠ []) (h2 : (s.length : Int) ≤ r) => part_any w0 b l r c s w h h1 h2)
  obtain ⟨x0, x1, x2, x3, x4, x5⟩ := hX.six
  obtain ⟨f, rfl⟩ : ∃ f : Nat, F = (f : Int) := ⟨F.toNat, by omega⟩
  have hg := hJ.envNow.2 f (by omega) (by omega)
  have HGL : Hid (glyF f ≠ []) := Lib.hid (by rcases six hF1 hF2 with h | h | h | h | h | h <;> rw [h] <;> decide)
  obtain ⟨g, hgg⟩ : ∃ g, g = glyF (f : Int) := ⟨_, rfl⟩
  rw [← hgg] at hg HGL
  have hf7 : (f : Int) < 7 := by omega
  have hfu : fnS f ax = g ++ axS ax := by unfold fnS; rw [← hgg]
  have HR := Lib.hid (show (g.length : Int) + (axS ax).length ≤ r by rw [hfu, List.length_append] at hr; omega)
  rw [hfu]
  clear h hr hW hJ hX hf hne hgg hfu
  rcases hax with rfl | ⟨ha1, ha2⟩
  · have HE : Hid (axS (-1) = []) := Lib.hid (by unfold axS; rw [if_neg (by decide)])
    clear hF1 hF2
    go_enter Tryz.func64, Tryz.ntmps64
    go_upto_region 1 with fail
    rw [← HW.out]
    go_wp2_with fail
    refine (PP.out _ _ g _ HJ.out HGL.out (by have := HR.out; omega)).mono ?_
    rintro e w1 ⟨rfl, h1, hf1⟩
    have HJ1 := Lib.hid h1
    have HF1 := Lib.hid hf1
    clear x0 x1 x2 x3 x4 x5 hg
    obtain ⟨x0, x1, x2, x3, x4, x5⟩ := (HX.out.kept hf1 HN.out (by decide)).six
    clear h1 hf1
    go_wp2_with fail
    go_end0
    exact ⟨rfl, by rw [HE.out, List.append_nil]; exact HJ1.out, HF.out.trans HF1.out⟩
  · have HE : Hid (axS ax = [91] ++ (decL ax ++ [93])) := Lib.hid (by unfold axS; rw [if_pos ha1]; rfl)
    rw [HE.out] at HR
    have HR' := Lib.hid (show (g.length : Int) + 1 + (decL ax).length + 1 ≤ r by have := HR.out; simp only [List.length_append, List.length_cons, List.length_nil] at this; omega)
    have PD := Lib.hid (fun W h => decimal7_any ax (by omega) (by omega) W h)
    have hm1 : (ax == -1) = false := by simp; omega
    have hm2 : (ax != -1) = true := by simp; omega
    clear hF1 hF2
    go_enter Tryz.func64, Tryz.ntmps64
    go_upto_region 1 with fail
    rw [← HW.out]
    go_wp2_with fail
    refine (PP.out _ _ g _ HJ.out HGL.out (by have := HR'.out; omega)).mono ?_
    rintro e w1 ⟨rfl, h1, hf1⟩
    have HJ1 := Lib.hid h1
    have HF1 := Lib.hid (HF.out.trans hf1)
    have HX1 := Lib.hid (HX.out.kept hf1 HN.out (by decide))
    clear x0 x1 x2 x3 x4 x5 hg h1 hf1
    obtain ⟨x0, x1, x2, x3, x4, x5⟩ := HX1.out.six
    go_wp2_with fail
    refine (PP.out _ _ [91] _ HJ1.out (by simp) (by have := HR'.out; simp only [List.length_cons, List.length_nil]; omega)).mono ?_
    rintro e w2 ⟨rfl, h1, hf1⟩
    have HJ2 := Lib.hid h1
    have HF2 := Lib.hid (HF1.out.trans hf1)
    have HX2 := Lib.hid (HX1.out.kept hf1 HN.out (by decide))
    clear x0 x1 x2 x3 x4 x5 h1 hf1
    obtain ⟨x0, x1, x2, x3, x4, x5⟩ := HX2.out.six
    go_wp2_with fail
    refine (PD.out _ HJ2.out.envNow.1).mono ?_
    rintro e w3 ⟨rfl, hb⟩
    have HJ3 := Lib.hid (HJ2.out.later hb)
    have HF3 := Lib.hid (HF2.out.trans (Fr.later HJ2.out.wr.base hb))
    clear x0 x1 x2 x3 x4 x5 hb
    go_wp2_with fail
    refine (PP.out _ _ (decL ax) _ HJ3.out (decL_ne _) (by have := HR'.out; simp only [List.length_cons, List.length_nil]; omega)).mono ?_
    rintro e w4 ⟨rfl, h1, hf1⟩
    have HJ4 := Lib.hid h1
    have HF4 := Lib.hid (HF3.out.trans hf1)
    clear h1 hf1
    go_wp2_with fail
    refine (PP.out _ _ [93] _ HJ4.out (by simp) (by have := HR'.out; simp only [List.length_cons, List.length_nil]; omega)).mono ?_
    rintro e w5 ⟨rfl, h1, hf1⟩
    have HJ5 := Lib.hid h1
    have HF5 := Lib.hid (HF4.out.trans hf1)
    clear h1 hf1
    go_wp2_with fail
    go_end0
    refine ⟨rfl, ?_, HF5.out⟩
    rw [HE.out]
    have e1 := HJ5.out.then.then.then
    simpa only [List.append_assoc] using e1

/-! ### Numbers -/
set_option maxHeartbeats 4000000 in
set_option maxRecDepth 100000 in
theorem num_nil (w0 : World) (b : Nat) (l : List UInt8) (r : Int) (c : Bool) (A : Option Addr) (q : Nat) (w : World) (h : Job w0 b l r c w) (hr : (gZil.length : Int) ≤ r) :
    Calls Tryz.prog 63 #[.pointer (some ⟨b, 0, none⟩), .slice A 0 q] w (Wrote w0 b l r c w gZil) := by
  have PP := Lib.hid (part_any w0 b l r c gZil w h (by decide) hr)
  clear h hr
  go_enter Tryz.func63, Tryz.ntmps63
  go_wp2_with fail
  refine PP.out.mono ?_
  rintro e w1 ⟨rfl, h1, hf1⟩
  have HJ1 := Lib.hid h1
  have HF1 := Lib.hid hf1
  clear h1 hf1
  go_wp2_with fail
  go_loopw [13] (fun i wr => i = .int .i64 0 ∧ wr = w1) (fun i _ => 0)
  case atStart => exact ⟨rfl, rfl⟩
  case round =>
    obtain ⟨rfl, hw⟩ := hrel
    obtain rfl := hw.symm
    clear hw
    go_wp2_with fail
    go_end0
    exact ⟨rfl, HJ1.out, HF1.out⟩
set_option maxHeartbeats 4000000 in
set_option maxRecDepth 100000 in
theorem num_some (w0 : World) (b : Nat) (l : List UInt8) (r : Int) (c : Bool) (A : Option Addr) (n q : Nat) (ns : List Int) (w : World) (h : Job w0 b l r c w) (hr : Rd w0 A n ns) (hn0 : 0 < n) (hn44 : n ≤ 17592186044416) (hns : ∀ n ∈ ns, -9223372036854775808 ≤ n ∧ n ≤ 9223372036854775807) (hl : ((litS ns).length : Int) ≤ r) :
    Calls Tryz.prog 63 #[.pointer (some ⟨b, 0, none⟩), .slice A n q] w (Wrote w0 b l r c w (litS ns)) := by
  have PP := Lib.hid (fun (l : List UInt8) (r : Int) (s : List UInt8) (w : World) (h : Job w0 b l r c w) (h1 : s ≠ []) (h2 : (s.length : Int) ≤ r) => part_any w0 b l r c s w h h1 h2)
  have PD := Lib.hid (fun x h1 h2 W h => decimal7_any x h1 h2 W h)
  have HR := Lib.hid hr
  have HNS := Lib.hid hns
  have HL := Lib.hid hl
  have HJ0 := Lib.hid (show Job w0 b (outC c l []) (r - ([] : List UInt8).length) c w by rw [outC_nil]; simpa using h)
  have HF0 := Lib.hid (Fr.refl w0.heap.size b w)
  have hz : ((n : Int) == 0) = false := by simp; omega
  clear h hr hns hl
  go_enter Tryz.func63, Tryz.ntmps63
  go_wp2_with fail
  go_loopw [13] (fun i wr => ∃ k : Nat, k ≤ n ∧ i = .int .i64 k ∧ ∃ D : List UInt8, Hid (LitAt ns k D) ∧ Hid (Job w0 b (outC c l D) (r - D.length) c wr) ∧ Hid (Fr w0.heap.size b w wr)) (fun i _ => n - (intOf i).toNat)
  case atStart => exact ⟨0, Nat.zero_le _, rfl, [], Lib.hid (.inl ⟨rfl, rfl⟩), HJ0, HF0⟩
  case round =>
    obtain ⟨k, hk, rfl, D, HD, HJ, HF⟩ := hrel
    by_cases hlt : k < n
    · obtain ⟨x, hx⟩ : ∃ x, ns[k]? = some x := ⟨_, List.getElem?_eq_getElem (by rw [HR.out.1]; exact hlt)⟩
      obtain ⟨ad, rfl, _, q1⟩ := (HR.out.below HJ.out.base).2 k hlt
      have hg : ns.getD k 0 = x := by simp [List.getD, hx]
      rw [hg] at q1
      have hxx := HNS.out x (List.mem_of_getElem? hx)
      have P := Lib.hid (PD.out x hxx.1 hxx.2)
      have hLL := HL.out
      rcases Nat.eq_zero_or_pos k with h0 | h0
      · have hD0 : D = [] := by
          rcases HD.out with ⟨_, h⟩ | ⟨h, _⟩
          · exact h
          · omega
        subst hD0
        have hN := (show LitAt ns (k + 1) ([] ++ decL x) by rw [h0, List.nil_append]; exact litAt_one (by rw [← h0]; exact hx))
        have HN := Lib.hid hN
        have HLN := Lib.hid (litAt_len hN)
        have h0' : ¬ 0 < k := by omega
        have h0'' : ¬ (0 : Int) < k := by omega
        clear hLL hx hxx hg h0 hN
        go_wp2_with fail
        refine (P.out _ HJ.out.envNow.1).mono ?_
        rintro e w1 ⟨rfl, hb⟩
        have HJ1 := Lib.hid (HJ.out.later hb)
        have HF1 := Lib.hid (HF.out.trans (Fr.later HJ.out.wr.base hb))
        clear hb q1
        go_wp2_with fail
        refine (PP.out _ _ (decL x) _ HJ1.out (decL_ne _) (by have := HLN.out; have := HL.out; simp only [List.length_append, List.length_nil] at this ⊢; simp only [List.nil_append] at *; omega)).mono ?_
        rintro e w2 ⟨rfl, h1, hf1⟩
        have HJ2 := Lib.hid h1.then
        have HF2 := Lib.hid (HF1.out.trans hf1)
        clear h1 hf1
        go_wp2_with fail
        go_roundw
        case rel => exact ⟨k + 1, by omega, by go_num, _, HN, HJ2, HF2⟩
        case measure => first | (simp [intOf]; done) | (simp [intOf]; omega)
      · have hN := litAt_next hx h0 HD.out
        have HN := Lib.hid hN
        have HLN := Lib.hid (litAt_len hN)
        have h0'' : (0 : Int) < k := by omega
        clear hLL hx hxx hg hN
        go_wp2_with fail
        refine (PP.out _ _ [32] _ HJ.out (by simp) (by have := HLN.out; have := HL.out; simp only [List.length_append, List.length_cons, List.length_nil] at *; omega)).mono ?_
        rintro e w1 ⟨rfl, h1, hf1⟩
        have HJ1 := Lib.hid h1.then
        have HF1 := Lib.hid (HF.out.trans hf1)
        clear h1 hf1 q1
        go_wp2_with fail
        refine (P.out _ HJ1.out.envNow.1).mono ?_
        rintro e w2 ⟨rfl, hb⟩
        have HJ2 := Lib.hid (HJ1.out.later hb)
        have HF2 := Lib.hid (HF1.out.trans (Fr.later HJ1.out.wr.base hb))
        clear hb
        go_wp2_with fail
        refine (PP.out _ _ (decL x) _ HJ2.out (decL_ne _) (by have := HLN.out; have := HL.out; simp only [List.length_append, List.length_cons, List.length_nil] at *; omega)).mono ?_
        rintro e w3 ⟨rfl, h1, hf1⟩
        have HJ3 := Lib.hid h1.then
        have HF3 := Lib.hid (HF2.out.trans hf1)
        clear h1 hf1
        go_wp2_with fail
        go_roundw
        case rel => exact ⟨k + 1, by omega, by go_num, _, HN, HJ3, HF3⟩
        case measure => first | (simp [intOf]; done) | (simp [intOf]; omega)
    · obtain rfl : k = n := by omega
      have HE : Hid (D = litS ns) := Lib.hid (litAt_end (fun e => by have := HR.out.1; rw [e] at this; simp at this; omega) (by rw [HR.out.1]; exact HD.out))
      go_wp2_with fail
      go_end0
      exact ⟨rfl, by rw [← HE.out]; exact HJ.out, HF.out⟩
theorem num_any (w0 : World) (b : Nat) (l : List UInt8) (r : Int) (c : Bool) (A : Option Addr) (n q : Nat) (ns : List Int) (w : World) (h : Job w0 b l r c w) (hr : Rd w0 A n ns) (hn44 : n ≤ 17592186044416) (hns : ∀ n ∈ ns, -9223372036854775808 ≤ n ∧ n ≤ 9223372036854775807) (hl : ((litS ns).length : Int) ≤ r) :
    Calls Tryz.prog 63 #[.pointer (some ⟨b, 0, none⟩), .slice A n q] w (Wrote w0 b l r c w (litS ns)) := by
  rcases Nat.eq_zero_or_pos n with h0 | h0
  · subst h0
    obtain rfl : ns = [] := List.eq_nil_of_length_eq_zero hr.1
    exact num_nil w0 b l r c A q w h hl
  · exact num_some w0 b l r c A n q ns w h hr h0 hn44 hns hl
end Go.Proofs.YthgojbaindejjaaGreatDoor.sh

/- Package show: the text of a tree is written. -/
namespace Go.Proofs.YthgojbaindejjaaGreatDoor.sh
open Go.ChangeShapes Go.WideShapes Go.ChangeAt Go.RowKit Go.Proofs.YthgojbaindejjaaGreatDoor.mem Go.Proofs.YthgojbaindejjaaGreatDoor.lx Go.Proofs.YthgojbaindejjaaGreatDoor.tr Go.Proofs.YthgojbaindejjaaGreatDoor.ps
set_option linter.unusedVariables false
set_option linter.unusedSimpArgs false

theorem deep_mon (F ax : Int) (T : Tr) : deepT (mon F ax T) = deepT T + 1 := by unfold mon; simp [deepT, deepL]
theorem deep_dy (F ax : Int) (U T : Tr) : deepT U + 1 ≤ deepT (dy F ax U T) ∧ deepT T + 1 ≤ deepT (dy F ax U T) := by
  unfold dy
  simp only [deepT, deepL]
  omega
/-- The writer writes the text of this tree. -/
def TreeOk (T : Tr) : Prop := ∀ (w0 : World) (b : Nat) (l : List UInt8) (r : Int) (c : Bool) (v : Value) (lv : Int) (w : World), Job w0 b l r c w → RdT w0 T v → 1 ≤ lv → lv + deepT T ≤ 101 → ((showT T).length : Int) ≤ r →
  Calls Tryz.prog 50 #[.pointer (some ⟨b, 0, none⟩), v, .int .i64 lv] w (Wrote w0 b l r c w (showT T))
theorem wrap_one {lv : Int} (h1 : 1 ≤ lv) (h2 : lv ≤ 101) : IntKind.i64.wrap (lv + 1) = lv + 1 := by rw [IntKind.wrap_i64]; omega
theorem deep_pos (T : Tr) : 1 ≤ deepT T := by cases T; simp only [deepT]; omega
set_option maxHeartbeats 4000000 in
set_option maxRecDepth 100000 in
theorem tree_nm (s : List UInt8) (hs : nameB s = true) : TreeOk (.node 2 0 (-1) (txt.strOf s) [] []) := by
  intro w0 b l r c v lv w h hv h1 h2 hr
  rw [show_nm] at hr ⊢
  have hd := deep_pos (.node 2 0 (-1) (txt.strOf s) [] [])
  obtain ⟨A, n, q, B, m, d, rfl, -⟩ := rdT_node.1 hv
  obtain ⟨W, hW⟩ : ∃ W, W = w.alloc (.cells #[.int .i64 2, .int .i64 0, .int .i64 (-1), .string (txt.strOf s), .slice A n q, .slice B m d] 25) := ⟨_, rfl⟩
  obtain ⟨hJ, hX, hf, hne⟩ := box_new h hW
  have PP := Lib.hid (part_any w0 b l r c s W hJ (by intro e; rw [e] at hs; revert hs; decide) hr)
  have HF := Lib.hid hf
  have HW := Lib.hid hW
  have hlv : ¬ (100 : Int) < lv := by omega
  obtain ⟨x0, x1, x2, x3, x4, x5⟩ := hX.six
  clear h hv h1 h2 hr hW hJ hX hf hne hd
  go_enter Tryz.func50, Tryz.ntmps50
  go_upto_region 1 with fail
  rw [← HW.out]
  go_wp2_with fail
  refine PP.out.mono ?_
  rintro e w1 ⟨rfl, hj, hf1⟩
  have HJ1 := Lib.hid hj
  have HF1 := Lib.hid hf1
  clear hj hf1
  go_wp2_with fail
  go_end0
  exact ⟨rfl, HJ1.out, HF.out.trans HF1.out⟩
set_option maxHeartbeats 4000000 in
set_option maxRecDepth 100000 in
theorem tree_lit (ns : List Int) (hns : ∀ n ∈ ns, -9223372036854775808 ≤ n ∧ n ≤ 9223372036854775807) : TreeOk (lit ns) := by
  intro w0 b l r c v lv w h hv h1 h2 hr
  rw [show_lit] at hr ⊢
  have hd := deep_pos (lit ns)
  unfold lit at hv
  obtain ⟨A, n, q, B, m, d, rfl, _, _, _, _, hrd, hnc, hn44, -⟩ := rdT_node.1 hv
  obtain ⟨W, hW⟩ : ∃ W, W = w.alloc (.cells #[.int .i64 1, .int .i64 0, .int .i64 (-1), .string ⟨#[]⟩, .slice A n q, .slice B m d] 25) := ⟨_, rfl⟩
  obtain ⟨hJ, hX, hf, hne⟩ := box_new h hW
  have PP := Lib.hid (num_any w0 b l r c A n q ns W hJ hrd hn44 hns hr)
  have HF := Lib.hid hf
  have HW := Lib.hid hW
  have hlv : ¬ (100 : Int) < lv := by omega
  obtain ⟨x0, x1, x2, x3, x4, x5⟩ := hX.six
  clear h hv h1 h2 hr hW hJ hX hf hne hd hrd hnc hn44 hns
  go_enter Tryz.func50, Tryz.ntmps50
  go_upto_region 1 with fail
  rw [← HW.out]
  go_wp2_with fail
  refine PP.out.mono ?_
  rintro e w1 ⟨rfl, hj, hf1⟩
  have HJ1 := Lib.hid hj
  have HF1 := Lib.hid hf1
  clear hj hf1
  go_wp2_with fail
  go_end0
  exact ⟨rfl, HJ1.out, HF.out.trans HF1.out⟩
set_option maxHeartbeats 4000000 in
set_option maxRecDepth 100000 in
theorem tree_mon (F ax : Int) (T : Tr) (g1 : 1 ≤ F) (g2 : F ≤ 6) (g3 : axOk F ax) (ih : TreeOk T) : TreeOk (mon F ax T) := by
  intro w0 b l r c v lv w h hv h1 h2 hr
  rw [show_mon] at hr ⊢
  rw [deep_mon] at h2
  rw [List.length_append] at hr
  unfold mon at hv
  obtain ⟨A, n, q, B, m, d, rfl, _, _, _, _, _, _, _, _, _, hm, hmd, _, _, hL⟩ := rdT_node.1 hv
  obtain ⟨ad, k1, f1, a1, s1, A1, n1, c1, B1, m1, d1, hB, -, hK, hT1⟩ := kid_six hL (i := 0) (T := T) rfl
  rw [add_zero6] at hK
  obtain rfl : m = 1 := by simpa using hm.symm
  subst hB
  obtain ⟨W, hW⟩ : ∃ W, W = w.alloc (.cells #[.int .i64 3, .int .i64 F, .int .i64 ax, .string ⟨#[]⟩, .slice A n q, .slice (some ad) 1 d] 25) := ⟨_, rfl⟩
  obtain ⟨hJ, hX, hf, hne⟩ := box_new h hW
  have PF := Lib.hid (fun_any w0 b l r c g1 g2 (ax_in g3) 3 ⟨#[]⟩ A (some ad) n q 1 d W hJ (by omega))
  have PT := Lib.hid (fun (l : List UInt8) (r : Int) (w : World) (h : Job w0 b l r c w) (hr : ((showT T).length : Int) ≤ r) => ih w0 b l r c _ (lv + 1) w h hT1 (by omega) (by omega) hr)
  have HK := Lib.hid hK
  have HX := Lib.hid hX
  have HF := Lib.hid hf
  have HN := Lib.hid hne
  have HW := Lib.hid hW
  have HR := Lib.hid hr
  have hlv : ¬ (100 : Int) < lv := by omega
  have hwr := wrap_one h1 (by omega)
  obtain ⟨x0, x1, x2, x3, x4, x5⟩ := hX.six
  clear h hv h1 h2 hr hW hJ hX hf hne hL hK hT1 hm ih
  go_enter Tryz.func50, Tryz.ntmps50
  go_upto_region 1 with fail
  rw [← HW.out]
  go_wp2_with fail
  refine PF.out.mono ?_
  rintro e w1 ⟨rfl, hj, hf1⟩
  have HJ1 := Lib.hid hj
  have HF1 := Lib.hid (HF.out.trans hf1)
  have HX1 := Lib.hid (HX.out.kept hf1 HN.out (by decide))
  clear x0 x1 x2 x3 x4 x5 hj hf1
  obtain ⟨x0, x1, x2, x3, x4, x5⟩ := HX1.out.six
  obtain ⟨y0, y1, y2, y3, y4, y5⟩ := HK.out w1 HJ1.out.base
  go_wp2_with fail
  refine (PT.out _ _ _ HJ1.out (by have := HR.out; omega)).mono ?_
  rintro e w2 ⟨rfl, hj, hf1⟩
  have HJ2 := Lib.hid hj.then
  have HF2 := Lib.hid (HF1.out.trans hf1)
  clear hj hf1
  go_wp2_with fail
  go_end0
  exact ⟨rfl, HJ2.out, HF2.out⟩
/-! ### A left operand -/
set_option maxHeartbeats 4000000 in
set_option maxRecDepth 100000 in
theorem left_any {U : Tr} (hk : U.kind = 1 ∨ U.kind = 2 ∨ U.kind = 3 ∨ U.kind = 4) (ih : TreeOk U) (w0 : World) (b : Nat) (l : List UInt8) (r : Int) (c : Bool) (k f a : Int) (s : ByteArray) (A B : Option Addr) (n q m d : Nat) (lv : Int) (w : World) (h : Job w0 b l r c w)
    (hv : RdT w0 U (.agg #[.int .i64 k, .int .i64 f, .int .i64 a, .string s, .slice A n q, .slice B m d])) (hku : k = U.kind) (h1 : 1 ≤ lv) (h2 : lv + deepT U ≤ 101) (hr : ((par U.kind (showT U)).length : Int) ≤ r) :
    Calls Tryz.prog 65 #[.pointer (some ⟨b, 0, none⟩), .agg #[.int .i64 k, .int .i64 f, .int .i64 a, .string s, .slice A n q, .slice B m d], .int .i64 lv] w (Wrote w0 b l r c w (par U.kind (showT U))) := by
  obtain ⟨W, hW⟩ : ∃ W, W = w.alloc (.cells #[.int .i64 k, .int .i64 f, .int .i64 a, .string s, .slice A n q, .slice B m d] 25) := ⟨_, rfl⟩
  obtain ⟨hJ, hX, hf, hne⟩ := box_new h hW
  have PT := Lib.hid (fun (l : List UInt8) (r : Int) (w : World) (h : Job w0 b l r c w) (hr : ((showT U).length : Int) ≤ r) => ih w0 b l r c _ lv w h hv h1 h2 hr)
  have PP := Lib.hid (fun (l : List UInt8) (r : Int) (s : List UInt8) (w : World) (h : Job w0 b l r c w) (h1 : s ≠ []) (h2 : (s.length : Int) ≤ r) => part_any w0 b l r c s w h h1 h2)
  have HJ := Lib.hid hJ
  have HX := Lib.hid hX
  have HF := Lib.hid hf
  have HN := Lib.hid hne
  have HW := Lib.hid hW
  obtain ⟨x0, x1, x2, x3, x4, x5⟩ := hX.six
  unfold par at hr ⊢
  by_cases h2k : 2 < U.kind
  · rw [if_pos h2k] at hr ⊢
    have HR := Lib.hid (show 1 + ((showT U).length : Int) + 1 ≤ r by simp only [List.length_append, List.length_cons, List.length_nil] at hr; omega)
    have e1 : (k == 1) = false := by simp; omega
    have e2 : (k == 2) = false := by simp; omega
    have HE : Hid ((40 :: (showT U ++ [41])) = [40] ++ (showT U ++ [41])) := Lib.hid rfl
    rw [HE.out]
    clear h hv h1 h2 hr hW hJ hX hf hne hk hku h2k ih
    go_enter Tryz.func65, Tryz.ntmps65
    go_upto_region 1 with fail
    rw [← HW.out]
    go_wp2_with fail
    refine (PP.out _ _ [40] _ HJ.out (by simp) (by have := HR.out; simp only [List.length_cons, List.length_nil]; omega)).mono ?_
    rintro e w1 ⟨rfl, hj, hf1⟩
    have HJ1 := Lib.hid hj
    have HF1 := Lib.hid (HF.out.trans hf1)
    have HX1 := Lib.hid (HX.out.kept hf1 HN.out (by decide))
    clear x0 x1 x2 x3 x4 x5 hj hf1
    obtain ⟨x0, x1, x2, x3, x4, x5⟩ := HX1.out.six
    go_wp2_with fail
    refine (PT.out _ _ _ HJ1.out (by have := HR.out; simp only [List.length_cons, List.length_nil]; omega)).mono ?_
    rintro e w2 ⟨rfl, hj, hf1⟩
    have HJ2 := Lib.hid hj
    have HF2 := Lib.hid (HF1.out.trans hf1)
    clear hj hf1
    go_wp2_with fail
    refine (PP.out _ _ [41] _ HJ2.out (by simp) (by have := HR.out; simp only [List.length_cons, List.length_nil]; omega)).mono ?_
    rintro e w3 ⟨rfl, hj, hf1⟩
    have HJ3 := Lib.hid hj
    have HF3 := Lib.hid (HF2.out.trans hf1)
    clear hj hf1
    go_wp2_with fail
    go_end0
    refine ⟨rfl, ?_, HF3.out⟩
    exact HJ3.out.then.then
  · rw [if_neg h2k] at hr ⊢
    have HR := Lib.hid hr
    have hk12 : k = 1 ∨ k = 2 := by omega
    clear h hv h1 h2 hr hW hJ hX hf hne hk hku h2k ih
    rcases hk12 with rfl | rfl
    all_goals
      go_enter Tryz.func65, Tryz.ntmps65
      go_upto_region 1 with fail
      rw [← HW.out]
      go_wp2_with fail
      refine (PT.out _ _ _ HJ.out HR.out).mono ?_
      rintro e w1 ⟨rfl, hj, hf1⟩
      have HJ1 := Lib.hid hj
      have HF1 := Lib.hid (HF.out.trans hf1)
      clear hj hf1
      go_wp2_with fail
      go_end0
      exact ⟨rfl, HJ1.out, HF1.out⟩
set_option maxHeartbeats 4000000 in
set_option maxRecDepth 100000 in
theorem tree_dy (F ax : Int) (U T : Tr) (g1 : 1 ≤ F) (g2 : F ≤ 6) (g3 : axOk F ax) (hku : U.kind = 1 ∨ U.kind = 2 ∨ U.kind = 3 ∨ U.kind = 4) (ihU : TreeOk U) (ih : TreeOk T) : TreeOk (dy F ax U T) := by
  intro w0 b l r c v lv w h hv h1 h2 hr
  rw [show_dy] at hr ⊢
  have hdd := deep_dy F ax U T
  rw [List.length_append, List.length_append] at hr
  unfold dy at hv
  obtain ⟨A, n, q, B, m, d, rfl, _, _, _, _, _, _, _, _, _, hm, hmd, _, _, hL⟩ := rdT_node.1 hv
  obtain ⟨ad, k1, f1, a1, s1, A1, n1, c1, B1, m1, d1, hB, hk1, hK, hT1⟩ := kid_six hL (i := 0) (T := U) rfl
  obtain ⟨ad2, k2, f2, a2, s2, A2, n2, c2, B2, m2, d2, hB2, -, hK2, hT2⟩ := kid_six hL (i := 1) (T := T) rfl
  rw [hB] at hB2
  injection hB2 with hB2
  subst hB2
  rw [add_zero6] at hK
  rw [add_one6] at hK2
  obtain rfl : m = 2 := by simpa using hm.symm
  subst hB
  obtain ⟨W, hW⟩ : ∃ W, W = w.alloc (.cells #[.int .i64 4, .int .i64 F, .int .i64 ax, .string ⟨#[]⟩, .slice A n q, .slice (some ad) 2 d] 25) := ⟨_, rfl⟩
  obtain ⟨hJ, hX, hf, hne⟩ := box_new h hW
  have PL := Lib.hid (left_any hku ihU w0 b l r c k1 f1 a1 s1 A1 B1 n1 c1 m1 d1 (lv + 1) W hJ hT1 hk1 (by omega) (by omega) (by omega))
  have PF := Lib.hid (fun (l : List UInt8) (r : Int) (w : World) (h : Job w0 b l r c w) (hr : ((fnS F ax).length : Int) ≤ r) => fun_any w0 b l r c g1 g2 (ax_in g3) 4 ⟨#[]⟩ A (some ad) n q 2 d w h hr)
  have PT := Lib.hid (fun (l : List UInt8) (r : Int) (w : World) (h : Job w0 b l r c w) (hr : ((showT T).length : Int) ≤ r) => ih w0 b l r c _ (lv + 1) w h hT2 (by omega) (by omega) hr)
  have HK := Lib.hid hK
  have HK2 := Lib.hid hK2
  have HX := Lib.hid hX
  have HF := Lib.hid hf
  have HN := Lib.hid hne
  have HW := Lib.hid hW
  have HR := Lib.hid hr
  have hlv : ¬ (100 : Int) < lv := by omega
  have hwr := wrap_one h1 (by have := deep_pos (dy F ax U T); omega)
  obtain ⟨x0, x1, x2, x3, x4, x5⟩ := hX.six
  obtain ⟨y0, y1, y2, y3, y4, y5⟩ := HK.out W hJ.base
  clear h hv h1 h2 hr hW hJ hX hf hne hL hK hK2 hT1 hT2 hm ih ihU hk1 hku hdd
  go_enter Tryz.func50, Tryz.ntmps50
  go_upto_region 1 with fail
  rw [← HW.out]
  go_wp2_with fail
  refine PL.out.mono ?_
  rintro e w1 ⟨rfl, hj, hf1⟩
  have HJ1 := Lib.hid hj
  have HF1 := Lib.hid (HF.out.trans hf1)
  have HX1 := Lib.hid (HX.out.kept hf1 HN.out (by decide))
  clear x0 x1 x2 x3 x4 x5 y0 y1 y2 y3 y4 y5 hj hf1
  obtain ⟨x0, x1, x2, x3, x4, x5⟩ := HX1.out.six
  go_wp2_with fail
  refine (PF.out _ _ _ HJ1.out (by have := HR.out; omega)).mono ?_
  rintro e w2 ⟨rfl, hj, hf1⟩
  have HJ2 := Lib.hid hj
  have HF2 := Lib.hid (HF1.out.trans hf1)
  have HX2 := Lib.hid (HX1.out.kept hf1 HN.out (by decide))
  clear x0 x1 x2 x3 x4 x5 hj hf1
  obtain ⟨x0, x1, x2, x3, x4, x5⟩ := HX2.out.six
  obtain ⟨z0, z1, z2, z3, z4, z5⟩ := HK2.out w2 HJ2.out.base
  go_wp2_with fail
  refine (PT.out _ _ _ HJ2.out (by have := HR.out; omega)).mono ?_
  rintro e w3 ⟨rfl, hj, hf1⟩
  have HJ3 := Lib.hid hj
  have HF3 := Lib.hid (HF2.out.trans hf1)
  clear hj hf1
  go_wp2_with fail
  go_end0
  refine ⟨rfl, ?_, HF3.out⟩
  have e1 := HJ3.out.then.then
  simpa only [List.append_assoc] using e1
theorem tree_any {T : Tr} (hR : R T) : TreeOk T := by
  induction hR with
  | nm s h => exact tree_nm s h
  | lit ns h => exact tree_lit ns h
  | mon F ax T h1 h2 h3 h4 _ ih => exact tree_mon F ax T h1 h2 h3 ih
  | dy F ax u T h1 h2 h3 h4 hu _ ihu ih => exact tree_dy F ax u T h1 h2 h3 (r_kind hu) ihu ih
end Go.Proofs.YthgojbaindejjaaGreatDoor.sh
