/- The laws of package tree: the trees of the chapter's example, as they lie. -/
import Derived.Test.YtbcnilkenkmabaaTreeNames
import Derived.Test.YtbcnilkenkmabaaTreeEqs
import Derived.Test.YtbcnilkenkmabaaTreeRightDev
import Derived.Test.YtbcnilkenkmabaaTreeSame
import Derived.Test.YtbcnilkenkmabaaTreeRefNames
namespace Go.Proofs.Ytbcnilkenkmabaa.tr
open Go.ChangeShapes Go.WideShapes Go.ChangeAt Go.RowKit Go.Proofs.Ytbcnilkenkmabaa.mem Go.Proofs.Ytbcnilkenkmabaa.sq
set_option linter.unusedVariables false
attribute [local go_sem] Oper.semAt_some

def twoT : Tr := .node 1 0 (-1) ⟨#[]⟩ [2] []
def namT (s : ByteArray) : Tr := .node 2 0 (-1) s [] []
def xT : Tr := namT ⟨#[120]⟩
def yT : Tr := namT ⟨#[121]⟩
def catT : Tr := .node 4 6 (-1) ⟨#[]⟩ [] [xT, yT]
def tT : Tr := .node 4 1 (-1) ⟨#[]⟩ [] [twoT, catT]
def badT : Tr := .node 4 1 (-1) ⟨#[]⟩ [] [catT, twoT]
def noT : Tr := .node 0 0 0 ⟨#[]⟩ [] []
theorem steps_tT : stepsT tT = [yT, xT, catT, twoT, tT] := by simp [stepsT, stepsL, tT, catT, xT, yT, namT, twoT]
theorem in64_small {x : Int} (h : -128 ≤ x ∧ x ≤ 127) : In64 x := by
  have h1 : IntKind.i64.min = -9223372036854775808 := by decide
  have h2 : IntKind.i64.max = 9223372036854775807 := by decide
  unfold In64; simp [Lit.wf, h1, h2]; omega
theorem rd_none (w : World) : Rd w none 0 [] := ⟨rfl, fun k h => by simp at h⟩
theorem leaf_at (w : World) (s : ByteArray) (hs : s.size ≤ 100) : RdT w (namT s) (.agg #[.int .i64 2, .int .i64 0, .int .i64 (-1), .string s, .slice none 0 0, .slice none 0 0]) :=
  rdT_node.2 ⟨none, 0, 0, none, 0, 0, rfl, in64_small (by omega), in64_small (by omega), in64_small (by omega), by unfold reachBytes; omega, rd_none w, Nat.le_refl _, by omega, fun _ => rfl, (fun x h => by simp at h), rfl, Nat.le_refl _, by omega, fun _ => rfl, rdL_nil⟩
theorem noT_at (w : World) : RdT w noT (.agg #[.int .i64 0, .int .i64 0, .int .i64 0, .string ⟨#[]⟩, .slice none 0 0, .slice none 0 0]) :=
  rdT_node.2 ⟨none, 0, 0, none, 0, 0, rfl, in64_small (by omega), in64_small (by omega), in64_small (by omega), by decide, rd_none w, Nat.le_refl _, by omega, fun _ => rfl, (fun x h => by simp at h), rfl, Nat.le_refl _, by omega, fun _ => rfl, rdL_nil⟩
theorem two_at {w : World} {g : Nat} {t : TypeId} (h : w.heap[g]? = some (.cells #[.int .i64 2] t (0, 0))) : RdT w twoT (.agg #[.int .i64 1, .int .i64 0, .int .i64 (-1), .string ⟨#[]⟩, .slice (some ⟨g, 0, none⟩) 1 1, .slice none 0 0]) :=
  rdT_node.2 ⟨_, 1, 1, none, 0, 0, rfl, in64_small (by omega), in64_small (by omega), in64_small (by omega), by decide, ⟨rfl, fun k hk => ⟨_, rfl, (Array.getElem?_eq_some_iff.1 h).1, by
    obtain rfl : k = 0 := by simp at hk; omega
    rw [add_at, cell_of_row _ _ _ _ t (0, 0) h]; rfl⟩⟩, Nat.le_refl _, by omega, (fun h => by cases h), (fun x h => by simp at h; subst h; exact in64_small (by omega)), rfl, Nat.le_refl _, by omega, fun _ => rfl, rdL_nil⟩
theorem pair_at {w : World} {g : Nat} {t : TypeId} {k f a : Int} {T U : Tr} {a0 a1 a2 a3 a4 a5 b0 b1 b2 b3 b4 b5 : Value} (h : w.heap[g]? = some (.cells #[a0, a1, a2, a3, a4, a5, b0, b1, b2, b3, b4, b5] t (0, 0)))
    (hk : -128 ≤ k ∧ k ≤ 127) (hf : -128 ≤ f ∧ f ≤ 127) (ha : -128 ≤ a ∧ a ≤ 127) (hT : RdT w T (.agg #[a0, a1, a2, a3, a4, a5])) (hU : RdT w U (.agg #[b0, b1, b2, b3, b4, b5])) :
    RdT w (.node k f a ⟨#[]⟩ [] [T, U]) (.agg #[.int .i64 k, .int .i64 f, .int .i64 a, .string ⟨#[]⟩, .slice none 0 0, .slice (some ⟨g, 0, none⟩) 2 2]) := by
  have hl := (Array.getElem?_eq_some_iff.1 h).1
  have hc : ∀ j v, (#[a0, a1, a2, a3, a4, a5, b0, b1, b2, b3, b4, b5] : Array Value)[j]? = some v → w.cell? ((⟨g, 0, none⟩ : Addr).add j) = some v := fun j v e => by
    rw [add_at, cell_of_row _ _ _ _ t (0, 0) h]; simpa using e
  exact rdT_node.2 ⟨none, 0, 0, _, 2, 2, rfl, in64_small hk, in64_small hf, in64_small ha, by decide, rd_none w, Nat.le_refl _, by omega, fun _ => rfl, (fun x h => by simp at h), rfl, Nat.le_refl _, by omega, (fun h => by cases h),
    rdL_cons.2 ⟨⟨_, a0, a1, a2, a3, a4, a5, rfl, hl, hc _ _ rfl, hc _ _ rfl, hc _ _ rfl, hc _ _ rfl, hc _ _ rfl, hc _ _ rfl, hT⟩, rdL_cons.2 ⟨⟨_, b0, b1, b2, b3, b4, b5, rfl, hl, hc _ _ rfl, hc _ _ rfl, hc _ _ rfl, hc _ _ rfl, hc _ _ rfl, hc _ _ rfl, hU⟩, rdL_nil⟩⟩⟩

theorem right_tT : rightT tT = true := by kernel_rfl
theorem right_badT : rightT badT = false := by kernel_rfl
theorem right_noT : rightT noT = false := by decide
theorem size_tT : sizeT tT = 5 := by decide
theorem deep_tT : deepT tT = 3 := by decide
theorem size_tT_ : ((sizeT tT : Nat) : Int) = 5 := by rw [size_tT]; rfl
theorem deep_tT_ : ((deepT tT : Nat) : Int) = 3 := by rw [deep_tT]; rfl
theorem same_tT_catT : sameT tT catT = false := same_no (by intro e; unfold tT catT at e; injection e with e1 e2; revert e2; decide)
theorem names_tT : namesOf (stepsT tT) = [⟨#[121]⟩, ⟨#[120]⟩] := by
  rw [steps_tT]
  have h1 : inB ⟨#[121]⟩ [] = false := inB_no (by simp)
  have h2 : inB ⟨#[120]⟩ [⟨#[121]⟩] = false := inB_no (by simp)
  simp [namesOf, addN, yT, xT, namT, catT, twoT, tT, Tr.kind, Tr.name, h1, h2]
theorem five {α : Type} {a b c d e x : α} {j : Nat} (h : [a, b, c, d, e][j]? = some x) : ((j : Int) = 0 ∧ x = a) ∨ ((j : Int) = 1 ∧ x = b) ∨ ((j : Int) = 2 ∧ x = c) ∨ ((j : Int) = 3 ∧ x = d) ∨ ((j : Int) = 4 ∧ x = e) := by
  rcases j with _ | _ | _ | _ | _ | j <;> simp at h <;> subst h <;> simp

/-- The worlds of the first statements. -/
theorem lay1 {w w1 : World} {t : TypeId} (h : w1 = ((w.alloc (.cells #[.bool false] 4)).alloc (.cells #[.int .i64 2] t)).alloc (.cells #[.int .i64 1, .int .i64 0, .int .i64 (-1), .string ⟨#[]⟩, .slice (some ⟨w.heap.size + 1, 0, none⟩) 1 1, .slice none 0 0] 25)) :
    w1.heap.size = w.heap.size + 3 ∧ Below w.heap.size w w1 ∧ Boxed w1 w.heap.size 4 (.bool false) ∧ Six w1 (w.heap.size + 1 + 1) (.int .i64 1) (.int .i64 0) (.int .i64 (-1)) (.string ⟨#[]⟩) (.slice (some ⟨w.heap.size + 1, 0, none⟩) 1 1) (.slice none 0 0) ∧
      RdT w1 twoT (.agg #[.int .i64 1, .int .i64 0, .int .i64 (-1), .string ⟨#[]⟩, .slice (some ⟨w.heap.size + 1, 0, none⟩) 1 1, .slice none 0 0]) := by
  obtain ⟨wa, ha⟩ : ∃ wa, wa = w.alloc (.cells #[.bool false] 4) := ⟨_, rfl⟩
  obtain ⟨wb, hb⟩ : ∃ wb, wb = wa.alloc (.cells #[.int .i64 2] t) := ⟨_, rfl⟩
  have sa : wa.heap.size = w.heap.size + 1 := by rw [ha]; simp
  have sb : wb.heap.size = w.heap.size + 1 + 1 := by rw [hb]; simp [sa]
  have ba : Below w.heap.size w wa := by rw [ha]; exact (Below.refl _ _).alloc (Nat.le_refl _) _
  have bb : Below wa.heap.size wa wb := by rw [hb]; exact (Below.refl _ _).alloc (Nat.le_refl _) _
  rw [← ha, ← hb] at h
  have b1 : Below wb.heap.size wb w1 := by rw [h]; exact (Below.refl _ _).alloc (Nat.le_refl _) _
  have hx : wb.heap[w.heap.size + 1]? = some (.cells #[.int .i64 2] t (0, 0)) := by rw [← sa, hb]; exact World.alloc_heap_new _ _
  have h6 := Six.new wb (.int .i64 1) (.int .i64 0) (.int .i64 (-1)) (.string ⟨#[]⟩) (.slice (some ⟨w.heap.size + 1, 0, none⟩) 1 1) (.slice none 0 0)
  rw [← h, sb] at h6
  have hbo : Boxed wa w.heap.size 4 (.bool false) := by rw [ha]; exact Boxed.new w _ _
  exact ⟨by rw [h]; simp [sb], later ba (later bb b1), boxed_below hbo (later bb b1), h6, two_at ((b1.block _ (by omega)).trans hx)⟩
theorem lay2 {V V' : World} {t : TypeId} {a0 a1 a2 a3 a4 a5 b0 b1 b2 b3 b4 b5 : Value} {k f : Int} {T U : Tr}
    (h : V' = (V.alloc (.cells #[a0, a1, a2, a3, a4, a5, b0, b1, b2, b3, b4, b5] t)).alloc (.cells #[.int .i64 k, .int .i64 f, .int .i64 (-1), .string ⟨#[]⟩, .slice none 0 0, .slice (some ⟨V.heap.size, 0, none⟩) 2 2] 25))
    (hk : -128 ≤ k ∧ k ≤ 127) (hf : -128 ≤ f ∧ f ≤ 127) (hT : RdT V T (.agg #[a0, a1, a2, a3, a4, a5])) (hU : RdT V U (.agg #[b0, b1, b2, b3, b4, b5])) :
    V'.heap.size = V.heap.size + 2 ∧ Below V.heap.size V V' ∧ Six V' (V.heap.size + 1) (.int .i64 k) (.int .i64 f) (.int .i64 (-1)) (.string ⟨#[]⟩) (.slice none 0 0) (.slice (some ⟨V.heap.size, 0, none⟩) 2 2) ∧
      RdT V' (.node k f (-1) ⟨#[]⟩ [] [T, U]) (.agg #[.int .i64 k, .int .i64 f, .int .i64 (-1), .string ⟨#[]⟩, .slice none 0 0, .slice (some ⟨V.heap.size, 0, none⟩) 2 2]) := by
  obtain ⟨wa, ha⟩ : ∃ wa, wa = V.alloc (.cells #[a0, a1, a2, a3, a4, a5, b0, b1, b2, b3, b4, b5] t) := ⟨_, rfl⟩
  have sa : wa.heap.size = V.heap.size + 1 := by rw [ha]; simp
  have ba : Below V.heap.size V wa := by rw [ha]; exact (Below.refl _ _).alloc (Nat.le_refl _) _
  rw [← ha] at h
  have bb : Below wa.heap.size wa V' := by rw [h]; exact (Below.refl _ _).alloc (Nat.le_refl _) _
  have hx : wa.heap[V.heap.size]? = some (.cells #[a0, a1, a2, a3, a4, a5, b0, b1, b2, b3, b4, b5] t (0, 0)) := by rw [ha]; exact World.alloc_heap_new _ _
  have h6 := Six.new wa (.int .i64 k) (.int .i64 f) (.int .i64 (-1)) (.string ⟨#[]⟩) (.slice none 0 0) (.slice (some ⟨V.heap.size, 0, none⟩) 2 2)
  rw [← h, sa] at h6
  have hB := later ba bb
  exact ⟨by rw [h]; simp [sa], hB, h6, pair_at ((bb.block _ (by omega)).trans hx) hk hf (by omega) (hT.below hB) (hU.below hB)⟩

/-- How the world stands between the nodes of a loop that counts. -/
def AI (W : World) (bn : Nat) : (Nat → Prop) → List Tr → World → Prop := fun _ p X =>
  Boxed X bn 3 (.int .i64 (p.length : Int)) ∧ (∀ q, q < W.heap.size → q ≠ bn → X.heap[q]? = W.heap[q]?) ∧ X.os = W.os ∧ X.tape = W.tape ∧ X.output = W.output ∧ W.heap.size ≤ X.heap.size
theorem ai_bides {W : World} {bn : Nat} (hb : bn < W.heap.size) : Bides W.heap.size (AI W bn) := by
  rintro R R' p A C ⟨h1, h2, h3, h4, h5, h6⟩ ht hg
  have old : ∀ q, q < W.heap.size → C.heap[q]? = A.heap[q]? := fun q hq => by
    rcases ht.block q (by omega) with e | ⟨e, _⟩
    · exact e
    · omega
  exact ⟨boxed_as h1 (old _ hb), fun q hq hn => (old q hq).trans (h2 q hq hn), ht.os.trans h3, ht.tape.trans h4, ht.output.trans h5, Nat.le_trans h6 ht.size⟩

theorem ai_step {W X : World} {bn : Nat} {R K Ri Ri' : Nat → Prop} {p : List Tr} {x : Tr} {j : Int} (h : AI W bn Ri p X) (hj : (p.length : Int) = j) (hb : bn < W.heap.size) (hK : ¬ K bn) (hR : ¬ R bn) (m : Int) (hm : m = j + 1) :
    Spares W.heap.size K R X (X.setCell ⟨bn, 0, none⟩ (.int .i64 m)) ∧ AI W bn Ri' (p ++ [x]) (X.setCell ⟨bn, 0, none⟩ (.int .i64 m)) := by
  obtain ⟨h1, h2, h3, h4, h5, h6⟩ := h
  have hl : (((p ++ [x]).length : Nat) : Int) = m := by rw [List.length_append]; simp; omega
  refine ⟨(Spares.refl X).set h1.cell _ hK hR, ?_, fun q hq hn => (Below.heap_setCell _ _ _ _ hn).trans (h2 q hq hn), h3, h4, h5, by simpa [World.setCell] using h6⟩
  rw [hl]; exact h1.set _
theorem func_eq (f : Fn) (ts lb : Array Value) (w : World) : (binOp .eql 33 (.func f ts lb) .nilFunc).run Try.prog w = .ok (.bool false) w := by
  kernel_rfl

theorem right_at {T : Tr} {v : Value} {w : World} (r : Bool) (h : rightT T = r) (hT : RdT w T v) (hd : deepT T ≤ 999) (hz : sizeT T ≤ 1000000) : Calls Try.prog 10 #[v] w (Say w r) := by subst h; exact right_any T v w hT hd hz
theorem size_at {T : Tr} {v : Value} {w : World} (r : Int) (h : ((sizeT T : Nat) : Int) = r) (hT : RdT w T v) (hd : deepT T ≤ 999) (hz : sizeT T ≤ 1000000) : Calls Try.prog 12 #[v] w (Num w r) := by subst h; exact size_any T v w hT hd hz
theorem depth_at {T : Tr} {v : Value} {w : World} (r : Int) (h : ((deepT T : Nat) : Int) = r) (hT : RdT w T v) (hd : deepT T ≤ 999) (hz : sizeT T ≤ 1000000) : Calls Try.prog 14 #[v] w (Num w r) := by subst h; exact depth_any T v w hT hd hz
theorem same_at {T U : Tr} {u v : Value} {w : World} (r : Bool) (h : sameT T U = r) (hT : RdT w T u) (hU : RdT w U v) (hd : deepT T ≤ 999) (hz : sizeT T ≤ 1000000) : Calls Try.prog 16 #[u, v] w (Say w r) := by subst h; exact Same_any T U u v w hT hU hd hz
theorem refSame_at {T U : Tr} {u v : Value} {w : World} (r : Bool) (h : sameT T U = r) (hT : RdT w T u) (hU : RdT w U v) : Calls Try.prog 17 #[u, v] w (Say w r) := by subst h; exact refSame_any T U u v w hT hU

theorem name_any (s : ByteArray) (w : World) : Calls Try.prog 26 #[.string s] w fun e w' => e = .returned (.agg #[.int .i64 2, .int .i64 0, .int .i64 (-1), .string s, .slice none 0 0, .slice none 0 0]) ∧ Below w.heap.size w w' := by
  go_enter Try.func26, Try.ntmps26
  go_wp2_with fail
  refine bodyPost_ret (v := .agg #[.int .i64 2, .int .i64 0, .int .i64 (-1), .string s, .slice none 0 0, .slice none 0 0]) (by simp [results, Try.results26, go_sem]) rfl ⟨rfl, (Below.refl _ _).alloc (Nat.le_refl _) _⟩
end Go.Proofs.Ytbcnilkenkmabaa.tr
