/- TreeCounts: what the law's loop keeps, and the tree around a tree. -/
import Derived.Test.YtbcnilkenkmabaaLawMeasures8
import Derived.Test.YtbcnilkenkmabaaTreeStepFrom
namespace Go.Proofs.Ytbcnilkenkmabaa.tr
open Go.ChangeShapes Go.WideShapes Go.ChangeAt Go.RowKit Go.Proofs.Ytbcnilkenkmabaa.mem Go.Proofs.Ytbcnilkenkmabaa.sq
set_option linter.unusedVariables false

noncomputable def lastB (T : Tr) (p : List Tr) : Bool := match p.getLast? with | none => false | some x => sameT x T
theorem lastB_snoc (T x : Tr) (p : List Tr) : lastB T (p ++ [x]) = sameT x T := by simp [lastB]
theorem lastB_steps (T : Tr) : lastB T (stepsT T) = true := by
  cases T with
  | node k f a s ns ks => rw [steps_node, lastB_snoc]; exact same_self _
def CI (W : World) (bn bl : Nat) (T : Tr) : (Nat → Prop) → List Tr → World → Prop := fun _ p X =>
  Boxed X bn 3 (.int .i64 (p.length : Int)) ∧ Boxed X bl 4 (.bool (lastB T p)) ∧ (∀ q, q < W.heap.size → q ≠ bn → q ≠ bl → X.heap[q]? = W.heap[q]?) ∧ X.os = W.os ∧ X.tape = W.tape ∧ X.output = W.output ∧ W.heap.size ≤ X.heap.size
theorem ci_bides {W : World} {bn bl : Nat} {T : Tr} (hb : bn < W.heap.size) (hl : bl < W.heap.size) : Bides W.heap.size (CI W bn bl T) := by
  rintro R R' p A C ⟨h1, h1', h2, h3, h4, h5, h6⟩ ht hg
  have old : ∀ q, q < W.heap.size → C.heap[q]? = A.heap[q]? := fun q hq => by
    rcases ht.block q (by omega) with e | ⟨e, _⟩
    · exact e
    · omega
  exact ⟨boxed_as h1 (old _ hb), boxed_as h1' (old _ hl), fun q hq hn hn' => (old q hq).trans (h2 q hq hn hn'), ht.os.trans h3, ht.tape.trans h4, ht.output.trans h5, Nat.le_trans h6 ht.size⟩
theorem ci_step {W X V : World} {bn bl : Nat} {R K Ri Ri' : Nat → Prop} {p : List Tr} {x T : Tr} {m : Int} (h : CI W bn bl T Ri p X) (hm : m = (p.length : Int) + 1) (hb : bn < W.heap.size) (hl : bl < W.heap.size) (hne : bn ≠ bl)
    (hK : ¬ K bn) (hK' : ¬ K bl) (hR : ¬ R bn) (hR' : ¬ R bl) (hKs : ∀ q, K q → q < X.heap.size) (hRs : ∀ q, R q → q < X.heap.size)
    (hV : Below (X.setCell ⟨bn, 0, none⟩ (.int .i64 m)).heap.size (X.setCell ⟨bn, 0, none⟩ (.int .i64 m)) V) :
    Spares W.heap.size K R X (V.setCell ⟨bl, 0, none⟩ (.bool (sameT x T))) ∧ CI W bn bl T Ri' (p ++ [x]) (V.setCell ⟨bl, 0, none⟩ (.bool (sameT x T))) := by
  obtain ⟨h1, h1', h2, h3, h4, h5, h6⟩ := h
  have hs : (X.setCell ⟨bn, 0, none⟩ (.int .i64 m)).heap.size = X.heap.size := by simp [World.setCell]
  have hlen : (((p ++ [x]).length : Nat) : Int) = m := by rw [List.length_append]; simp; omega
  have hn1 : Boxed (X.setCell ⟨bn, 0, none⟩ (.int .i64 m)) bn 3 (.int .i64 m) := h1.set _
  have hl1 : Boxed (X.setCell ⟨bn, 0, none⟩ (.int .i64 m)) bl 4 (.bool (lastB T p)) := boxed_as h1' (Below.heap_setCell _ _ _ _ (fun e => hne e.symm))
  have hnV := boxed_below hn1 hV
  have hlV := boxed_below hl1 hV
  refine ⟨((Spares.refl X).set h1.cell _ hK hR).trans ((Spares.of_below hV (fun q e => by rw [hs]; exact hKs q e) (fun q e => by rw [hs]; exact hRs q e)).set hlV.cell _ hK' hR'), ?_, ?_, fun q hq hn hn' => ?_, hV.os.trans h3, hV.tape.trans h4, hV.output.trans h5, ?_⟩
  · rw [hlen]; exact boxed_as hnV (Below.heap_setCell _ _ _ _ hne)
  · rw [lastB_snoc]; exact hlV.set _
  · exact (Below.heap_setCell _ _ _ _ hn').trans ((hV.block q (by rw [hs]; omega)).trans ((Below.heap_setCell _ _ _ _ hn).trans (h2 q hq hn hn')))
  · have := hV.size; rw [hs] at this; simp [World.setCell]; omega

/-- A function around a tree. -/
def overT (T : Tr) : Tr := .node 3 6 (-1) ⟨#[]⟩ [] [T]
theorem over_size (T : Tr) : sizeT (overT T) = sizeT T + 1 := by simp [overT, sizeT, sizeL]
theorem over_deep (T : Tr) : deepT (overT T) = deepT T + 1 := by simp [overT, deepT, deepL]
theorem over_right {T : Tr} (h : rightT T = true) : rightT (overT T) = decide ((deepT T : Int) < 100) := by
  unfold rightT at h ⊢
  rw [over_deep]
  simp only [Bool.and_eq_true] at h
  have h1 : nodesT (overT T) = true := by
    unfold overT
    rw [nodes_node, nodesL_cons, h.2]
    have : nodeB (.node 3 6 (-1) ⟨#[]⟩ [] [T]) = true := by
      show decide (nodeP 3 6 (-1) _ _ 0 1 _) = true
      exact decide_eq_true (.inr (.inr (.inl ⟨rfl, by kernel_rfl, rfl, rfl, .inr ⟨.inr rfl, rfl⟩⟩)))
    rw [this]
    simp [nodesL]
  rw [h1, Bool.and_true]
  apply Bool.eq_iff_iff.2
  simp only [decide_eq_true_eq]
  omega
theorem lay3 {V V' : World} {t : TypeId} {a0 a1 a2 a3 a4 a5 : Value} {T : Tr}
    (h : V' = (V.alloc (.cells #[a0, a1, a2, a3, a4, a5] t)).alloc (.cells #[.int .i64 3, .int .i64 6, .int .i64 (-1), .string ⟨#[]⟩, .slice none 0 0, .slice (some ⟨V.heap.size, 0, none⟩) 1 1] 25))
    (hT : RdT V T (.agg #[a0, a1, a2, a3, a4, a5])) :
    V'.heap.size = V.heap.size + 2 ∧ Below V.heap.size V V' ∧ Six V' (V.heap.size + 1) (.int .i64 3) (.int .i64 6) (.int .i64 (-1)) (.string ⟨#[]⟩) (.slice none 0 0) (.slice (some ⟨V.heap.size, 0, none⟩) 1 1) ∧
      RdT V' (overT T) (.agg #[.int .i64 3, .int .i64 6, .int .i64 (-1), .string ⟨#[]⟩, .slice none 0 0, .slice (some ⟨V.heap.size, 0, none⟩) 1 1]) := by
  obtain ⟨wa, ha⟩ : ∃ wa, wa = V.alloc (.cells #[a0, a1, a2, a3, a4, a5] t) := ⟨_, rfl⟩
  have sa : wa.heap.size = V.heap.size + 1 := by rw [ha]; simp
  have ba : Below V.heap.size V wa := by rw [ha]; exact (Below.refl _ _).alloc (Nat.le_refl _) _
  rw [← ha] at h
  have bb : Below wa.heap.size wa V' := by rw [h]; exact (Below.refl _ _).alloc (Nat.le_refl _) _
  have hx : V'.heap[V.heap.size]? = some (.cells #[a0, a1, a2, a3, a4, a5] t (0, 0)) := (bb.block _ (by omega)).trans (by rw [ha]; exact World.alloc_heap_new _ _)
  have h6 := Six.new wa (.int .i64 3) (.int .i64 6) (.int .i64 (-1)) (.string ⟨#[]⟩) (.slice none 0 0) (.slice (some ⟨V.heap.size, 0, none⟩) 1 1)
  rw [← h, sa] at h6
  have hB := later ba bb
  have hl := (Array.getElem?_eq_some_iff.1 hx).1
  have hc : ∀ j v, (#[a0, a1, a2, a3, a4, a5] : Array Value)[j]? = some v → V'.cell? ((⟨V.heap.size, 0, none⟩ : Addr).add j) = some v := fun j v e => by
    rw [add_at, cell_of_row _ _ _ _ t (0, 0) hx]; simpa using e
  exact ⟨by rw [h]; simp [sa], hB, h6, rdT_node.2 ⟨none, 0, 0, _, 1, 1, rfl, in64_small (by omega), in64_small (by omega), in64_small (by omega), by decide, rd_none V', Nat.le_refl _, by omega, fun _ => rfl, (fun x h => by simp at h), rfl, Nat.le_refl _, by omega, (fun h => by cases h),
    rdL_cons.2 ⟨⟨_, a0, a1, a2, a3, a4, a5, rfl, hl, hc _ _ rfl, hc _ _ rfl, hc _ _ rfl, hc _ _ rfl, hc _ _ rfl, hc _ _ rfl, hT.below hB⟩, rdL_nil⟩⟩⟩
theorem small_out {T : Tr} {m : Int} (h : smallT T m = true) (h0 : 0 ≤ m) : deepT T ≤ 150 ∧ (sizeT T : Int) ≤ m ∧ rightT T = true := by
  unfold smallT at h
  simp only [Bool.and_eq_true] at h
  obtain ⟨h1, h2, -⟩ := few_out h.1 h0
  exact ⟨h1, h2, h.2⟩
theorem depth_le_size : ∀ T : Tr, deepT T ≤ sizeT T := by
  intro T
  induction T using Tr.ind with
  | h k f a s ns ks ih =>
    rw [deep_node, size_node]
    have : ∀ l : List Tr, (∀ T ∈ l, deepT T ≤ sizeT T) → deepL l ≤ sizeL l := by
      intro l
      induction l with
      | nil => intro _; simp [deepL]
      | cons T r ihr =>
        intro h
        have h1 := h T (by simp)
        have h2 := ihr (fun U hU => h U (by simp [hU]))
        simp only [deepL, sizeL]
        omega
    have := this ks ih
    omega
/-- What lay in the world of a yield lies in that of the round's body. -/
theorem round_cells {C C' X : World} {l : Nat} (hb : Below C.heap.size C C') (hX : C'.grownBy X (some l)) (hl : ∃ r, C.heap[l]? = some (.loop r)) : ∀ (a : Addr) v, C.cell? a = some v → X.cell? a = some v := fun a v h =>
  cell_out hX ((hb.cell (World.block_lt_of_cell? _ _ h)).trans h) (fun e => by
    obtain ⟨o, ho, hc⟩ := cells_of_cell h
    obtain ⟨r, hr⟩ := hl
    rw [e, hr] at ho; cases ho; cases hc)
end Go.Proofs.Ytbcnilkenkmabaa.tr
