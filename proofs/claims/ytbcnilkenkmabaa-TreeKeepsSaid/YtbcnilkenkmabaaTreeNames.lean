/- Package tree: Names: rows of texts, a set of texts. -/
import Derived.Test.YtbcnilkenkmabaaTreeStepSeq
import Derived.Test.YtbcnilkenkmabaaTreeMaps
namespace Go.Proofs.Ytbcnilkenkmabaa.tr
open Go.ChangeShapes Go.WideShapes Go.ChangeAt Go.RowKit Go.Proofs.Ytbcnilkenkmabaa.mem Go.Proofs.Ytbcnilkenkmabaa.sq
set_option linter.unusedVariables false
attribute [local go_sem] Oper.semAt_some

/-! ### the names, plain mathematics -/
noncomputable def inB (s : ByteArray) (L : List ByteArray) : Bool := @decide (s ∈ L) (Classical.propDecidable _)
theorem inB_yes {s : ByteArray} {L : List ByteArray} (h : s ∈ L) : inB s L = true := by unfold inB; exact @decide_eq_true _ (Classical.propDecidable _) h
theorem inB_no {s : ByteArray} {L : List ByteArray} (h : s ∉ L) : inB s L = false := by unfold inB; exact @decide_eq_false _ (Classical.propDecidable _) h
theorem of_inB {s : ByteArray} {L : List ByteArray} (h : inB s L = true) : s ∈ L := by unfold inB at h; exact @of_decide_eq_true _ (Classical.propDecidable _) h
theorem of_not_inB {s : ByteArray} {L : List ByteArray} (h : inB s L = false) : s ∉ L := by unfold inB at h; exact @of_decide_eq_false _ (Classical.propDecidable _) h
noncomputable def addN (acc : List ByteArray) (T : Tr) : List ByteArray := if (T.kind == 2 && !inB T.name acc) = true then acc ++ [T.name] else acc
noncomputable def namesOf (l : List Tr) : List ByteArray := l.foldl addN []
theorem namesOf_snoc (l : List Tr) (T : Tr) : namesOf (l ++ [T]) = addN (namesOf l) T := by simp [namesOf]
theorem namesOf_len (l : List Tr) : (namesOf l).length ≤ l.length := by
  have : ∀ (l : List Tr) (acc : List ByteArray), (l.foldl addN acc).length ≤ acc.length + l.length := by
    intro l
    induction l with
    | nil => intro acc; simp
    | cons T r ih =>
      intro acc
      have h := ih (addN acc T)
      have h2 : (addN acc T).length ≤ acc.length + 1 := by unfold addN; split <;> simp
      simp only [List.foldl_cons, List.length_cons]
      omega
  simpa [namesOf] using this l []

/-! ### rows of texts -/
theorem string_info : (Try.prog.info? 9).map (fun i => (i.zero, i.size, i.bytes)) = some (some (.string ⟨#[]⟩), 1, 16) := by kernel_rfl
def OwnStr (w : World) (B : Nat) (v : Value) (L : List ByteArray) : Prop := w.ownsRow B 9 1 v L.length (L.map Value.string)
theorem ownStr_nil (w : World) (B : Nat) : OwnStr w B (.slice none 0 0) [] := World.ownsRow_nil w B _ 1
theorem OwnStr.form {w : World} {B : Nat} {v : Value} {L : List ByteArray} (h : OwnStr w B v L) : ∃ A c, v = .slice A L.length c ∧ (∀ g, v.ownBlock = some g → B ≤ g ∧ g < w.heap.size ∧ ∃ o, w.heap[g]? = some o ∧ o.isCells = true) := by
  rcases h.2 with ⟨rfl, h0⟩ | ⟨g, cap, cur, rfl, hB, hg, hc, hm, _⟩
  · exact ⟨none, 0, by rw [h0], fun g e => by simp [Value.ownBlock] at e⟩
  · exact ⟨_, _, rfl, fun g' e => by simp [Value.ownBlock] at e; subst e; exact ⟨hB, (Array.getElem?_eq_some_iff.1 hg).1, _, hg, rfl⟩⟩
theorem OwnStr.as {w w' : World} {B : Nat} {v : Value} {L : List ByteArray} (h : OwnStr w B v L) (hk : ∀ g, v.ownBlock = some g → w'.heap[g]? = w.heap[g]?) : OwnStr w' B v L := by
  refine ⟨h.1, ?_⟩
  rcases h.2 with h' | ⟨g, cap, cur, rfl, hb, hg, rest⟩
  · exact .inl h'
  · exact .inr ⟨g, cap, cur, rfl, hb, (hk g rfl).trans hg, rest⟩
theorem run_pushStr {W : World} {B : Nat} {v : Value} {L : List ByteArray} (hA : OwnStr W B v L) (s : ByteArray) (hB : B ≤ W.heap.size) (ty t : TypeId) (h40 : L.length < 1099511627776) :
    ∃ v' w1, (Builtin.append_ #[35, 35] ty #[v, .slice (some ⟨W.heap.size, 0, none⟩) 1 1]).run Try.prog (W.alloc (.cells #[.string s] t)) = .ok v' w1 ∧ OwnStr w1 B v' (L ++ [s]) ∧ (W.alloc (.cells #[.string s] t)).grownBy w1 v.ownBlock ∧
      (v'.ownBlock = v.ownBlock ∨ v'.ownBlock = some (W.heap.size + 1)) := by
  obtain ⟨i0, hi0, hz0, hz1, hz2⟩ := info_parts string_info
  have h1 : (W.alloc (.cells #[.string s] t)).ownsRow B 9 1 v L.length (L.map Value.string) := World.ownsRow.alloc hA _
  have hcells : ∀ j z, [Value.string s][j]? = some z → (W.alloc (.cells #[.string s] t)).cell? ((⟨W.heap.size, 0, none⟩ : Addr).add j) = some z := by
    intro j z hj
    rcases j with _ | j
    · simp at hj; subst hj
      rw [add_at]
      exact cell_new W _ _ _ rfl
    · simp at hj
  obtain ⟨v', w1, hrun, q1, q2, _, q4⟩ := run_append_own_at (P := Try.prog) (W.alloc (.cells #[.string s] t)) B 35 ty 9 i0 _ 1 16 Try.underlying35 hi0 hz0 hz1 hz2 rfl (by omega) v _ _ h1 ⟨W.heap.size, 0, none⟩ 1 1 [.string s] (by simp) hcells (fun u hu => by simp at hu; subst hu; rfl)
    (by unfold maxLen; omega) (by omega) (by simp; omega)
  refine ⟨v', w1, hrun, ?_, q2, by simpa using q4⟩
  unfold OwnStr
  rw [List.length_append, List.map_append]
  exact q1

/-! ### a set of texts -/
def SeenIs (w : World) (b : Nat) (L : List ByteArray) : Prop := ∃ es clock, w.heap[b]? = some (.map es clock) ∧ (∀ e ∈ es.toList, ∃ s, e.key = .string s ∧ e.val = .bool true) ∧ ∀ s, (∃ e ∈ es.toList, e.key = .string s) ↔ s ∈ L
theorem seen_nil {w : World} {b : Nat} (h : w.heap[b]? = some (.map #[] 0)) : SeenIs w b [] := ⟨#[], 0, h, by simp, by simp⟩
theorem SeenIs.as {w w' : World} {b : Nat} {L : List ByteArray} (h : SeenIs w b L) (e : w'.heap[b]? = w.heap[b]?) : SeenIs w' b L := by
  obtain ⟨es, c, h1, h2⟩ := h; exact ⟨es, c, e.trans h1, h2⟩
theorem findNow_str (s : ByteArray) : ∀ (es : List MapEntry) (i : Nat), (∀ e ∈ es, ∃ s, e.key = .string s ∧ e.val = .bool true) →
    ((∃ e ∈ es, e.key = .string s) → ∃ j, Instr.findNow .string (.string s) es i = some (some (j, .bool true))) ∧ ((¬ ∃ e ∈ es, e.key = .string s) → Instr.findNow .string (.string s) es i = some none)
  | [], _, _ => ⟨fun h => by simp at h, fun _ => rfl⟩
  | e :: es, i, h => by
    obtain ⟨t, ht, hv⟩ := h e (by simp)
    have ih := findNow_str s es (i + 1) (fun x hx => h x (by simp [hx]))
    by_cases hst : s = t
    · subst hst
      refine ⟨fun _ => ⟨i, ?_⟩, fun hn => absurd ⟨e, by simp, ht⟩ hn⟩
      have hb : (s == s) = true := (MapKept.bytes_beq s s).2 rfl
      simp [Instr.findNow, Instr.sameNow, ht, hv, hb]
    · have hb : (s == t) = false := by
        cases h9 : (s == t)
        · rfl
        · exact absurd ((MapKept.bytes_beq s t).1 h9) hst
      have e1 : Instr.findNow .string (.string s) (e :: es) i = Instr.findNow .string (.string s) es (i + 1) := by simp [Instr.findNow, Instr.sameNow, ht, hb]
      rw [e1]
      refine ⟨fun hx => ih.1 ?_, fun hx => ih.2 fun ⟨x, h1, h2⟩ => hx ⟨x, by simp [h1], h2⟩⟩
      obtain ⟨x, h1, h2⟩ := hx
      rcases List.mem_cons.1 h1 with rfl | h1
      · rw [ht] at h2; injection h2 with h2; exact absurd h2.symm hst
      · exact ⟨x, h1, h2⟩
theorem run_lookup_seen {w : World} {b : Nat} {L : List ByteArray} (h : SeenIs w b L) (s : ByteArray) :
    (Instr.lookup 50 (.map (some b)) (.string s) false).run Try.prog w = .ok (.bool (inB s L)) w := by
  obtain ⟨es, clock, hb, hes, hL⟩ := h
  have hk : MapKept.IsKey .string (.string s) := trivial
  have hf := findNow_str s es.toList 0 hes
  have hz : (zeroValue 4).run Try.prog w = .ok (.bool false) w := by kernel_rfl
  by_cases hs : s ∈ L
  · obtain ⟨j, hf⟩ := hf.1 ((hL s).2 hs)
    simp [Instr.lookup, run_underlying Try.underlying50, MapKept.run_getObj_map hb, MapKept.run_checkKey Try.underlying9 hk, MapKept.run_findKey Try.underlying9 hf, Result.andThen, inB_yes hs]
  · have hf := hf.2 (fun e => hs ((hL s).1 e))
    simp [Instr.lookup, run_underlying Try.underlying50, MapKept.run_getObj_map hb, MapKept.run_checkKey Try.underlying9 hk, MapKept.run_findKey Try.underlying9 hf, hz, Result.andThen, inB_no hs]
theorem run_update_seen {w : World} {b : Nat} {L : List ByteArray} (h : SeenIs w b L) (s : ByteArray) (hs : s ∉ L) :
    ∃ w', (Instr.mapUpdate 50 (.map (some b)) (.string s) (.bool true)).run Try.prog w = .ok () w' ∧ SeenIs w' b (L ++ [s]) ∧ w'.heap.size = w.heap.size ∧ (∀ q, q ≠ b → w'.heap[q]? = w.heap[q]?) ∧ w'.os = w.os ∧ w'.tape = w.tape ∧ w'.output = w.output := by
  obtain ⟨es, clock, hb, hes, hL⟩ := h
  have hk : MapKept.IsKey .string (.string s) := trivial
  have hf := (findNow_str s es.toList 0 hes).2 (fun e => hs ((hL s).1 e))
  have hlt := (Array.getElem?_eq_some_iff.1 hb).1
  refine ⟨w.putObj b (.map (es.push { key := .string s, val := .bool true, born := clock }) (clock + 1)), ?_, ⟨_, _, World.putObj_heap_same hlt, fun e he => ?_, fun t => ?_⟩, by simp, fun q hq => World.putObj_heap_other hq, rfl, rfl, rfl⟩
  · simp [Instr.mapUpdate, run_underlying Try.underlying50, MapKept.run_getObj_map hb, MapKept.run_checkKey Try.underlying9 hk, MapKept.run_findKey Try.underlying9 hf, MapKept.run_setObj_map _ hb, Result.andThen]
    rfl
  · rw [Array.toList_push, List.mem_append] at he
    rcases he with he | he
    · exact hes e he
    · simp at he; subst he; exact ⟨s, rfl, rfl⟩
  · rw [Array.toList_push]
    constructor
    · rintro ⟨e, he, hk⟩
      rcases List.mem_append.1 he with he | he
      · exact List.mem_append.2 (.inl ((hL t).1 ⟨e, he, hk⟩))
      · simp at he; subst he; injection hk with hk; subst hk; simp
    · intro ht
      rcases List.mem_append.1 ht with ht | ht
      · obtain ⟨e, he, hk⟩ := (hL t).2 ht
        exact ⟨e, List.mem_append.2 (.inl he), hk⟩
      · simp at ht; subst ht
        exact ⟨{ key := .string t, val := .bool true, born := clock }, List.mem_append.2 (.inr (by simp)), rfl⟩
/-- How it stands between the nodes. -/
def NI (w w1 : World) (s : Nat) : (Nat → Prop) → List (Nat × Tr) → World → Prop := fun R p X => ∃ v, Boxed X (s + 1) 35 v ∧ OwnStr X w1.heap.size v (namesOf (p.map Prod.snd)) ∧ (∀ g, v.ownBlock = some g → ¬ R g) ∧
  SeenIs X (s + 2) (namesOf (p.map Prod.snd)) ∧ Boxed X (s + 3) 50 (.map (some (s + 2))) ∧ Below s w X ∧ w1.heap.size ≤ X.heap.size
theorem ni_bides {w w1 : World} {s : Nat} (hs : s + 3 < w1.heap.size) (hw : s ≤ w.heap.size) : Bides w1.heap.size (NI w w1 s) := by
  rintro R R' p A C ⟨v, h1, h2, h3, h4, h5, h6, h7⟩ ht hg
  have old : ∀ q, q < w1.heap.size → C.heap[q]? = A.heap[q]? := fun q hq => by
    rcases ht.block q (by omega) with e | ⟨e, _⟩
    · exact e
    · omega
  obtain ⟨P, c, rfl, hf⟩ := h2.form
  refine ⟨_, boxed_as h1 (old _ (by omega)), h2.as (fun g e => ?_), fun g e hr => ?_, h4.as (old _ (by omega)), boxed_as h5 (old _ (by omega)), ⟨ht.os.trans h6.os, ht.tape.trans h6.tape, ht.output.trans h6.output, Nat.le_trans h6.size ht.size, fun q hq => (old q (by omega)).trans (h6.block q hq)⟩, Nat.le_trans h7 ht.size⟩
  · obtain ⟨_, hlt, o, ho, hc⟩ := hf g e
    rcases ht.block g hlt with e' | ⟨_, e' | ⟨o', ho', hc'⟩⟩
    · exact e'
    · exact absurd e' (h3 g e)
    · rw [ho] at ho'; cases ho'; rw [hc] at hc'; cases hc'
  · obtain ⟨_, hlt, _⟩ := hf g e
    rcases hg.new g hr with h | h
    · exact h3 g e h
    · omega
/-- append with its run equation, as a step of a region that draws its order within a round. -/
theorem step_appendIn {F : Fence} {n : Nat} {t : TypeId} {w w1 : World} {ops : Array Oper} {o : Oper} {a : Act} {K : Act → World → Prop} {Q : Exit → Act → World → Prop} {E : Prop} (hgd : o.guard = none) (s x : Operand)
    (ho : o.op = .call { callee := .builtin .append, args := #[s, x], argTypes := #[t, t] }) {v u v' : Value} (hs : a.eval s = v) (hx : a.eval x = u) (hrun : (Builtin.append_ #[t, t] o.type #[v, u]).run Try.prog w = .ok v' w1)
    (h : K (a.put o.dst v') w1) : if Region.wanted o (yielded ops a.tmps) = true then Oper.wpIn F n Try.prog o a w K Q else E := by
  have hw : Region.wanted o (yielded ops a.tmps) = true := by simp [Region.wanted, hgd]
  rw [if_pos hw]
  unfold Oper.wpIn
  refine ⟨?_, ?_⟩
  · simp [Oper.about, ho, resolve, Target.leads, Sem.run_pure]
  · rw [Oper.semAt_plain F _ _ (by rw [ho]; intro c hc'; cases hc')]
    simp [execOp, ho, resolve, invoke, builtin, hs, hx, hrun, Result.andThen]
    exact h
theorem names_leaf {w w4 C X X2 V V1 : World} {l2 : Nat} {Ri : Nat → Prop} {p : List (Nat × Tr)} {x : Nat × Tr} {acc : List ByteArray} {s' : ByteArray} {LP LP' : Option Addr} {LC LC' : Nat} {t : TypeId} (hn : w4.heap.size = w.heap.size + 5) (hl : w4.heap.size ≤ l2) (hsx : C.heap.size + 1 ≤ X.heap.size ∧ w4.heap.size ≤ X.heap.size)
    (hV : Boxed V1 (w.heap.size + 1) 35 (.slice LP acc.length LC) ∧ OwnStr V1 w4.heap.size (.slice LP' (acc.length + 1) LC') (acc ++ [s']) ∧ (∀ g, (Value.slice LP' (acc.length + 1) LC').ownBlock = some g → (Value.slice LP acc.length LC).ownBlock = some g ∨ g = V.heap.size + 1) ∧ (V.alloc (.cells #[.string s'] t)).grownBy V1 (Value.slice LP acc.length LC).ownBlock ∧ Below X2.heap.size X2 V)
    (hRi : ∀ k, Ri k → l2 < k ∧ k < C.heap.size) (hnr : ∀ g, (Value.slice LP acc.length LC).ownBlock = some g → ¬ Ri g) (hform : ∀ g, (Value.slice LP acc.length LC).ownBlock = some g → w4.heap.size ≤ g ∧ g < X.heap.size ∧ ∃ o, X.heap[g]? = some o ∧ o.isCells = true)
    (hH : X2.heap.size = X.heap.size ∧ (∀ q, q ≠ w.heap.size + 2 → X2.heap[q]? = X.heap[q]?) ∧ X2.os = X.os ∧ X2.tape = X.tape ∧ X2.output = X.output) (hseen : SeenIs X2 (w.heap.size + 2) (acc ++ [s'])) (hb3 : Boxed X2 (w.heap.size + 3) 50 (.map (some (w.heap.size + 2)))) (hbw : Below w.heap.size w X2)
    (hnext : namesOf ((p ++ [x]).map Prod.snd) = acc ++ [s']) :
    Spares w4.heap.size (fun q => q < w.heap.size) Ri X (V1.setCell ⟨w.heap.size + 1, 0, none⟩ (.slice LP' (acc.length + 1) LC')) ∧ NI w w4 w.heap.size Ri (p ++ [x]) (V1.setCell ⟨w.heap.size + 1, 0, none⟩ (.slice LP' (acc.length + 1) LC')) := by
  obtain ⟨h1, h2, h3, h4, h5⟩ := hV
  obtain ⟨e1, e2, e3, e4, e5⟩ := hH
  have hVs := h5.size
  have hsV1 := h4.size
  simp at hsV1
  -- what lay in X and is none of the three blocks that turned lies as it lay
  have same : ∀ q, q < X.heap.size → q ≠ w.heap.size + 2 → (Value.slice LP acc.length LC).ownBlock ≠ some q → V1.heap[q]? = X.heap[q]? := fun q hq hne hno =>
    (h4.block q (by simp; omega) (fun e => hno e.symm)).trans ((Below.heap_alloc _ _ _ (by omega)).trans ((h5.block q (by omega)).trans (e2 q hne)))
  have same2 : ∀ q, q < X2.heap.size → (Value.slice LP acc.length LC).ownBlock ≠ some q → V1.heap[q]? = X2.heap[q]? := fun q hq hno =>
    (h4.block q (by simp; omega) (fun e => hno e.symm)).trans ((Below.heap_alloc _ _ _ (by omega)).trans (h5.block q hq))
  have hset : ∀ q, q ≠ w.heap.size + 1 → (V1.setCell ⟨w.heap.size + 1, 0, none⟩ (.slice LP' (acc.length + 1) LC')).heap[q]? = V1.heap[q]? := fun q hq => Below.heap_setCell _ _ _ _ hq
  have hlow : ∀ q, q < w4.heap.size → (Value.slice LP acc.length LC).ownBlock ≠ some q := fun q hq e => by have := (hform q e).1; omega
  refine ⟨?_, _, h1.set _, ?_, fun g e hr => ?_, ?_, ?_, ?_, by simp [World.setCell]; omega⟩
  · refine ⟨h4.os.trans (h5.os.trans e3), h4.tape.trans (h5.tape.trans e4), h4.output.trans (h5.output.trans e5), fun q e => ?_, fun q e => ?_, ⟨by simp [World.setCell]; omega, fun q o hq ho hc => ?_⟩⟩
    · have := hRi q e
      exact (hset q (by omega)).trans (same q (by omega) (by omega) (fun e' => hnr q e' e))
    · exact (hset q (by omega)).trans (same q (by omega) (by omega) (hlow q (by omega)))
    · have hlt := (Array.getElem?_eq_some_iff.1 ho).1
      refine (hset q (by omega)).trans ((same q hlt (by omega) (fun e' => ?_)).trans ho)
      obtain ⟨_, _, o', ho', hc'⟩ := hform q e'
      rw [ho] at ho'; cases ho'; rw [hc] at hc'; cases hc'
  · rw [hnext]
    exact h2.as (fun g e => hset g (by
      rcases h3 g e with e' | e'
      · have := (hform g e').1; omega
      · omega))
  · rcases h3 g e with e' | e'
    · exact hnr g e' hr
    · have := hRi g hr; omega
  · rw [hnext]
    have hsl := hseen
    obtain ⟨es, c, hm, _⟩ := hsl
    have hlt := (Array.getElem?_eq_some_iff.1 hm).1
    exact hseen.as ((hset _ (by omega)).trans (same2 _ hlt (hlow _ (by omega))))
  · exact boxed_as hb3 ((hset _ (by omega)).trans (same2 _ hb3.lt (hlow _ (by omega))))
  · refine ⟨h4.os.trans (h5.os.trans hbw.os), h4.tape.trans (h5.tape.trans hbw.tape), h4.output.trans (h5.output.trans hbw.output), by have := hbw.size; simp [World.setCell]; omega, fun q hq => (hset q (by omega)).trans ((same2 q (by have := hbw.size; omega) (hlow q (by omega))).trans (hbw.block q hq))⟩

def NamesTo (w : World) (L : List ByteArray) (e : Ending) (w' : World) : Prop := ∃ v, e = .returned v ∧ OwnStr w' w.heap.size v L ∧ Below w.heap.size w w'

set_option maxHeartbeats 8000000 in
theorem names_any (T : Tr) (v : Value) (w : World) (hT : RdT w T v) (hd : deepT T ≤ 999) (hz : sizeT T ≤ 1000000) : Calls Try.prog 21 #[v] w (NamesTo w (namesOf (stepsT T))) := by
  have HT := Lib.hid ((RdQ.old hT).le (Q' := fun q => q < w.heap.size) (fun q e => e.2))
  obtain ⟨k, f, a, s, ns, ks⟩ := T
  obtain ⟨Aa, na, ca, B, mm, d, rfl, -⟩ := rdT_node.1 hT
  obtain ⟨w0, hw0⟩ : ∃ w0, w0 = (w.alloc (.cells #[.int .i64 k, .int .i64 f, .int .i64 a, .string s, .slice Aa na ca, .slice B mm d] 25)).alloc (.cells #[.slice none 0 0] 35) := ⟨_, rfl⟩
  obtain ⟨wm, hwm⟩ : ∃ wm, wm = w0.alloc (.map #[] 0) := ⟨_, rfl⟩
  obtain ⟨w3, hw3⟩ : ∃ w3, w3 = wm.alloc (.cells #[.map (some w0.heap.size)] 50) := ⟨_, rfl⟩
  have hb0 : Below w.heap.size w w0 := by rw [hw0]; exact ((Below.refl _ _).alloc (Nat.le_refl _) _).alloc (by simp) _
  have hs0 : w0.heap.size = w.heap.size + 2 := by rw [hw0]; simp
  have hbm : Below w0.heap.size w0 wm := by rw [hwm]; exact (Below.refl _ _).alloc (Nat.le_refl _) _
  have hsm : wm.heap.size = w.heap.size + 3 := by rw [hwm]; simp [hs0]
  have hb3 : Below wm.heap.size wm w3 := by rw [hw3]; exact (Below.refl _ _).alloc (Nat.le_refl _) _
  have hs3 : w3.heap.size = w.heap.size + 4 := by rw [hw3]; simp [hsm]
  have hX0 : Six w0 w.heap.size (.int .i64 k) (.int .i64 f) (.int .i64 a) (.string s) (.slice Aa na ca) (.slice B mm d) := by
    rw [hw0]; exact (Six.new w _ _ _ _ _ _).below ((Below.refl _ _).alloc (Nat.le_refl _) _)
  have hL0 : Boxed w0 (w.heap.size + 1) 35 (.slice none 0 0) := by
    have := Boxed.new (w.alloc (.cells #[.int .i64 k, .int .i64 f, .int .i64 a, .string s, .slice Aa na ca, .slice B mm d] 25)) 35 (.slice none 0 0)
    rw [World.size_alloc] at this
    rw [hw0]; exact this
  have hb03 : Below w0.heap.size w0 w3 := hbm.trans (hb3.mono hbm.size)
  have hM3 : w3.heap[w.heap.size + 2]? = some (.map #[] 0) := by
    rw [← hs0]
    refine (hb3.block _ (by omega)).trans ?_
    rw [hwm]; exact World.alloc_heap_new _ _
  have hB3 : Boxed w3 (w.heap.size + 3) 50 (.map (some (w.heap.size + 2))) := by
    have := Boxed.new wm 50 (.map (some w0.heap.size))
    rw [← hw3, hsm, hs0] at this
    exact this
  have HB03 := Lib.hid (hb0.trans (hb03.mono hb0.size)); have HL3 := Lib.hid (boxed_below hL0 hb03); have HM3 := Lib.hid hM3; have HB3 := Lib.hid hB3; have HS3 := Lib.hid hs3
  have HD := Lib.hid hd; have HZ := Lib.hid hz
  obtain ⟨q0, q1, q2, q3, q4, q5⟩ := (hX0.below hb03).six
  have HWM := Lib.hid hwm; have HW3 := Lib.hid hw3; have HSW := Lib.hid hs0
  have hmm := @run_makeMap Try.prog
  clear hT hd hz hb0 hs0 hbm hsm hb3 hs3 hX0 hL0 hb03 hM3 hB3 hwm hw3
  refine (callsIn_wide (n := 3)).1 ?_
  refine callsIn_of_wp_marks Try.func21 rfl trivial ?_ rfl
  simp only [Try.ntmps21, List.size_toArray, List.length_cons, List.length_nil, Nat.reduceAdd, Nat.reduceSub, Array.replicate_succ, Array.replicate_zero, List.push_toArray, List.append_toArray, List.nil_append, List.cons_append]
  refine wpIn_wide.2 ?_
  go_upto_region 2 with fail
  rw [← hw0]
  clear hw0
  go_upto_region 3 with fail
  clear hmm
  rw [← HWM.out, ← HW3.out, HSW.out]
  clear HWM HW3 HSW
  go_wp2_with fail
  refine (nodes_any _ _ _ _ _ _ _).mono ?_
  rintro e w4 ⟨rfl, hb4, hs4, hl4⟩
  have hbw4 : Below w.heap.size w w4 := HB03.out.trans (hb4.mono HB03.out.size)
  have hseq := nodes_seq (3 - 1) w3.heap.size _ _ (fun q => q < w.heap.size) w4 hl4 (HT.out.carry hbw4.size (fun q e => hbw4.block q e)) (fun q e => by have := hbw4.size; omega) HD.out HZ.out
  have HSEQ := Lib.hid hseq
  have HN := Lib.hid (show w4.heap.size = w.heap.size + 5 by rw [hs4, HS3.out])
  have HNI := Lib.hid (show NI w w4 w.heap.size (fun _ => False) [] w4 from
    ⟨_, boxed_below HL3.out hb4, ownStr_nil _ _, fun g e => by simp [Value.ownBlock] at e, seen_nil ((hb4.block _ (by have := HS3.out; omega)).trans HM3.out), boxed_below HB3.out hb4, hbw4, Nat.le_refl _⟩)
  have HBW4 := Lib.hid hbw4
  clear hseq hbw4 hb4 hs4 hl4 q0 q1 q2 q3 q4 q5 HL3 HM3 HB3 HB03 HS3
  go_wp2_with fail
  refine (wpIn_wide (n := 3)).1 ?_
  refine wpIn_iterate rfl (fun h => by cases h) (gf := 47) rfl trivial (Hand := HandN (fun q => q < w.heap.size)) (enters_of Try.func47 (by kernel_rfl) rfl) (fun W x vs h => by obtain ⟨v, rfl, _⟩ := h; rfl) HSEQ.out (Below.refl _ _) (fun q e => by have := HN.out; omega)
    (NI w w4 w.heap.size) (fun _ _ _ _ => False) (ni_bides (by have := HN.out; omega) (Nat.le_refl _)) (fun _ _ _ _ _ _ h _ _ => h) HNI.out ?round ?done ?stop
  case round =>
    rintro l2 Ri p ⟨lv, x⟩ vs C hl1 hl2 hlo hRi hni hpx ⟨vx, rfl, hTx⟩
    dsimp only at hTx
    obtain ⟨k', f', a', s', ns', ks'⟩ := x
    have hTx2 := hTx
    obtain ⟨Ab, nb, cb, Bb, mb, db, rfl, -, -, -, hss, -⟩ := rdQ_node.1 hTx2
    have HPX := Lib.hid hpx; have HL := Lib.hid (show w4.heap.size ≤ l2 ∧ l2 < C.heap.size from ⟨hl1, hl2⟩); have HLO := Lib.hid hlo; have HRI := Lib.hid hRi; have HNC := Lib.hid hni; have HSS := Lib.hid hss
    clear hTx hTx2 hpx hl1 hl2 hlo hRi hni hss
    gi_wp2_with fail
    refine ⟨Spares.of_below ((Below.refl _ _).alloc (Nat.le_refl _) _) (fun q e => by have := HL.out; have := HN.out; omega) (fun q e => (HRI.out q e).2), fun X hX => ?_⟩
    have hlt := HL.out; have hn := HN.out
    have hCb : Below C.heap.size C (C.alloc (.cells #[.int .i64 k', .int .i64 f', .int .i64 a', .string s', .slice Ab nb cb, .slice Bb mb db] 25)) := (Below.refl _ _).alloc (Nat.le_refl _) _
    obtain ⟨lv', hbl, hown, hnr, hseen, hbs, hbw, hsz⟩ := ni_bides (s := w.heap.size) (by omega) (Nat.le_refl _) Ri Ri _ _ _ HNC.out (turn_round (R := Ri) hCb hX HLO.out hlt.1) (Grow.refl _ _ _)
    have hsX : C.heap.size + 1 ≤ X.heap.size := by have := hX.size; simp at this; omega
    have hk0 : X.cell? ⟨C.heap.size, 0, none⟩ = some (.int .i64 k') := cell_out hX (cell_new _ _ _ _ rfl) (by show C.heap.size ≠ l2; omega)
    have hk3 : X.cell? ⟨C.heap.size, 3, none⟩ = some (.string s') := cell_out hX (cell_new _ _ _ _ rfl) (by show C.heap.size ≠ l2; omega)
    have hcs : X.cell? ⟨w.heap.size + 2 + 1, 0, none⟩ = some (.map (some (w.heap.size + 2))) := hbs.cell
    obtain ⟨LP, LC, rfl, hform⟩ := hown.form
    have hacc : (namesOf (p.map Prod.snd)).length ≤ 1000000 := by
      have h1 := namesOf_len (p.map Prod.snd)
      have h2 := (List.getElem?_eq_some_iff.1 (pre_last HPX.out)).1
      rw [stp_len] at h2
      have := HZ.out
      rw [List.length_map] at h1
      omega
    have hnext : namesOf ((p ++ [(lv, Tr.node k' f' a' s' ns' ks')]).map Prod.snd) = addN (namesOf (p.map Prod.snd)) (.node k' f' a' s' ns' ks') := by rw [List.map_append]; exact namesOf_snoc _ _
    obtain ⟨acc, hA⟩ : ∃ acc, acc = namesOf (p.map Prod.snd) := ⟨_, rfl⟩
    rw [← hA] at hown hseen hacc hnext hform hbl hnr
    by_cases hk2 : k' = 2
    case neg =>
      have hkb : (k' == 2) = false := by simpa using hk2
      have hadd : addN acc (.node k' f' a' s' ns' ks') = acc := by unfold addN; rw [show (Tr.node k' f' a' s' ns' ks').kind = k' from rfl, hkb]; rfl
      have HF := Lib.hid (show NI w w4 w.heap.size Ri (p ++ [(lv, Tr.node k' f' a' s' ns' ks')]) X from by
        refine ⟨_, hbl, ?_, hnr, ?_, hbs, hbw, hsz⟩
        · rw [hnext, hadd]; exact hown
        · rw [hnext, hadd]; exact hseen)
      clear hlt hn hCb hbl hown hnr hseen hbs hbw hsz hsX hk3 hcs hform hacc hnext hA hk2 hadd hX
      gi_wp2_with fail
      exact ⟨Spares.refl _, HF.out⟩
    subst hk2
    have hlk := run_lookup_seen hseen s'
    by_cases hin : s' ∈ acc
    · rw [inB_yes hin] at hlk
      have hadd : addN acc (.node 2 f' a' s' ns' ks') = acc := by unfold addN; rw [show (Tr.node 2 f' a' s' ns' ks').name = s' from rfl, inB_yes hin]; simp
      have HF := Lib.hid (show NI w w4 w.heap.size Ri (p ++ [(lv, Tr.node 2 f' a' s' ns' ks')]) X from by
        refine ⟨_, hbl, ?_, hnr, ?_, hbs, hbw, hsz⟩
        · rw [hnext, hadd]; exact hown
        · rw [hnext, hadd]; exact hseen)
      clear hlt hn hCb hbl hown hnr hseen hbs hbw hsz hsX hform hacc hnext hA hin hadd hX
      gi_wp2_with fail
      exact ⟨Spares.refl _, HF.out⟩
    · rw [inB_no hin] at hlk
      have hadd : addN acc (.node 2 f' a' s' ns' ks') = acc ++ [s'] := by unfold addN; rw [show (Tr.node 2 f' a' s' ns' ks').name = s' from rfl, inB_no hin]; simp [Tr.kind]
      obtain ⟨X2, hup, hseen2, hsz2, hoth2, ho1, ho2, ho3⟩ := run_update_seen hseen s' hin
      have hX2l : X2.cell? ⟨w.heap.size + 1, 0, none⟩ = some (.slice LP acc.length LC) := cell_as hbl.cell (hoth2 _ (by show w.heap.size + 1 ≠ w.heap.size + 2; omega))
      have hX2k : X2.cell? ⟨C.heap.size, 3, none⟩ = some (.string s') := cell_as hk3 (hoth2 _ (by show C.heap.size ≠ w.heap.size + 2; omega))
      have hb3X2 : Boxed X2 (w.heap.size + 3) 50 (.map (some (w.heap.size + 2))) := boxed_as hbs (hoth2 _ (by omega))
      have hlX2 : Boxed X2 (w.heap.size + 1) 35 (.slice LP acc.length LC) := boxed_as hbl (hoth2 _ (by omega))
      have hownX2 : OwnStr X2 w4.heap.size (.slice LP acc.length LC) acc := hown.as (fun g e => hoth2 g (by have := (hform g e).1; omega))
      have hbwX2 : Below w.heap.size w X2 := ⟨ho1.trans hbw.os, ho2.trans hbw.tape, ho3.trans hbw.output, by have := hbw.size; omega, fun q hq => (hoth2 q (by omega)).trans (hbw.block q hq)⟩
      have hspX2 : ∀ q, q ≠ w.heap.size + 2 → X2.heap[q]? = X.heap[q]? := hoth2
      have PCL : ∀ V, Hid (Below X2.heap.size X2 V) → Hid (Calls Try.prog 37 #[.string s'] V fun e V' => e = .returned (.string s') ∧ Hid (Below X2.heap.size X2 V')) := fun V h => Lib.hid ((clone_str s' HSS.out V).mono fun e V' ⟨he, hb⟩ => ⟨he, Lib.hid (h.out.trans (hb.mono h.out.size))⟩)
      have KC : ∀ V, Hid (Below X2.heap.size X2 V) → Hid (V.cell? ⟨w.heap.size + 1, 0, none⟩ = some (.slice LP acc.length LC) ∧ V.cell? ⟨C.heap.size, 3, none⟩ = some (.string s')) := fun V h => Lib.hid ⟨(boxed_below hlX2 h.out).cell, (h.out.cell (p := ⟨C.heap.size, 3, none⟩) (by show C.heap.size < _; omega)).trans hX2k⟩
      have PAP : ∀ V, Hid (Below X2.heap.size X2 V) → Hid (∀ ty t, ∃ LP' LC' V1, (Builtin.append_ #[35, 35] ty #[.slice LP acc.length LC, .slice (some ⟨V.heap.size, 0, none⟩) 1 1]).run Try.prog (V.alloc (.cells #[.string s'] t)) = .ok (.slice LP' (acc.length + 1) LC') V1 ∧ V1.cell? ⟨w.heap.size + 1, 0, none⟩ = some (.slice LP acc.length LC) ∧ V1.frozen? ⟨w.heap.size + 1, 0, none⟩ = false ∧
          Hid (Boxed V1 (w.heap.size + 1) 35 (.slice LP acc.length LC) ∧ OwnStr V1 w4.heap.size (.slice LP' (acc.length + 1) LC') (acc ++ [s']) ∧ (∀ g, (Value.slice LP' (acc.length + 1) LC').ownBlock = some g → (Value.slice LP acc.length LC).ownBlock = some g ∨ g = V.heap.size + 1) ∧ (V.alloc (.cells #[.string s'] t)).grownBy V1 (Value.slice LP acc.length LC).ownBlock ∧ Below X2.heap.size X2 V)) := fun V h => Lib.hid (fun ty t => by
        have hsz4 : w4.heap.size ≤ V.heap.size := by have := h.out.size; omega
        have hoV : OwnStr V w4.heap.size (.slice LP acc.length LC) acc := hownX2.as (fun g e => h.out.block g (by have := (hform g e).2.1; omega))
        obtain ⟨v', V1, hrun, hown', hgr, hob⟩ := run_pushStr hoV s' hsz4 ty t (by omega)
        obtain ⟨LP', LC', rfl, _⟩ := hown'.form
        rw [show (acc ++ [s']).length = acc.length + 1 by simp] at hrun hown' hob
        have hbx : Boxed V1 (w.heap.size + 1) 35 (.slice LP acc.length LC) := ((boxed_below hlX2 h.out).alloc _).kept hgr (fun e => by have := (hform _ e.symm).1; omega)
        exact ⟨LP', LC', V1, hrun, hbx.cell, hbx.frozen, Lib.hid ⟨hbx, hown', (fun g e => hob.elim (fun e' => .inl (e' ▸ e)) (fun e' => .inr (by rw [e] at e'; injection e'))), hgr, h.out⟩⟩)
      have HK0 := Lib.hid (Below.refl X2.heap.size X2)
      have HH := Lib.hid (show X2.heap.size = X.heap.size ∧ (∀ q, q ≠ w.heap.size + 2 → X2.heap[q]? = X.heap[q]?) ∧ X2.os = X.os ∧ X2.tape = X.tape ∧ X2.output = X.output from ⟨hsz2, hoth2, ho1, ho2, ho3⟩)
      have HSEEN := Lib.hid hseen; have HSEEN2 := Lib.hid hseen2; have HB32 := Lib.hid hb3X2; have HBW2 := Lib.hid hbwX2; have HFORM := Lib.hid hform; have HNR := Lib.hid hnr; have HNEXT := Lib.hid (hnext.trans hadd); have HSX := Lib.hid (show C.heap.size + 1 ≤ X.heap.size ∧ w4.heap.size ≤ X.heap.size from ⟨hsX, hsz⟩)
      clear hlt hn hCb hbl hown hnr hseen hbs hbw hsz hsX hform hacc hnext hA hin hadd hX hseen2 hsz2 hoth2 ho1 ho2 ho3 hb3X2 hlX2 hownX2 hbwX2 hspX2
      have hmx : Try.prog.follows .mixedOrders = true := by kernel_rfl
      gi_wp2_with fail
      obtain ⟨hx1, hx2⟩ := (KC _ HK0).out
      refine wpIn_region_any hmx ?_
      try (change wpAnyIn _ _ _ _ _ _ _ _ _ (World.drew _))
-- BEGIN REGION
      refine wpAnyIn_ready (rs := [0, 1]) (by kernel_rfl) (by simp) ?_
      refine AllReadyIn.cons rfl (fun K hK => ?_) ?_
      · go_simp
        refine hK _ _ ?_
        clear hK K
        refine wpAnyIn_ready (rs := [1]) (by kernel_rfl) (by simp) ?_
        refine AllReadyIn.cons rfl (fun K hK => ?_) ?_
        · go_simp
          refine hK _ _ ?_
          clear hK K
          refine wpAnyIn_ready (rs := [2]) (by kernel_rfl) (by simp) ?_
          refine AllReadyIn.cons rfl (fun K hK => ?_) ?_
          · go_simp
            refine hK _ _ ?_
            clear hK K
            refine wpAnyIn_ready (rs := [3]) (by kernel_rfl) (by simp) ?_
            refine AllReadyIn.cons rfl (fun K hK => ?_) ?_
            · go_simp
              gi_wp2_with ((refine call_round (PCL _ (by first | assumption | exact Lib.hid (Below.drew HK0.out))).out ?_; rintro e w8 ⟨rfl, HK8⟩; obtain ⟨e1, e2⟩ := (KC _ HK8).out; have e3 := cell_old (o := .cells #[.string s'] 9) e1; obtain ⟨LP', LC', V1, hrun, hc1, hf1, HV1⟩ := (PAP _ HK8).out 35 9; clear hx1 hx2))
              refine wpAnyIn_ready (rs := [4]) (by kernel_rfl) (by simp) ?_
              refine AllReadyIn.cons rfl (fun K hK => ?_) ?_
              · go_simp
                refine hK _ _ ?_
                clear hK K
                refine wpAnyIn_ready (rs := [5]) (by kernel_rfl) (by simp) ?_
                refine AllReadyIn.cons rfl (fun K hK => ?_) ?_
                · refine step_appendIn rfl (.tmp 25) (.tmp 29) rfl rfl rfl hrun ?_
                  refine hK _ _ ?_
                  clear hK K hrun
                  refine wpAnyIn_ready (rs := [6]) (by kernel_rfl) (by simp) ?_
                  refine AllReadyIn.cons rfl (fun K hK => ?_) ?_
                  · go_simp
                    refine hK _ _ ?_
                    clear hK K
                    refine wpAnyIn_done (by kernel_rfl) ?_ _
                    exact names_leaf HN.out HL.out.1 HSX.out HV1.out HRI.out HNR.out HFORM.out HH.out HSEEN2.out HB32.out HBW2.out HNEXT.out
                  exact AllReadyIn.nil
                exact AllReadyIn.nil
              exact AllReadyIn.nil
            exact AllReadyIn.nil
          exact AllReadyIn.nil
        exact AllReadyIn.nil
      refine AllReadyIn.cons rfl (fun K hK => ?_) ?_
      · go_simp
        refine hK _ _ ?_
        clear hK K
        refine wpAnyIn_ready (rs := [0, 2]) (by kernel_rfl) (by simp) ?_
        refine AllReadyIn.cons rfl (fun K hK => ?_) ?_
        · go_simp
          refine hK _ _ ?_
          clear hK K
          refine wpAnyIn_ready (rs := [2]) (by kernel_rfl) (by simp) ?_
          refine AllReadyIn.cons rfl (fun K hK => ?_) ?_
          · go_simp
            refine hK _ _ ?_
            clear hK K
            refine wpAnyIn_ready (rs := [3]) (by kernel_rfl) (by simp) ?_
            refine AllReadyIn.cons rfl (fun K hK => ?_) ?_
            · go_simp
              gi_wp2_with ((refine call_round (PCL _ (by first | assumption | exact Lib.hid (Below.drew HK0.out))).out ?_; rintro e w8 ⟨rfl, HK8⟩; obtain ⟨e1, e2⟩ := (KC _ HK8).out; have e3 := cell_old (o := .cells #[.string s'] 9) e1; obtain ⟨LP', LC', V1, hrun, hc1, hf1, HV1⟩ := (PAP _ HK8).out 35 9; clear hx1 hx2))
              refine wpAnyIn_ready (rs := [4]) (by kernel_rfl) (by simp) ?_
              refine AllReadyIn.cons rfl (fun K hK => ?_) ?_
              · go_simp
                refine hK _ _ ?_
                clear hK K
                refine wpAnyIn_ready (rs := [5]) (by kernel_rfl) (by simp) ?_
                refine AllReadyIn.cons rfl (fun K hK => ?_) ?_
                · refine step_appendIn rfl (.tmp 25) (.tmp 29) rfl rfl rfl hrun ?_
                  refine hK _ _ ?_
                  clear hK K hrun
                  refine wpAnyIn_ready (rs := [6]) (by kernel_rfl) (by simp) ?_
                  refine AllReadyIn.cons rfl (fun K hK => ?_) ?_
                  · go_simp
                    refine hK _ _ ?_
                    clear hK K
                    refine wpAnyIn_done (by kernel_rfl) ?_ _
                    exact names_leaf HN.out HL.out.1 HSX.out HV1.out HRI.out HNR.out HFORM.out HH.out HSEEN2.out HB32.out HBW2.out HNEXT.out
                  exact AllReadyIn.nil
                exact AllReadyIn.nil
              exact AllReadyIn.nil
            exact AllReadyIn.nil
          exact AllReadyIn.nil
        refine AllReadyIn.cons rfl (fun K hK => ?_) ?_
        · go_simp
          refine hK _ _ ?_
          clear hK K
          refine wpAnyIn_ready (rs := [0, 3]) (by kernel_rfl) (by simp) ?_
          refine AllReadyIn.cons rfl (fun K hK => ?_) ?_
          · go_simp
            refine hK _ _ ?_
            clear hK K
            refine wpAnyIn_ready (rs := [3]) (by kernel_rfl) (by simp) ?_
            refine AllReadyIn.cons rfl (fun K hK => ?_) ?_
            · go_simp
              gi_wp2_with ((refine call_round (PCL _ (by first | assumption | exact Lib.hid (Below.drew HK0.out))).out ?_; rintro e w8 ⟨rfl, HK8⟩; obtain ⟨e1, e2⟩ := (KC _ HK8).out; have e3 := cell_old (o := .cells #[.string s'] 9) e1; obtain ⟨LP', LC', V1, hrun, hc1, hf1, HV1⟩ := (PAP _ HK8).out 35 9; clear hx1 hx2))
              refine wpAnyIn_ready (rs := [4]) (by kernel_rfl) (by simp) ?_
              refine AllReadyIn.cons rfl (fun K hK => ?_) ?_
              · go_simp
                refine hK _ _ ?_
                clear hK K
                refine wpAnyIn_ready (rs := [5]) (by kernel_rfl) (by simp) ?_
                refine AllReadyIn.cons rfl (fun K hK => ?_) ?_
                · refine step_appendIn rfl (.tmp 25) (.tmp 29) rfl rfl rfl hrun ?_
                  refine hK _ _ ?_
                  clear hK K hrun
                  refine wpAnyIn_ready (rs := [6]) (by kernel_rfl) (by simp) ?_
                  refine AllReadyIn.cons rfl (fun K hK => ?_) ?_
                  · go_simp
                    refine hK _ _ ?_
                    clear hK K
                    refine wpAnyIn_done (by kernel_rfl) ?_ _
                    exact names_leaf HN.out HL.out.1 HSX.out HV1.out HRI.out HNR.out HFORM.out HH.out HSEEN2.out HB32.out HBW2.out HNEXT.out
                  exact AllReadyIn.nil
                exact AllReadyIn.nil
              exact AllReadyIn.nil
            exact AllReadyIn.nil
          refine AllReadyIn.cons rfl (fun K hK => ?_) ?_
          · go_simp
            gi_wp2_with ((refine call_round (PCL _ (by first | assumption | exact Lib.hid (Below.drew HK0.out))).out ?_; rintro e w8 ⟨rfl, HK8⟩; obtain ⟨e1, e2⟩ := (KC _ HK8).out; have e3 := cell_old (o := .cells #[.string s'] 9) e1; obtain ⟨LP', LC', V1, hrun, hc1, hf1, HV1⟩ := (PAP _ HK8).out 35 9; clear hx1 hx2))
            refine wpAnyIn_ready (rs := [0, 4]) (by kernel_rfl) (by simp) ?_
            refine AllReadyIn.cons rfl (fun K hK => ?_) ?_
            · go_simp
              refine hK _ _ ?_
              clear hK K
              refine wpAnyIn_ready (rs := [4]) (by kernel_rfl) (by simp) ?_
              refine AllReadyIn.cons rfl (fun K hK => ?_) ?_
              · go_simp
                refine hK _ _ ?_
                clear hK K
                refine wpAnyIn_ready (rs := [5]) (by kernel_rfl) (by simp) ?_
                refine AllReadyIn.cons rfl (fun K hK => ?_) ?_
                · refine step_appendIn rfl (.tmp 25) (.tmp 29) rfl rfl rfl hrun ?_
                  refine hK _ _ ?_
                  clear hK K hrun
                  refine wpAnyIn_ready (rs := [6]) (by kernel_rfl) (by simp) ?_
                  refine AllReadyIn.cons rfl (fun K hK => ?_) ?_
                  · go_simp
                    refine hK _ _ ?_
                    clear hK K
                    refine wpAnyIn_done (by kernel_rfl) ?_ _
                    exact names_leaf HN.out HL.out.1 HSX.out HV1.out HRI.out HNR.out HFORM.out HH.out HSEEN2.out HB32.out HBW2.out HNEXT.out
                  exact AllReadyIn.nil
                exact AllReadyIn.nil
              exact AllReadyIn.nil
            refine AllReadyIn.cons rfl (fun K hK => ?_) ?_
            · go_simp
              refine hK _ _ ?_
              clear hK K
              refine wpAnyIn_ready (rs := [0]) (by kernel_rfl) (by simp) ?_
              refine AllReadyIn.cons rfl (fun K hK => ?_) ?_
              · go_simp
                refine hK _ _ ?_
                clear hK K
                refine wpAnyIn_ready (rs := [5]) (by kernel_rfl) (by simp) ?_
                refine AllReadyIn.cons rfl (fun K hK => ?_) ?_
                · refine step_appendIn rfl (.tmp 25) (.tmp 29) rfl rfl rfl hrun ?_
                  refine hK _ _ ?_
                  clear hK K hrun
                  refine wpAnyIn_ready (rs := [6]) (by kernel_rfl) (by simp) ?_
                  refine AllReadyIn.cons rfl (fun K hK => ?_) ?_
                  · go_simp
                    refine hK _ _ ?_
                    clear hK K
                    refine wpAnyIn_done (by kernel_rfl) ?_ _
                    exact names_leaf HN.out HL.out.1 HSX.out HV1.out HRI.out HNR.out HFORM.out HH.out HSEEN2.out HB32.out HBW2.out HNEXT.out
                  exact AllReadyIn.nil
                exact AllReadyIn.nil
              exact AllReadyIn.nil
            exact AllReadyIn.nil
          exact AllReadyIn.nil
        exact AllReadyIn.nil
      exact AllReadyIn.nil
      -- END REGION
  case done =>
    rintro D Ri X hD ⟨v', h1, h2, h3, h4, h5, h6, h7⟩ hK
    rw [stp_snd] at h2
    obtain ⟨LP, LC, rfl, hform⟩ := h2.form
    have hc1 := h1.cell
    have H2 := Lib.hid h2; have H6 := Lib.hid h6; have HK := Lib.hid hK; have HD1 := Lib.hid hD; have HFM := Lib.hid hform
    clear h1 h2 h3 h4 h5 h6 h7 hK hD hform
    go_wp2_with fail
    have hn := HN.out; have hd := HD1.out
    refine ⟨by simp, .inl ⟨_, _, rfl, run_takeDeferred HK.out, ?_⟩⟩
    refine ⟨_, results_tmp rfl _ _ _, _, rfl, ?_, H6.out.grown (grownBy_putObj' _ D (.deferred none)) H6.out.size (fun q e => by cases e; omega)⟩
    have h9 : OwnStr (X.putObj D (.deferred none)) w4.heap.size _ _ := H2.out.as (fun g e => World.putObj_heap_other (fun e' => by
      obtain ⟨_, _, o, ho, hc⟩ := HFM.out g e
      rw [e', HK.out] at ho; cases ho; cases hc))
    exact Go.Joins.ownsRow_le h9 (by omega)
  case stop =>
    rintro D c Ri p X hD _ h _
    exact h.elim
end Go.Proofs.Ytbcnilkenkmabaa.tr
