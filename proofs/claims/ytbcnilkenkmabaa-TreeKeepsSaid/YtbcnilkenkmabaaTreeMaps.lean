/- Package tree: the maps of the rules, made and asked. -/
import Derived.Test.YtbcnilkenkmabaaTreeRule
namespace Go.Proofs.Ytbcnilkenkmabaa.tr
open Go.ChangeShapes Go.WideShapes Go.ChangeAt Go.RowKit Go.Proofs.Ytbcnilkenkmabaa.mem Go.Proofs.Ytbcnilkenkmabaa.sq
set_option linter.unusedVariables false

theorem wpList_makeMap {w : World} {ops : Array Oper} {rest : List Oper} {o : Oper} {a : Act} {Q : Exit → Act → World → Prop} (hgd : o.guard = none) (t : TypeId) (hop : o.op = Op.makeMap t none)
    (h : ∀ w', w'.heap[w.heap.size]? = some (.map #[] 0) → Below w.heap.size w w' → w'.heap.size = w.heap.size + 1 → wpList Try.prog ops Q rest (a.put o.dst (.map (some w.heap.size))) w') : wpList Try.prog ops Q (o :: rest) a w := by
  refine wpList_plain hgd fun K hK => ?_
  unfold Oper.wp
  simp [execOp, hop, run_makeMap, Result.andThen]
  exact hK _ _ (h _ (World.alloc_heap_new w _) ((Below.refl _ _).alloc (Nat.le_refl _) _) (by simp))
theorem wpList_insert {W w : World} {ops : Array Oper} {rest : List Oper} {o : Oper} {a : Act} {Q : Exit → Act → World → Prop} (hgd : o.guard = none) (m x v : Operand) (t : TypeId) (hop : o.op = Op.insert t m x v)
    {kt et : TypeId} (hm : Try.prog.underlying t = some (.map kt et)) (hd : Try.prog.underlying kt = some (.int .i64)) {b clock : Nat} {es : Array MapEntry} (hmv : a.eval m = .map (some b)) (hb : w.heap[b]? = some (.map es clock))
    (hes : ∀ e ∈ es.toList, ∃ y, e.key = .int .i64 y) (k : Int) (hx : a.eval x = .int .i64 k) (u : Value) (hv : a.eval v = u) (hne : entryAt k es.toList = none) (hB : W.heap.size ≤ b) (hW : Below W.heap.size W w)
    (h : ∀ w', w'.heap[b]? = some (.map (es.push { key := .int .i64 k, val := u, born := clock }) (clock + 1)) → Below W.heap.size W w' → w'.heap.size = w.heap.size → (∀ q, q ≠ b → w'.heap[q]? = w.heap[q]?) → wpList Try.prog ops Q rest (a.put o.dst undef) w') :
    wpList Try.prog ops Q (o :: rest) a w := by
  have hrun := run_insert_int hm hd hb hes k u hne
  have hlt := (Array.getElem?_eq_some_iff.1 hb).1
  refine wpList_plain hgd fun K hK => ?_
  unfold Oper.wp
  simp [execOp, hop, hmv, hx, hv, hrun, Result.andThen]
  exact hK _ _ (h _ (World.putObj_heap_same hlt) ⟨hW.os, hW.tape, hW.output, by simpa using hW.size, fun q hq => (World.putObj_heap_other (by omega)).trans (hW.block q hq)⟩ (by simp) (fun q hq => World.putObj_heap_other hq))

def ent (k : Int) (v : Value) (n : Nat) : MapEntry := { key := .int .i64 k, val := v, born := n }
/-- The maps of the rules, as kinds lays them. -/
structure Rules (w : World) (B b b1 b2 m1 m2 : Nat) : Prop where
  rules : w.heap[b]? = some (.map #[ent 1 (.func (.func 39) #[] #[]) 0, ent 2 (.func (.func 41) #[] #[]) 1, ent 3 (.func (.func 43) #[] #[.pointer (some ⟨b1, 0, none⟩)]) 2, ent 4 (.func (.func 45) #[] #[.pointer (some ⟨b2, 0, none⟩)]) 3] 4)
  box1 : Boxed w b1 53 (.map (some m1))
  box2 : Boxed w b2 53 (.map (some m2))
  map1 : w.heap[m1]? = some (.map #[ent 3 (.bool true) 0, ent 4 (.bool false) 1, ent 6 (.bool false) 2] 3)
  map2 : w.heap[m2]? = some (.map #[ent 1 (.bool false) 0, ent 2 (.bool false) 1, ent 3 (.bool true) 2, ent 4 (.bool false) 3, ent 5 (.bool false) 4, ent 6 (.bool true) 5] 6)
  from_ : B ≤ b ∧ B ≤ b1 ∧ B ≤ b2 ∧ B ≤ m1 ∧ B ≤ m2
theorem Rules.as {w w' : World} {B b b1 b2 m1 m2 : Nat} (h : Rules w B b b1 b2 m1 m2) (hk : ∀ q, B ≤ q → q < w.heap.size → w'.heap[q]? = w.heap[q]?) : Rules w' B b b1 b2 m1 m2 := by
  have l : ∀ {q : Nat} {o : Obj}, w.heap[q]? = some o → q < w.heap.size := fun h => (Array.getElem?_eq_some_iff.1 h).1
  exact ⟨(hk b h.from_.1 (l h.rules)).trans h.rules, boxed_as h.box1 (hk b1 h.from_.2.1 h.box1.lt), boxed_as h.box2 (hk b2 h.from_.2.2.1 h.box2.lt), (hk m1 h.from_.2.2.2.1 (l h.map1)).trans h.map1, (hk m2 h.from_.2.2.2.2 (l h.map2)).trans h.map2, h.from_⟩

def KindsTo (w : World) (e : Ending) (w' : World) : Prop := ∃ b b1 b2 m1 m2, e = .returned (.map (some b)) ∧ Rules w' w.heap.size b b1 b2 m1 m2 ∧ Below w.heap.size w w'
set_option maxHeartbeats 4000000 in
theorem kinds_any (w : World) : Calls Try.prog 30 #[] w (KindsTo w) := by
  have HB := Lib.hid (Below.refl w.heap.size w)
  go_enter Try.func30, Try.ntmps30
  go_upto_region 2 with (first
    | (refine wpList_makeMap rfl _ rfl ?_; intro w1 hm1 hb1 hs1; have HM := Lib.hid hm1; have HL := Lib.hid HB.out.size; have HB := Lib.hid (HB.out.trans (hb1.mono HB.out.size)); clear hm1 hb1 hs1)
    | (refine wpList_insert rfl _ _ _ _ rfl Try.underlying53 Try.underlying3 rfl HM.out (by simp) _ rfl _ rfl (by rfl) HL.out HB.out ?_; intro w2 hm2 hb2 hs2 ho2; have HM := Lib.hid hm2; have HB := Lib.hid hb2; clear hm2 hb2 hs2 ho2))
  have hm1 : w2.heap[w.heap.size]? = some (.map #[ent 3 (.bool true) 0, ent 4 (.bool false) 1, ent 6 (.bool false) 2] 3) := HM.out
  obtain ⟨V2, hV2⟩ : ∃ V2, V2 = w2.alloc (.cells #[.map (some w.heap.size)] 53) := ⟨_, rfl⟩
  have hbV : Below w.heap.size w V2 := by rw [hV2]; exact HB.out.alloc HB.out.size _
  have hm1V : V2.heap[w.heap.size]? = some (.map #[ent 3 (.bool true) 0, ent 4 (.bool false) 1, ent 6 (.bool false) 2] 3) := by rw [hV2]; exact (Below.heap_alloc _ _ _ (Array.getElem?_eq_some_iff.1 hm1).1).trans hm1
  have hx1V : Boxed V2 w2.heap.size 53 (.map (some w.heap.size)) := by rw [hV2]; exact Boxed.new _ _ _
  have HF := Lib.hid (show Below w.heap.size w V2 ∧ V2.heap[w.heap.size]? = some (.map #[ent 3 (.bool true) 0, ent 4 (.bool false) 1, ent 6 (.bool false) 2] 3) ∧ Boxed V2 w2.heap.size 53 (.map (some w.heap.size)) ∧ w.heap.size ≤ w2.heap.size from ⟨hbV, hm1V, hx1V, HB.out.size⟩)
  generalize hb1 : w2.heap.size = b1 at *
  rw [← hV2]
  clear hm1 hm1V hbV hx1V hV2 hb1 HM HL
  have HB := Lib.hid (Below.refl V2.heap.size V2)
  go_upto_region 3 with (first
    | (refine wpList_makeMap rfl _ rfl ?_; intro w1 hm1 hb1 hs1; have HM := Lib.hid hm1; have HL := Lib.hid HB.out.size; have HB := Lib.hid (HB.out.trans (hb1.mono HB.out.size)); clear hm1 hb1 hs1)
    | (refine wpList_insert rfl _ _ _ _ rfl Try.underlying53 Try.underlying3 rfl HM.out (by simp) _ rfl _ rfl (by rfl) HL.out HB.out ?_; intro w2 hm2 hb2 hs2 ho2; have HM := Lib.hid hm2; have HB := Lib.hid hb2; clear hm2 hb2 hs2 ho2))
  have hm2 : w2.heap[V2.heap.size]? = some (.map #[ent 1 (.bool false) 0, ent 2 (.bool false) 1, ent 3 (.bool true) 2, ent 4 (.bool false) 3, ent 5 (.bool false) 4, ent 6 (.bool true) 5] 6) := HM.out
  obtain ⟨V3, hV3⟩ : ∃ V3, V3 = w2.alloc (.cells #[.map (some V2.heap.size)] 53) := ⟨_, rfl⟩
  have hbV : Below V2.heap.size V2 V3 := by rw [hV3]; exact HB.out.alloc HB.out.size _
  have hm2V : V3.heap[V2.heap.size]? = some (.map #[ent 1 (.bool false) 0, ent 2 (.bool false) 1, ent 3 (.bool true) 2, ent 4 (.bool false) 3, ent 5 (.bool false) 4, ent 6 (.bool true) 5] 6) := by rw [hV3]; exact (Below.heap_alloc _ _ _ (Array.getElem?_eq_some_iff.1 hm2).1).trans hm2
  have hx2V : Boxed V3 w2.heap.size 53 (.map (some V2.heap.size)) := by rw [hV3]; exact Boxed.new _ _ _
  have HG := Lib.hid (show Below V2.heap.size V2 V3 ∧ V3.heap[V2.heap.size]? = some (.map #[ent 1 (.bool false) 0, ent 2 (.bool false) 1, ent 3 (.bool true) 2, ent 4 (.bool false) 3, ent 5 (.bool false) 4, ent 6 (.bool true) 5] 6) ∧ Boxed V3 w2.heap.size 53 (.map (some V2.heap.size)) ∧ V2.heap.size ≤ w2.heap.size from ⟨hbV, hm2V, hx2V, HB.out.size⟩)
  generalize hb2 : w2.heap.size = b2 at *
  rw [← hV3]
  clear hm2 hm2V hbV hx2V hV3 hb2 HM HL
  have HB := Lib.hid (Below.refl V3.heap.size V3)
  go_wp2_with (first
    | (refine wpList_makeMap rfl _ rfl ?_; intro w1 hm1 hb1 hs1; have HM := Lib.hid hm1; have HL := Lib.hid HB.out.size; have HB := Lib.hid (HB.out.trans (hb1.mono HB.out.size)); clear hm1 hb1 hs1)
    | (refine wpList_insert rfl _ _ _ _ rfl Try.underlying44 Try.underlying3 rfl HM.out (by simp) _ rfl _ rfl (by rfl) HL.out HB.out ?_; intro w2 hm2 hb2 hs2 ho2; have HM := Lib.hid hm2; have HB := Lib.hid hb2; clear hm2 hb2 hs2 ho2))
  obtain ⟨f1, f2, f3, f4⟩ := HF.out
  obtain ⟨g1, g2, g3, g4⟩ := HG.out
  have hsz := f1.size
  have hsz2 := g1.size
  have l1 := (Array.getElem?_eq_some_iff.1 f2).1
  have l2 := (Array.getElem?_eq_some_iff.1 g2).1
  have HBW := Lib.hid (show Below w.heap.size w w2 from (f1.trans (g1.mono hsz)).trans (HB.out.mono (by omega)))
  have HRU := Lib.hid (show Rules w2 w.heap.size V3.heap.size b1 b2 w.heap.size V2.heap.size from
    ⟨HM.out, boxed_as f3 ((HB.out.block b1 (by have := f3.lt; omega)).trans (g1.block b1 f3.lt)), boxed_as g3 (HB.out.block b2 g3.lt), (HB.out.block _ (by omega)).trans ((g1.block _ l1).trans f2), (HB.out.block _ l2).trans g2, by omega, f4, by omega, Nat.le_refl _, hsz⟩)
  clear f1 f2 f3 f4 g1 g2 g3 g4 hsz hsz2 l1 l2
  go_ret
  exact ⟨_, _, _, _, _, rfl, HRU.out, HBW.out⟩
end Go.Proofs.Ytbcnilkenkmabaa.tr
