/- strings.Builder at this program: writing a byte, writing a text, reading it; for a builder that has not been read yet. -/
import Derived.Test.YtklmchhojopfiaaDoorMem
import Derived.Test.YtklmchhojopfiaaDoorShelfB
import Derived.Lib.Builder
import Derived.Lib.OthersKept
import Derived.Lib.AppendStr
import Derived.Laws.Externs
namespace Go.Proofs.YtklmchhojopfiaaDoor.bld
open Go.ChangeShapes Go.WideShapes Go.ChangeAt Go.RowKit Go.Proofs.YtklmchhojopfiaaDoor.mem
set_option linter.unusedVariables false

/-- The builder in block b has taken these bytes. -/
def Bld (B b : Nat) (l : List UInt8) (w : World) : Prop := Lib.IsBuilder 56 5 B b (Lib.byteCells l) w
/-- What a writing call leaves. -/
def Wrote (B b : Nat) (l : List UInt8) (w w' : World) : Prop := Bld B b l w' ∧ Below B w w' ∧ Lib.OthersKept 5 (some b) w w'
theorem kind_of_row {w : World} {B : Nat} {e : TypeId} {v : Value} {n : Nat} {xs : List Value} (h : w.ownsRow B e 1 v n xs) : ∀ g, v.ownBlock = some g → ∃ c fz, w.heap[g]? = some (.cells c e fz) := Lib.ownsRowF_kind (World.ownsRowF_of h)
theorem Bld.alloc {B b : Nat} {l : List UInt8} {w : World} (h : Bld B b l w) (o : Obj) : Bld B b l (w.alloc o) := by
  have key : ∀ p, Lib.BuilderAt 56 5 B b p (Lib.byteCells l) w → Lib.BuilderAt 56 5 B b p (Lib.byteCells l) (w.alloc o) := fun p h => by
    obtain ⟨hB, v, hb, hown, hne⟩ := h
    have hlt : b < w.heap.size := (Array.getElem?_eq_some_iff.1 hb).1
    exact ⟨hB, v, (Lib.alloc_old w o b hlt).trans hb, hown.alloc _, hne⟩
  exact h.elim (fun h => .inl (key _ h)) (fun h => .inr (key _ h))
theorem bytes_snoc (l m : List UInt8) : Lib.byteCells (l ++ m) = Lib.byteCells l ++ Lib.byteCells m := by simp [Lib.byteCells]
theorem builder_size : (Tryd.prog.info? 56).map (·.size) = some 2 := by kernel_rfl
theorem builder_lies : liesAt Tryd.prog Tryd.prog.depth 56 (2 / Tryd.prog.cellsOf 56) 0 56 1 = true := by kernel_rfl
theorem byte_info : (Tryd.prog.info? 5).map (fun i => (i.zero, i.size, i.bytes)) = some (some (.int .u8 0), 1, 1) := by kernel_rfl

set_option maxHeartbeats 1000000 in
set_option maxRecDepth 100000 in
theorem check_used (b : Nat) (w : World) (h0 : w.cell? ⟨b, 0, none⟩ = some (.pointer (some ⟨b, 0, none⟩))) :
    Calls Tryd.prog 39 #[.pointer (some ⟨b, 0, none⟩)] w fun e w' => e = .returned (.tuple #[]) ∧ w' = w := by
  obtain ⟨j, hj, _⟩ := Option.map_eq_some_iff.1 builder_size
  go_enter Tryd.func39, Tryd.ntmps39
  go_wp2_with fail
  rw [Lib.run_neq_ptr_same w _ Tryd.underlying53 hj]
  go_wp2_with fail
  go_end0
  exact ⟨rfl, rfl⟩
set_option maxHeartbeats 1000000 in
set_option maxRecDepth 100000 in
theorem check_fresh (b : Nat) (w : World) (h0 : w.cell? ⟨b, 0, none⟩ = some (.pointer none)) (hsh : w.shape? b = some (56, 2)) (hfz : w.frozen? ⟨b, 0, none⟩ = false) :
    Calls Tryd.prog 39 #[.pointer (some ⟨b, 0, none⟩)] w fun e w' => e = .returned (.tuple #[]) ∧ w' = w.setCell ⟨b, 0, none⟩ (.pointer (some ⟨b, 0, none⟩)) := by
  obtain ⟨j, hj, hjs⟩ := Option.map_eq_some_iff.1 builder_size
  go_enter Tryd.func39, Tryd.ntmps39
  go_wp2_with fail
  rw [Lib.run_to_unsafe w ⟨b, 0, none⟩ Tryd.underlying53 Tryd.underlying88 hj (by rw [hjs]; decide) hsh (Nat.zero_lt_succ 1)]
  simp only [Result.andThen]
  rw [Oper.upon_value]
  go_wp2_with fail
  rw [run_callFunc_extern Tryd.func52 (by kernel_rfl) (by kernel_rfl) (by kernel_rfl) (e := Extern.AbiNoEscape.same) (by kernel_rfl), Lib.run_noEscape]
  simp only [Result.andThen]
  rw [Oper.upon_value]
  go_wp2_with fail
  rw [Lib.run_from_unsafe w ⟨b, 0, none⟩ Tryd.underlying88 Tryd.underlying53 hj hsh builder_lies]
  simp only [Result.andThen]
  rw [Oper.upon_value]
  go_wp2_with fail
  go_end0
  exact ⟨rfl, rfl⟩
/-- copyCheck: behind it the builder is 'used'. -/
theorem check_any (B b : Nat) (l : List UInt8) (w : World) (h : Bld B b l w) :
    Calls Tryd.prog 39 #[.pointer (some ⟨b, 0, none⟩)] w fun e w' => e = .returned (.tuple #[]) ∧ Lib.BuilderAt 56 5 B b (.pointer (some ⟨b, 0, none⟩)) (Lib.byteCells l) w' ∧ Below B w w' ∧ Lib.OthersKept 5 (some b) w w' := by
  rcases h with h | h
  · refine (check_fresh b w h.cell0 h.shape h.frozen0).mono ?_
    rintro e w' ⟨rfl, rfl⟩
    exact ⟨rfl, h.used _, (Below.refl B w).setCell (p := ⟨b, 0, none⟩) h.1 _, (Lib.OthersKept.refl _ _ w).setCell ⟨b, 0, none⟩ rfl _⟩
  · refine (check_used b w h.cell0).mono ?_
    rintro e w' ⟨rfl, rfl⟩
    exact ⟨rfl, h, Below.refl B _, Lib.OthersKept.refl _ _ _⟩

theorem own_shape {w : World} {B : Nat} {e : TypeId} {v : Value} {n : Nat} {xs : List Value} (h : w.ownsRow B e 1 v n xs) : ∃ A n c, v = .slice A n c := by
  rcases h.2 with ⟨hv, _⟩ | ⟨g, cap, cur, hv, _⟩
  · exact ⟨_, _, _, hv⟩
  · exact ⟨_, _, _, hv⟩
theorem grown_block {w w' : World} {b : Nat} {o : Obj} {r : Option Nat} (h : w.heap[b]? = some o) (hl : b < w.heap.size) (hn : r ≠ some b) (hg : w.grownBy w' r) : w'.heap[b]? = some o := (hg.block b hl (fun e => hn e.symm)).trans h
theorem cell1_of {w : World} {b : Nat} {p v : Value} {t : TypeId} (h : w.heap[b]? = some (.cells #[p, v] t (0, 0))) : w.cell? ⟨b, 1, none⟩ = some v := by rw [Lib.cell_of_heap h]; rfl
theorem alloc_block {w : World} {b : Nat} {o x : Obj} (h : w.heap[b]? = some o) (hl : b < w.heap.size) : (w.alloc x).heap[b]? = some o := (Lib.alloc_old w x b hl).trans h
theorem alloc_lt {w : World} {b : Nat} {x : Obj} (hl : b < w.heap.size) : b < (w.alloc x).heap.size := by simp; omega
theorem one_byte (c : UInt8) : ∀ u ∈ [Value.int .u8 c.toNat], u.oneCell' = true := by intro u hu; simp at hu; subst hu; rfl
set_option maxHeartbeats 2000000 in
set_option maxRecDepth 100000 in
theorem writeString_any (B b : Nat) (l m : List UInt8) (w : World) (h : Bld B b l w) (hlen : l.length + m.length ≤ 1000000000) (hB : B ≤ w.heap.size) :
    Calls Tryd.prog 28 #[.pointer (some ⟨b, 0, none⟩), .string ⟨m.toArray⟩] w fun e w' => e = .returned (.tuple #[.int .i64 (m.length : Nat), .nilIface]) ∧ Wrote B b (l ++ m) w w' := by
  obtain ⟨i0, hi, hz0, hz1, hz2⟩ := info_parts byte_info
  have C := Lib.hid (check_any B b l w h)
  have HB := Lib.hid hB; have HLN := Lib.hid hlen
  clear h hB hlen
  go_enter Tryd.func28, Tryd.ntmps28
  go_wp2_with fail
  refine C.out.mono ?_
  rintro e w1 ⟨rfl, h1, hb1, hk1⟩
  obtain ⟨hBb, v, hbk, hown, hne⟩ := h1
  have hlt : b < w1.heap.size := (Array.getElem?_eq_some_iff.1 hbk).1
  have c1 : w1.cell? ⟨b, 1, none⟩ = some v := by rw [Lib.cell_of_heap hbk]; rfl
  have HOWN := Lib.hid hown; have HBK := Lib.hid hbk; have HNE := Lib.hid hne; have HB1 := Lib.hid hb1; have HK1 := Lib.hid hk1
  clear hown hbk hne hb1 hk1
  have hz : (⟨m.toArray⟩ : ByteArray).size = m.length := by simp [ByteArray.size]
  go_wp2_with (at_builtin; refine Lib.wpList_append_own_string _ rfl _ _ 54 9 rfl B 5 i0 Tryd.underlying54 Tryd.underlying9 hi hz0 hz1 hz2 v _ _ rfl HOWN.out ⟨m.toArray⟩ rfl (by have := HLN.out; rw [Lib.byteCells_length, hz]; unfold maxLen; omega) (by have := HLN.out; rw [Lib.byteCells_length, hz]; omega) (by have := HB1.out.size; have := HB.out; omega) ?_; intro v' w2 hown' hgrow _; obtain ⟨A', n', c', rfl⟩ := own_shape hown'; have HOWN' := Lib.hid hown'; have HGR := Lib.hid hgrow; have HB2 := Lib.hid (grown_block HBK.out hlt HNE.out hgrow); have d1 := cell1_of HB2.out; have f1 := Lib.frozen_of_heap HB2.out 1; clear hown' hgrow)
  go_ret2
  refine ⟨rfl, .inr ?_, ?_, (HK1.out.grown HGR.out (kind_of_row HOWN.out)).setCell ⟨b, 1, none⟩ rfl _⟩
  · have h2 := HOWN'.out
    rw [← Lib.strCells_length, ← List.length_append] at h2
    have h3 := Lib.BuilderAt.put (T := 56) (e := 5) hBb HB2.out h2 (by decide)
    have e : Lib.byteCells l ++ Lib.strCells ⟨m.toArray⟩ = Lib.byteCells (l ++ m) := by rw [bytes_snoc]; rfl
    rw [e] at h3
    exact h3
  · exact (HB1.out.grown HGR.out (by have := HB1.out.size; have := HB.out; omega) (fun k hk => (HOWN.out.lt k hk).1)).setCell (p := ⟨b, 1, none⟩) hBb _

set_option maxHeartbeats 2000000 in
set_option maxRecDepth 100000 in
theorem writeByte_any (B b : Nat) (l : List UInt8) (c : UInt8) (w : World) (h : Bld B b l w) (hlen : l.length ≤ 1000000000) (hB : B ≤ w.heap.size) :
    Calls Tryd.prog 27 #[.pointer (some ⟨b, 0, none⟩), .int .u8 c.toNat] w fun e w' => e = .returned .nilIface ∧ Wrote B b (l ++ [c]) w w' := by
  obtain ⟨i0, hi, hz0, hz1, hz2⟩ := info_parts byte_info
  have C := Lib.hid (check_any B b l w h)
  have HB := Lib.hid hB; have HLN := Lib.hid hlen
  clear h hB hlen
  go_enter Tryd.func27, Tryd.ntmps27
  go_wp2_with fail
  refine C.out.mono ?_
  rintro e w1 ⟨rfl, h1, hb1, hk1⟩
  obtain ⟨hBb, v, hbk, hown, hne⟩ := h1
  have hlt : b < w1.heap.size := (Array.getElem?_eq_some_iff.1 hbk).1
  have c1 : w1.cell? ⟨b, 1, none⟩ = some v := by rw [Lib.cell_of_heap hbk]; rfl
  have HOWN := Lib.hid hown; have HBK := Lib.hid hbk; have HNE := Lib.hid hne; have HB1 := Lib.hid hb1; have HK1 := Lib.hid hk1
  clear hown hbk hne hb1 hk1
  have HCC := Lib.hid (show ∀ t : TypeId, ∀ j u, ([Value.int .u8 c.toNat] : List Value)[j]? = some u → (w1.alloc (.cells #[.int .u8 c.toNat] t)).cell? ((⟨w1.heap.size, 0, none⟩ : Addr).add j) = some u from fun t j u hj => by
    rw [add_at, cell_of_row _ _ _ _ t (0, 0) (heap_alloc_new w1 _)]
    match j, hj with
    | 0, hj => simp at hj; subst hj; rfl)
  go_wp2_with (at_builtin; refine wpList_append_own _ rfl _ _ 54 rfl B 5 i0 (.int .u8 0) 1 1 Tryd.underlying54 hi hz0 hz1 hz2 rfl (by decide) v _ _ rfl (HOWN.out.alloc _) ⟨w1.heap.size, 0, none⟩ 1 1 [.int .u8 c.toNat] rfl rfl (HCC.out _) (one_byte c) (by have := HLN.out; rw [Lib.byteCells_length]; unfold maxLen; omega) (by have := HLN.out; rw [Lib.byteCells_length]; omega) (by have := HB1.out.size; have := HB.out; simp; omega) ?_; intro v' w2 hown' hgrow _; obtain ⟨A', n', c', rfl⟩ := own_shape hown'; have HOWN' := Lib.hid hown'; have HGR := Lib.hid hgrow; have HB2 := Lib.hid (grown_block (alloc_block HBK.out hlt) (alloc_lt hlt) HNE.out hgrow); have d1 := cell1_of HB2.out; have f1 := Lib.frozen_of_heap HB2.out 1; clear hown' hgrow)
  go_ret
  refine ⟨rfl, .inr ?_, ?_, ((HK1.out.alloc _).grown HGR.out (kind_of_row (HOWN.out.alloc _))).setCell ⟨b, 1, none⟩ rfl _⟩
  · have h2 := HOWN'.out
    have e : Lib.byteCells l ++ [Value.int .u8 c.toNat] = Lib.byteCells (l ++ [c]) := by rw [bytes_snoc]; rfl
    have hl : (Lib.byteCells l).length + 1 = (Lib.byteCells (l ++ [c])).length := by rw [← e, List.length_append]; rfl
    rw [e, hl] at h2
    exact Lib.BuilderAt.put (T := 56) (e := 5) hBb HB2.out h2 (by decide)
  · exact ((HB1.out.alloc (by have := HB1.out.size; have := HB.out; omega) _).grown HGR.out (by have := HB1.out.size; have := HB.out; simp; omega) (fun k hk => (HOWN.out.lt k hk).1)).setCell (p := ⟨b, 1, none⟩) hBb _
theorem string_any (B b : Nat) (l : List UInt8) (w : World) (h : Bld B b l w) (hB : B ≤ w.heap.size) :
    Calls Tryd.prog 29 #[.pointer (some ⟨b, 0, none⟩)] w fun e w' => e = .returned (.string ⟨l.toArray⟩) ∧ Below B w w' := Tryd.Builder_String_any B b l w h hB
end Go.Proofs.YtklmchhojopfiaaDoor.bld
