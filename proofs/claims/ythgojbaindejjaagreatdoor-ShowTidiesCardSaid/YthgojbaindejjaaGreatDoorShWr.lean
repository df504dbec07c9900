/- Package show: the writer, a strings.Builder that is embedded in a block of four cells: writing a part, making room, reading it. Package show: the writer's builder makes room; its text is read. -/
import Derived.Test.YthgojbaindejjaaGreatDoorMem
import Derived.Test.YthgojbaindejjaaGreatDoorDecimal
import Derived.Lib.Builder
import Derived.Lib.OthersKept
import Derived.Lib.AppendStr
import Derived.Lib.UnsafeStr
import Derived.Lib.MakeNoZero
import Derived.Laws.Externs
import Derived.Laws.IdiomCopy
import Derived.Deep.QuietTactic
import Derived.BigQuiet
import Derived.RegionTactic
import Derived.WalkSmall
/- Package show: the writer, a strings.Builder that is embedded in a block of four cells: writing a part, making room, reading it. -/
namespace Go.Proofs.YthgojbaindejjaaGreatDoor.sh
open Go.ChangeShapes Go.WideShapes Go.ChangeAt Go.RowKit Go.Proofs.YthgojbaindejjaaGreatDoor.mem
set_option linter.unusedVariables false
set_option linter.unusedSimpArgs false

/-- The writer in block b: what it has written, its room, whether it counts alone. -/
def WrAt (B b : Nat) (p : Value) (l : List UInt8) (r : Int) (c : Bool) (w : World) : Prop :=
  B ≤ b ∧ ∃ v, w.heap[b]? = some (.cells #[p, v, .int .i64 r, .bool c] 63 (0, 0)) ∧ w.ownsRow B 5 1 v l.length (Lib.byteCells l) ∧ v.ownBlock ≠ some b
def Wr (B b : Nat) (l : List UInt8) (r : Int) (c : Bool) (w : World) : Prop := WrAt B b (.pointer none) l r c w ∨ WrAt B b (.pointer (some ⟨b, 0, none⟩)) l r c w
/-- What a writing call leaves as it was: blocks below B, and all others but the writer's own and rows of bytes. -/
def Fr (B b : Nat) (w w' : World) : Prop := Below B w w' ∧ Lib.OthersKept 5 (some b) w w'
theorem Fr.refl (B b : Nat) (w : World) : Fr B b w w := ⟨Below.refl B w, Lib.OthersKept.refl _ _ _⟩
theorem Fr.trans {B b : Nat} {u v w : World} (h : Fr B b u v) (k : Fr B b v w) : Fr B b u w := ⟨h.1.trans k.1, h.2.trans k.2⟩
theorem WrAt.lt {B b : Nat} {p : Value} {l : List UInt8} {r : Int} {c : Bool} {w : World} (h : WrAt B b p l r c w) : b < w.heap.size := by
  obtain ⟨_, v, hb, _⟩ := h
  exact (Array.getElem?_eq_some_iff.1 hb).1
theorem WrAt.below {B b : Nat} {p : Value} {l : List UInt8} {r : Int} {c : Bool} {w : World} (h : WrAt B b p l r c w) : B ≤ w.heap.size := Nat.le_of_lt (Nat.lt_of_le_of_lt h.1 h.lt)
theorem Wr.lt {B b : Nat} {l : List UInt8} {r : Int} {c : Bool} {w : World} (h : Wr B b l r c w) : b < w.heap.size := h.elim (·.lt) (·.lt)
theorem Wr.base {B b : Nat} {l : List UInt8} {r : Int} {c : Bool} {w : World} (h : Wr B b l r c w) : B ≤ w.heap.size := h.elim (·.below) (·.below)
theorem set_own {w : World} {B b : Nat} {e : TypeId} {v q : Value} {n j : Nat} {xs : List Value} (h : w.ownsRow B e 1 v n xs) (hne : v.ownBlock ≠ some b) : (w.setCell ⟨b, j, none⟩ q).ownsRow B e 1 v n xs :=
  h.kept (row := some b) ⟨rfl, rfl, rfl, by simp [World.setCell], fun k _ hk => Below.heap_setCell _ _ _ _ (fun e => hk (by simp [e]))⟩ (Or.inr hne)
theorem WrAt.used {B b : Nat} {p : Value} {l : List UInt8} {r : Int} {c : Bool} {w : World} (h : WrAt B b p l r c w) (q : Value) : WrAt B b q l r c (w.setCell ⟨b, 0, none⟩ q) := by
  obtain ⟨hB, v, hb, hown, hne⟩ := h
  exact ⟨hB, v, by simp [World.setCell, Array.getElem?_modify, hb], set_own hown hne, hne⟩
theorem WrAt.room {B b : Nat} {p : Value} {l : List UInt8} {r : Int} {c : Bool} {w : World} (h : WrAt B b p l r c w) (r' : Int) : WrAt B b p l r' c (w.setCell ⟨b, 2, none⟩ (.int .i64 r')) := by
  obtain ⟨hB, v, hb, hown, hne⟩ := h
  exact ⟨hB, v, by simp [World.setCell, Array.getElem?_modify, hb], set_own hown hne, hne⟩
theorem Wr.room {B b : Nat} {l : List UInt8} {r : Int} {c : Bool} {w : World} (h : Wr B b l r c w) (r' : Int) : Wr B b l r' c (w.setCell ⟨b, 2, none⟩ (.int .i64 r')) := h.elim (fun h => .inl (h.room r')) (fun h => .inr (h.room r'))
theorem put_wr {B b : Nat} {p v v' : Value} {l : List UInt8} {r : Int} {c : Bool} {w : World} (hB : B ≤ b) (hb : w.heap[b]? = some (.cells #[p, v, .int .i64 r, .bool c] 63 (0, 0))) (hown : w.ownsRow B 5 1 v' l.length (Lib.byteCells l)) :
    WrAt B b p l r c (w.setCell ⟨b, 1, none⟩ v') := by
  have hne := Lib.ownBlock_ne hown hb (by decide)
  exact ⟨hB, v', by simp [World.setCell, Array.getElem?_modify, hb], set_own hown hne, hne⟩
theorem WrAt.drew {B b : Nat} {p : Value} {l : List UInt8} {r : Int} {c : Bool} {w : World} (h : WrAt B b p l r c w) : WrAt B b p l r c w.drew := h
theorem Fr.drew {B b : Nat} {w w' : World} (h : Fr B b w w') : Fr B b w w'.drew := ⟨h.1.drew, h.2.drew⟩
theorem wr_cells {B b : Nat} {l : List UInt8} {r : Int} {c : Bool} {w : World} (h : Wr B b l r c w) : w.cell? ⟨b, 2, none⟩ = some (.int .i64 r) ∧ w.cell? ⟨b, 3, none⟩ = some (.bool c) ∧ w.frozen? ⟨b, 2, none⟩ = false := by
  rcases h with ⟨_, v, hb, _⟩ | ⟨_, v, hb, _⟩
  · exact ⟨by rw [Lib.cell_of_heap hb]; rfl, by rw [Lib.cell_of_heap hb]; rfl, Lib.frozen_of_heap hb 2⟩
  · exact ⟨by rw [Lib.cell_of_heap hb]; rfl, by rw [Lib.cell_of_heap hb]; rfl, Lib.frozen_of_heap hb 2⟩
theorem alloc_own {w : World} {b : Nat} {x : Obj} {o : Obj} (h : w.heap[b]? = some o) : (w.alloc x).heap[b]? = some o := (Lib.alloc_old w x b (Array.getElem?_eq_some_iff.1 h).1).trans h
theorem WrAt.alloc {B b : Nat} {p : Value} {l : List UInt8} {r : Int} {c : Bool} {w : World} (h : WrAt B b p l r c w) (o : Obj) : WrAt B b p l r c (w.alloc o) := by
  obtain ⟨hB, v, hb, hown, hne⟩ := h
  exact ⟨hB, v, alloc_own hb, hown.alloc _, hne⟩
theorem Wr.alloc {B b : Nat} {l : List UInt8} {r : Int} {c : Bool} {w : World} (h : Wr B b l r c w) (o : Obj) : Wr B b l r c (w.alloc o) := h.elim (fun h => .inl (h.alloc o)) (fun h => .inr (h.alloc o))
theorem Fr.alloc {B b : Nat} {w : World} (h : B ≤ w.heap.size) (o : Obj) : Fr B b w (w.alloc o) := ⟨(Below.refl B w).alloc h _, (Lib.OthersKept.refl _ _ w).alloc o⟩
theorem kind_of_row {w : World} {B : Nat} {e : TypeId} {v : Value} {n : Nat} {xs : List Value} (h : w.ownsRow B e 1 v n xs) : ∀ g, v.ownBlock = some g → ∃ c fz, w.heap[g]? = some (.cells c e fz) := Lib.ownsRowF_kind (World.ownsRowF_of h)
theorem own_shape {w : World} {B : Nat} {e : TypeId} {v : Value} {n : Nat} {xs : List Value} (h : w.ownsRow B e 1 v n xs) : ∃ A n c, v = .slice A n c := by
  rcases h.2 with ⟨hv, _⟩ | ⟨g, cap, cur, hv, _⟩
  · exact ⟨_, _, _, hv⟩
  · exact ⟨_, _, _, hv⟩
theorem bytes_snoc (l m : List UInt8) : Lib.byteCells (l ++ m) = Lib.byteCells l ++ Lib.byteCells m := by simp [Lib.byteCells]

theorem builder_size : (Tryz.prog.info? 61).map (·.size) = some 2 := by kernel_rfl
theorem builder_lies : liesAt Tryz.prog Tryz.prog.depth 63 (4 / Tryz.prog.cellsOf 63) 0 61 1 = true := by kernel_rfl
theorem byte_info : (Tryz.prog.info? 5).map (fun i => (i.zero, i.size, i.bytes)) = some (some (.int .u8 0), 1, 1) := by kernel_rfl
theorem byte_cells : Tryz.prog.cellsOf 5 = 1 := by kernel_rfl
theorem byte_size : (Tryz.prog.info? 5).map (·.size) = some 1 := by kernel_rfl

set_option maxHeartbeats 1000000 in
set_option maxRecDepth 100000 in
theorem check_used (b : Nat) (w : World) (h0 : w.cell? ⟨b, 0, none⟩ = some (.pointer (some ⟨b, 0, none⟩))) :
    Calls Tryz.prog 51 #[.pointer (some ⟨b, 0, none⟩)] w fun e w' => e = .returned (.tuple #[]) ∧ w' = w := by
  obtain ⟨j, hj, _⟩ := Option.map_eq_some_iff.1 builder_size
  go_enter Tryz.func51, Tryz.ntmps51
  go_wp2_with fail
  rw [Lib.run_neq_ptr_same w _ Tryz.underlying58 hj]
  go_wp2_with fail
  go_end0
  exact ⟨rfl, rfl⟩
set_option maxHeartbeats 1000000 in
set_option maxRecDepth 100000 in
theorem check_fresh (b : Nat) (w : World) (h0 : w.cell? ⟨b, 0, none⟩ = some (.pointer none)) (hsh : w.shape? b = some (63, 4)) (hfz : w.frozen? ⟨b, 0, none⟩ = false) :
    Calls Tryz.prog 51 #[.pointer (some ⟨b, 0, none⟩)] w fun e w' => e = .returned (.tuple #[]) ∧ w' = w.setCell ⟨b, 0, none⟩ (.pointer (some ⟨b, 0, none⟩)) := by
  obtain ⟨j, hj, hjs⟩ := Option.map_eq_some_iff.1 builder_size
  go_enter Tryz.func51, Tryz.ntmps51
  go_wp2_with fail
  rw [Lib.run_to_unsafe w ⟨b, 0, none⟩ Tryz.underlying58 Tryz.underlying108 hj (by rw [hjs]; decide) hsh (Nat.zero_lt_succ 3)]
  simp only [Result.andThen]
  rw [Oper.upon_value]
  go_wp2_with fail
  rw [run_callFunc_extern Tryz.func66 (by kernel_rfl) (by kernel_rfl) (by kernel_rfl) (e := Extern.AbiNoEscape.same) (by kernel_rfl), Lib.run_noEscape]
  simp only [Result.andThen]
  rw [Oper.upon_value]
  go_wp2_with fail
  rw [Lib.run_from_unsafe w ⟨b, 0, none⟩ Tryz.underlying108 Tryz.underlying58 hj hsh builder_lies]
  simp only [Result.andThen]
  rw [Oper.upon_value]
  go_wp2_with fail
  go_end0
  exact ⟨rfl, rfl⟩
/-- copyCheck: behind it the builder is 'used'. -/
theorem check_any (B b : Nat) (l : List UInt8) (r : Int) (c : Bool) (w : World) (h : Wr B b l r c w) :
    Calls Tryz.prog 51 #[.pointer (some ⟨b, 0, none⟩)] w fun e w' => e = .returned (.tuple #[]) ∧ WrAt B b (.pointer (some ⟨b, 0, none⟩)) l r c w' ∧ Fr B b w w' := by
  rcases h with h | h
  · obtain ⟨_, v, hb, _⟩ := id h
    refine (check_fresh b w (by rw [Lib.cell_of_heap hb]; rfl) (by simp [World.shape?, hb]) (Lib.frozen_of_heap hb 0)).mono ?_
    rintro e w' ⟨rfl, rfl⟩
    exact ⟨rfl, h.used _, (Below.refl B w).setCell (p := ⟨b, 0, none⟩) h.1 _, (Lib.OthersKept.refl _ _ w).setCell ⟨b, 0, none⟩ rfl _⟩
  · obtain ⟨_, v, hb, _⟩ := id h
    refine (check_used b w (by rw [Lib.cell_of_heap hb]; rfl)).mono ?_
    rintro e w' ⟨rfl, rfl⟩
    exact ⟨rfl, h, Fr.refl B b _⟩
theorem grown_block {w w' : World} {b : Nat} {o : Obj} {r : Option Nat} (h : w.heap[b]? = some o) (hn : r ≠ some b) (hg : w.grownBy w' r) : w'.heap[b]? = some o := (hg.block b (Array.getElem?_eq_some_iff.1 h).1 (fun e => hn e.symm)).trans h
theorem cell1_of {w : World} {b : Nat} {p v x y : Value} {t : TypeId} (h : w.heap[b]? = some (.cells #[p, v, x, y] t (0, 0))) : w.cell? ⟨b, 1, none⟩ = some v := by rw [Lib.cell_of_heap h]; rfl
set_option maxHeartbeats 2000000 in
set_option maxRecDepth 100000 in
theorem writeString_any (B b : Nat) (l m : List UInt8) (r : Int) (c : Bool) (w : World) (h : Wr B b l r c w) (hlen : l.length + m.length ≤ 4294967296) :
    Calls Tryz.prog 62 #[.pointer (some ⟨b, 0, none⟩), .string (txt.strOf m)] w fun e w' => e = .returned (.tuple #[.int .i64 (m.length : Nat), .nilIface]) ∧ Wr B b (l ++ m) r c w' ∧ Fr B b w w' := by
  obtain ⟨i0, hi, hz0, hz1, hz2⟩ := info_parts byte_info
  have C := Lib.hid (check_any B b l r c w h)
  have HB := Lib.hid h.base; have HLN := Lib.hid hlen
  clear h hlen
  go_enter Tryz.func62, Tryz.ntmps62
  go_wp2_with fail
  refine C.out.mono ?_
  rintro e w1 ⟨rfl, h1, hf1⟩
  obtain ⟨hBb, v, hbk, hown, hne⟩ := h1
  have c1 : w1.cell? ⟨b, 1, none⟩ = some v := cell1_of hbk
  have HOWN := Lib.hid hown; have HBK := Lib.hid hbk; have HNE := Lib.hid hne; have HB1 := Lib.hid hf1.1; have HK1 := Lib.hid hf1.2
  clear hown hbk hne hf1
  have hz : (⟨m.toArray⟩ : ByteArray).size = m.length := by simp [ByteArray.size]
  have hz' : (txt.strOf m).size = m.length := hz
  go_wp2_with (at_builtin; refine Lib.wpList_append_own_string _ rfl _ _ 59 9 rfl B 5 i0 Tryz.underlying59 Tryz.underlying9 hi hz0 hz1 hz2 v _ _ rfl HOWN.out ⟨m.toArray⟩ rfl (by have := HLN.out; rw [hz]; unfold maxLen; omega) (by have := HLN.out; rw [hz]; omega) (by have := HB1.out.size; have := HB.out; omega) ?_; intro v' w2 hown' hgrow _; obtain ⟨A', n', c', rfl⟩ := own_shape hown'; have HOWN' := Lib.hid hown'; have HGR := Lib.hid hgrow; have HB2 := Lib.hid (grown_block HBK.out HNE.out hgrow); have d1 := cell1_of HB2.out; have f1 := Lib.frozen_of_heap HB2.out 1; clear hown' hgrow)
  go_ret2
  refine ⟨rfl, .inr ?_, ?_, (HK1.out.grown HGR.out (kind_of_row HOWN.out)).setCell ⟨b, 1, none⟩ rfl _⟩
  · have h2 := HOWN'.out
    have e : Lib.byteCells l ++ Lib.strCells ⟨m.toArray⟩ = Lib.byteCells (l ++ m) := by rw [bytes_snoc]; rfl
    rw [e, hz, ← List.length_append] at h2
    exact put_wr hBb HB2.out h2
  · exact (HB1.out.grown HGR.out (by have := HB1.out.size; have := HB.out; omega) (fun k hk => (HOWN.out.lt k hk).1)).setCell (p := ⟨b, 1, none⟩) hBb _

/-! ### Making room -/
theorem grown_fresh {B b : Nat} {p : Value} {r : Int} {c : Bool} {w : World} {cs : Array Value} (hB : B ≤ b) (hbk : w.heap[b]? = some (.cells #[p, .slice none 0 0, .int .i64 r, .bool c] 63 (0, 0))) (hm : cs.size ≤ maxLen) :
    WrAt B b p [] r c ((w.alloc (.cells cs 5)).setCell ⟨b, 1, none⟩ (.slice (some ⟨w.heap.size, 0, none⟩) 0 cs.size)) ∧ Fr B b w ((w.alloc (.cells cs 5)).setCell ⟨b, 1, none⟩ (.slice (some ⟨w.heap.size, 0, none⟩) 0 cs.size)) := by
  have hlt : b < w.heap.size := (Array.getElem?_eq_some_iff.1 hbk).1
  have hown : (w.alloc (.cells cs 5)).ownsRow B 5 1 (.slice (some ⟨w.heap.size, 0, none⟩) 0 cs.size) ([] : List UInt8).length (Lib.byteCells []) :=
    ⟨rfl, .inr ⟨w.heap.size, cs.size, cs, rfl, by omega, heap_alloc_new w _, Nat.zero_le _, hm, by simp, by simp [Lib.byteCells]⟩⟩
  exact ⟨put_wr hB (alloc_own hbk) hown, ((Below.refl B w).alloc (by omega) _).setCell (p := ⟨b, 1, none⟩) hB _, ((Lib.OthersKept.refl _ _ w).alloc _).setCell ⟨b, 1, none⟩ rfl _⟩
set_option maxHeartbeats 2000000 in
set_option maxRecDepth 1000000 in
theorem grow_any (B b n : Nat) (p : Value) (r : Int) (c : Bool) (w : World) (hB : B ≤ b) (hbk : w.heap[b]? = some (.cells #[p, .slice none 0 0, .int .i64 r, .bool c] 63 (0, 0))) (hn : n ≤ 281474976710656) :
    Calls Tryz.prog 52 #[.pointer (some ⟨b, 0, none⟩), .int .i64 n] w fun e w' => e = .returned (.tuple #[]) ∧ WrAt B b p [] r c w' ∧ Fr B b w w' := by
  obtain ⟨cs, hrun, hle, hmax⟩ := Lib.run_makeNoZero (P := Tryz.prog) w.drew #[3] 59 5 Tryz.underlying59 n hn
  have hw : IntKind.i64.wrap (IntKind.i64.wrap 0 + (n : Int)) = n := by
    rw [IntKind.wrap_i64, IntKind.wrap_i64]
    omega
  have hcall : (callFunc 67 #[.int .i64 (IntKind.i64.wrap (IntKind.i64.wrap 0 + (n : Int)))]).run Tryz.prog w.drew = .ok (.value (.slice (some ⟨w.drew.heap.size, 0, none⟩) n cs.size)) (w.drew.drew.drew.alloc (.cells cs 5)) := by
    rw [hw, run_callFunc_extern Tryz.func67 (by kernel_rfl) (by kernel_rfl) (by kernel_rfl) (e := Extern.BytealgMakeNoZero.makeNoZero #[3] #[59]) (by kernel_rfl), hrun]
    rfl
  have c1 : w.drew.cell? ⟨b, 1, none⟩ = some (.slice none 0 0) := cell1_of (w := w.drew) hbk
  have c2 : (w.alloc (.cells cs 5)).cell? ⟨b, 1, none⟩ = some (.slice none 0 0) := cell1_of (alloc_own hbk)
  have f2 : (w.alloc (.cells cs 5)).frozen? ⟨b, 1, none⟩ = false := Lib.frozen_of_heap (alloc_own hbk) 1
  have hcopy : ∀ W : World, (Builtin.copy_ #[59, 59] 3 #[.slice (some ⟨w.heap.size, 0, none⟩) 0 cs.size, .slice none 0 0]).run Tryz.prog W = .ok (goInt 0) W :=
    fun W => run_copy_none W 59 59 3 5 _ _ 0 cs.size 0 0 Tryz.underlying59 byte_size rfl
  have hfin := grown_fresh (cs := cs) (r := r) (c := c) hB hbk (hmax (by unfold maxLen; omega))
  clear hw
  go_enter Tryz.func52, Tryz.ntmps52
  go_wp2_with fail
  go_region
  all_goals (go_wp2_with fail; go_end0; exact ⟨rfl, hfin.1.drew.drew.drew, hfin.2.drew.drew.drew⟩)
end Go.Proofs.YthgojbaindejjaaGreatDoor.sh

/- Package show: the writer's builder makes room; its text is read. -/
namespace Go.Proofs.YthgojbaindejjaaGreatDoor.sh
open Go.ChangeShapes Go.WideShapes Go.ChangeAt Go.RowKit Go.Proofs.YthgojbaindejjaaGreatDoor.mem
set_option linter.unusedVariables false
set_option linter.unusedSimpArgs false

theorem drewN_fr {B b : Nat} {u w : World} (h : Fr B b u w) (n : Nat) : Fr B b u (w.drewN n) := ⟨below_drewN h.1 n, h.2⟩
set_option maxHeartbeats 2000000 in
set_option maxRecDepth 1000000 in
/-- Grow at a writer that has not written yet. -/
theorem growAll_any (B b n : Nat) (r : Int) (c : Bool) (w : World) (hB : B ≤ b) (hbk : w.heap[b]? = some (.cells #[.pointer none, .slice none 0 0, .int .i64 r, .bool c] 63 (0, 0))) (hn : n ≤ 281474976710656) (h0 : 0 < n) :
    Calls Tryz.prog 38 #[.pointer (some ⟨b, 0, none⟩), .int .i64 n] w fun e w' => e = .returned (.tuple #[]) ∧ Wr B b [] r c w' ∧ Fr B b w w' := by
  obtain ⟨W, hW⟩ : ∃ W, W = w.setCell ⟨b, 0, none⟩ (.pointer (some ⟨b, 0, none⟩)) := ⟨_, rfl⟩
  have hbk1 : W.heap[b]? = some (.cells #[.pointer (some ⟨b, 0, none⟩), .slice none 0 0, .int .i64 r, .bool c] 63 (0, 0)) := by
    rw [hW]; simp [World.setCell, Array.getElem?_modify, hbk]
  have hf1 : Fr B b w W := by rw [hW]; exact ⟨(Below.refl B w).setCell (p := ⟨b, 0, none⟩) hB _, (Lib.OthersKept.refl _ _ w).setCell ⟨b, 0, none⟩ rfl _⟩
  have CK := Lib.hid (check_fresh b w (by rw [Lib.cell_of_heap hbk]; rfl) (by simp [World.shape?, hbk]) (Lib.frozen_of_heap hbk 0))
  rw [← hW] at CK
  have CG := Lib.hid (fun V (h : V.heap[b]? = some (.cells #[.pointer (some ⟨b, 0, none⟩), .slice none 0 0, .int .i64 r, .bool c] 63 (0, 0))) => grow_any B b n (.pointer (some ⟨b, 0, none⟩)) r c V hB h hn)
  have HBK := Lib.hid hbk1
  have HF := Lib.hid hf1
  have c1 := cell1_of hbk1
  have hlt : decide ((0 : Int) < (n : Int)) = true := by simp; omega
  have hneg : decide ((n : Int) < 0) = false := by simp
  have hw0 : IntKind.i64.wrap ((0 : Int) - 0) = 0 := by rw [IntKind.wrap_i64]; rfl
  have hlt' : (0 : Int) < (n : Int) := by omega
  clear hbk hbk1 hf1 hW hB h0 hn
  go_enter Tryz.func38, Tryz.ntmps38
  go_wp2_with fail
  refine CK.out.mono ?_
  rintro e w' ⟨rfl, hw'⟩
  obtain rfl := hw'.symm
  clear hw'
  go_wp2_with fail
  go_quiet (fail)
  go_wp2_with fail
  refine (CG.out (W.drewN _) HBK.out).mono ?_
  rintro e w2 ⟨rfl, h1, h2⟩
  go_wp2_with fail
  go_end0
  exact ⟨rfl, .inr h1, (drewN_fr HF.out _).trans h2⟩
set_option maxHeartbeats 2000000 in
set_option maxRecDepth 100000 in
theorem string_any (B b : Nat) (l : List UInt8) (r : Int) (c : Bool) (w : World) (h : Wr B b l r c w) (h0 : l ≠ []) :
    Calls Tryz.prog 39 #[.pointer (some ⟨b, 0, none⟩)] w fun e w' => e = .returned (.string (txt.strOf l)) ∧ Fr B b w w' := by
  obtain ⟨p, hB, v, hbk, hown, hne⟩ : ∃ p, WrAt B b p l r c w := h.elim (fun h => ⟨_, h⟩) (fun h => ⟨_, h⟩)
  have hl0 : l.length ≠ 0 := by simpa using h0
  obtain ⟨g, cap, cur, rfl, hbg, hg, hnc, hcm, hcs, htake⟩ : ∃ g cap cur, v = .slice (some ⟨g, 0, none⟩) l.length cap ∧ B ≤ g ∧ w.heap[g]? = some (.cells cur 5 (0, 0)) ∧ l.length ≤ cap ∧ cap ≤ maxLen ∧ cur.size = cap * 1 ∧ cur.toList.take (l.length * 1) = Lib.byteCells l := by
    rcases hown.2 with ⟨_, hz⟩ | ⟨g, cap, cur, hv, r⟩
    · exact absurd hz hl0
    · exact ⟨g, cap, cur, hv, r⟩
  have c1 : w.drew.cell? ⟨b, 1, none⟩ = some (.slice (some ⟨g, 0, none⟩) l.length cap) := cell1_of (w := w.drew) hbk
  have hSD : (Builtin.unsafeSliceData_ #[59] 87 #[.slice (some ⟨g, 0, none⟩) l.length cap]).run Tryz.prog w.drew = .ok (.pointer (some ⟨g, 0, none⟩)) w.drew :=
    Lib.run_unsafeSliceData_row _ _ _ _ _ _ (by omega)
  have hUS : (Builtin.unsafeString_ #[87, 3] 9 #[.pointer (some ⟨g, 0, none⟩), .int .i64 l.length]).run Tryz.prog w.drew = .ok (.string (txt.strOf l)) (w.drew.freeze ⟨g, 0, none⟩ l.length) := by
    refine Lib.run_unsafeString_row w.drew 87 3 9 5 Tryz.underlying87 byte_cells g cur.size (by have hg' : w.drew.heap[g]? = some (.cells cur 5 (0, 0)) := hg; simp [World.shape?, hg']) l h0 (by omega) (by unfold maxLen at hcm; omega) ?_
    intro j x hx
    have := hown.cells (g := g) rfl j (.int .u8 x.toNat) (by simp [Lib.byteCells, hx])
    exact this
  have hfr : Fr B b w (w.drew.freeze ⟨g, 0, none⟩ l.length) := ⟨Lib.below_freeze (Below.drew (Below.refl B w)) (p := ⟨g, 0, none⟩) hbg _, (Lib.OthersKept.refl _ _ w).drew.freeze ⟨g, 0, none⟩ _ ⟨cur, _, hg⟩⟩
  have HF := Lib.hid hfr
  clear hfr hown hg hbg hcs htake hnc hcm h h0 hl0 hbk hne
  go_enter Tryz.func39, Tryz.ntmps39
  go_wp2_with fail
  go_region
  all_goals (go_wp2_with fail; go_ret; exact ⟨rfl, HF.out⟩)
end Go.Proofs.YthgojbaindejjaaGreatDoor.sh
