/- Contracts of package array: Check, Copy, New, Scalar, Vector. -/
import Derived.Test.YtaegkiangjnmdaaArr
import Derived.Test.YtaegkiangjnmdaaShape
import Derived.Deep.QuietTactic
import Derived.BigQuiet
import Derived.RegionTactic
import Derived.Deep.RegionHeld3
namespace Go.Proofs.Ytaegkiangjnmdaa.arr
open Go.ChangeShapes Go.WideShapes Go.ChangeAt Go.RowKit Go.Proofs.Ytaegkiangjnmdaa.mem Go.Proofs.Ytaegkiangjnmdaa.shp
set_option linter.unusedVariables false

/-- The error of an array with the shape s and the data d. -/
def chkA (s d : List Int) : Int := if chkE s = 0 then (if (d.length : Int) = celN s then 0 else 5) else chkE s
theorem chkA_0 {s d : List Int} (h : chkA s d = 0) : chkE s = 0 ∧ (d.length : Int) = celN s := by
  unfold chkA at h
  split at h
  · rename_i h0
    split at h
    · exact ⟨h0, by assumption⟩
    · omega
  · rename_i h0; exact absurd h h0

/-- An array value that reads as a shape and data. -/
structure RdA (w : World) (A : Option Addr) (n : Nat) (B : Option Addr) (m : Nat) (s d : List Int) : Prop where
  s : Rd w A n s
  d : Rd w B m d
theorem RdA.below {w w' : World} {A B : Option Addr} {n m : Nat} {s d : List Int} (h : RdA w A n B m s d) (hb : Below w.heap.size w w') : RdA w' A n B m s d := ⟨h.s.below hb, h.d.below hb⟩

/-- What a call answers that makes memory, and a number. -/
def NumB (w : World) (r : Int) (e : Ending) (w' : World) : Prop := e = .returned (.int .i64 r) ∧ Below w.heap.size w w'
/-- What a call answers that makes an array. -/
def MakesA (w : World) (n m : Nat) (s d : List Int) (e : Ending) (w' : World) : Prop :=
  ∃ A c B k, e = .returned (.agg #[.slice A n c, .slice B m k]) ∧ Own w' w.heap.size (.slice A n c) s ∧ Own8 w' w.heap.size (.slice B m k) d ∧ Below w.heap.size w w'
theorem MakesA.rda {w W : World} {n m c k : Nat} {A B : Option Addr} {s d : List Int} (h : Own W w.heap.size (.slice A n c) s) (h' : Own8 W w.heap.size (.slice B m k) d) : RdA W A n B m s d := ⟨h.rd, h'.rd⟩

/-- A struct of two cells is stored below what the call owns. -/
theorem OwnT.two {t : TypeId} {V : World} {B p : Nat} {v x y : Value} {xs : List Int} (h : OwnT t V B v xs) (hp : p < B) : OwnT t ((V.setCell ⟨p, 0, none⟩ x).setCell ⟨p, 1, none⟩ y) B v xs :=
  ownsRow_setCell_below (ownsRow_setCell_below h hp _) hp _
theorem two_below {B p : Nat} {w V : World} {x y : Value} (h : Below B w V) (hp : B ≤ p) : Below B w ((V.setCell ⟨p, 0, none⟩ x).setCell ⟨p, 1, none⟩ y) := (h.setCell hp _).setCell hp _
/-- Two structs of two cells, made one after the other. -/
theorem two_boxes {w W : World} {x0 x1 y0 y1 : Value} {t u : TypeId} (hW : W = (w.alloc (.cells #[x0, x1] t)).alloc (.cells #[y0, y1] u)) :
    Below w.heap.size w W ∧ W.heap.size = w.heap.size + 2 ∧ ∀ V, Below W.heap.size W V →
      V.cell? ⟨w.heap.size, 0, none⟩ = some x0 ∧ V.cell? ⟨w.heap.size, 1, none⟩ = some x1 ∧ V.cell? ⟨w.heap.size + 1, 0, none⟩ = some y0 ∧ V.cell? ⟨w.heap.size + 1, 1, none⟩ = some y1 ∧
      V.frozen? ⟨w.heap.size, 0, none⟩ = false ∧ V.frozen? ⟨w.heap.size, 1, none⟩ = false ∧ V.frozen? ⟨w.heap.size + 1, 0, none⟩ = false ∧ V.frozen? ⟨w.heap.size + 1, 1, none⟩ = false := by
  have hs : W.heap.size = w.heap.size + 2 := by rw [hW]; simp
  refine ⟨by rw [hW]; exact ((Below.refl _ w).alloc (Nat.le_refl _) _).alloc (by simp) _, hs, fun V h => ?_⟩
  have l0 : w.heap.size < W.heap.size := by omega
  have l1 : w.heap.size + 1 < W.heap.size := by omega
  exact ⟨(h.cell (p := ⟨w.heap.size, 0, none⟩) l0).trans (by rw [hW]; simp), (h.cell (p := ⟨w.heap.size, 1, none⟩) l0).trans (by rw [hW]; simp), (h.cell (p := ⟨w.heap.size + 1, 0, none⟩) l1).trans (by rw [hW]; simp), (h.cell (p := ⟨w.heap.size + 1, 1, none⟩) l1).trans (by rw [hW]; simp),
    (h.frozen (p := ⟨w.heap.size, 0, none⟩) l0).trans (by rw [hW]; simp), (h.frozen (p := ⟨w.heap.size, 1, none⟩) l0).trans (by rw [hW]; simp), (h.frozen (p := ⟨w.heap.size + 1, 0, none⟩) l1).trans (by rw [hW]; simp), (h.frozen (p := ⟨w.heap.size + 1, 1, none⟩) l1).trans (by rw [hW]; simp)⟩
theorem bcell {W w1 : World} (hb : Below W.heap.size W w1) : (∀ b o, b < W.heap.size → w1.cell? ⟨b, o, none⟩ = W.cell? ⟨b, o, none⟩) ∧ (∀ b o, b < W.heap.size → w1.frozen? ⟨b, o, none⟩ = W.frozen? ⟨b, o, none⟩) :=
  ⟨fun b o h => hb.cell (p := ⟨b, o, none⟩) h, fun b o h => hb.frozen (p := ⟨b, o, none⟩) h⟩
theorem quiet_same {P : Program} {f : FuncId} {args : Array Value} {w : World} {n : Nat} {v : Value} (h : Calls P f args (w.drewN n) fun e w' => e = .returned v ∧ w.drewN n = w') :
    Calls P f args (w.drewN n) fun e w' => e = .returned v ∧ ∃ m, w' = w.drewN m := h.mono fun _ _ hh => ⟨hh.1, n, hh.2.symm⟩
theorem quiet_behind {P : Program} {f : FuncId} {args : Array Value} {w : World} {q n : Nat} {v : Value} (h : Calls P f args (w.drewN (q + n)) fun e w' => e = .returned v ∧ w.drewN (q + n) = w') :
    Calls P f args (w.drewN (q + n)) fun e w' => e = .returned v ∧ ∃ m, w' = w.drewN (q + m) := h.mono fun _ _ hh => ⟨hh.1, n, hh.2.symm⟩
theorem own_drew {w : World} {B : Nat} {v : Value} {xs : List Int} (h : Own w B v xs) (q : Nat) : Own (w.drewN q) B v xs := h.below (below_drewN (Below.refl _ _) q)


/-- What New and Tabulate answer where there is an array. -/
def MakesAE (w : World) (n m : Nat) (s d : List Int) (e : Ending) (w' : World) : Prop :=
  ∃ A c B k, e = .returned (.tuple #[.agg #[.slice A n c, .slice B m k], .int .i64 0]) ∧ Own w' w.heap.size (.slice A n c) s ∧ Own8 w' w.heap.size (.slice B m k) d ∧ Below w.heap.size w w'
/-- .. and where there is none. -/
def Fails (w : World) (r : Int) (e : Ending) (w' : World) : Prop := e = .returned (.tuple #[.agg #[.slice none 0 0, .slice none 0 0], .int .i64 r]) ∧ Below w.heap.size w w'
theorem one_below (w : World) (cs : Array Value) (t : TypeId) : Below w.heap.size w (w.alloc (.cells cs t)) := (Below.refl _ w).alloc (Nat.le_refl _) _
theorem ownT_new {W : World} {t : TypeId} {g n : Nat} (xs : List Int) (hg : g = W.heap.size) (hn : xs.length = n) (hm : n ≤ maxLen) : OwnT t (W.alloc (.cells (xs.map (Value.int .i64)).toArray t)) W.heap.size (.slice (some ⟨g, 0, none⟩) n n) xs := by
  subst hg
  exact ownT_of_block (heap_alloc_new W _) (Nat.le_refl _) hn hm
end Go.Proofs.Ytaegkiangjnmdaa.arr
