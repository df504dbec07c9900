/- Package tree: the iterator over the nodes and their levels. -/
import Derived.Test.YtbcnilkenkmabaaTreeVisit
import Derived.Laws.EntriesVeiled
namespace Go.Proofs.Ytbcnilkenkmabaa.tr
open Go.ChangeShapes Go.WideShapes Go.ChangeAt Go.RowKit Go.Proofs.Ytbcnilkenkmabaa.mem Go.Proofs.Ytbcnilkenkmabaa.sq
set_option linter.unusedVariables false
attribute [local go_sem] Oper.semAt_some

/-- A tree's six cells at a block's head. -/
def Lies6 (w : World) (b : Nat) (v : Value) : Prop := ∃ c0 c1 c2 c3 c4 c5, v = .agg #[c0, c1, c2, c3, c4, c5] ∧ w.cell? ⟨b, 0, none⟩ = some c0 ∧ w.cell? ⟨b, 1, none⟩ = some c1 ∧ w.cell? ⟨b, 2, none⟩ = some c2 ∧ w.cell? ⟨b, 3, none⟩ = some c3 ∧ w.cell? ⟨b, 4, none⟩ = some c4 ∧ w.cell? ⟨b, 5, none⟩ = some c5
theorem Lies6.below {w w' : World} {b : Nat} {v : Value} (h : Lies6 w b v) (hb : Below w.heap.size w w') : Lies6 w' b v := by
  obtain ⟨c0, c1, c2, c3, c4, c5, e, h0, h1, h2, h3, h4, h5⟩ := h
  have hl := World.block_lt_of_cell? _ _ h0
  exact ⟨c0, c1, c2, c3, c4, c5, e, (hb.cell (p := ⟨b, 0, none⟩) hl).trans h0, (hb.cell (p := ⟨b, 1, none⟩) hl).trans h1, (hb.cell (p := ⟨b, 2, none⟩) hl).trans h2, (hb.cell (p := ⟨b, 3, none⟩) hl).trans h3, (hb.cell (p := ⟨b, 4, none⟩) hl).trans h4, (hb.cell (p := ⟨b, 5, none⟩) hl).trans h5⟩

set_option maxHeartbeats 4000000 in
theorem nodes_seq (n b : Nat) (T : Tr) (v : Value) (Keep : Nat → Prop) (w : World) (hv : Lies6 w b v) (hT : RdQ Keep w T v) (hK : ∀ k, Keep k → k < w.heap.size) (hd : deepT T ≤ 999) (hs : sizeT T ≤ 1000000) :
    ISeq Fence.wide n Try.prog 47 #[.pointer (some ⟨b, 0, none⟩)] Keep (HandN Keep) (stp 1 T) w := by
  intro l J Jx W hW hJ hJx h0 hY
  obtain ⟨c0, c1, c2, c3, c4, c5, rfl, g0, g1, g2, g3, g4, g5⟩ := hv.below hW
  have hbW := World.block_lt_of_cell? _ _ g0
  have hTW := hT.below hW
  have hCal : Caller W.heap.size Keep (stp 1 T) l J Jx := ⟨hJ, hJx, fun k e => by have := hK k e; have := hW.size; omega, fun R pre x vs C h1 h2 h3 h4 h5 => yield_wide (hY R pre x vs C h1 h2 h3 h4 h5)⟩
  obtain ⟨W3, hW3⟩ : ∃ W3, W3 = ((W.alloc (.cells #[.func (.yield l) #[] #[]] 56)).alloc (.cells #[.int .i64 0] 3)).alloc (.cells #[.nilFunc] 56) := ⟨_, rfl⟩
  have hbx : Boxed W3 (W.heap.size + 1 + 1) 56 .nilFunc := by
    have := Boxed.new ((W.alloc (.cells #[.func (.yield l) #[] #[]] 56)).alloc (.cells #[.int .i64 0] 3)) 56 .nilFunc
    rw [World.size_alloc, World.size_alloc, ← hW3] at this
    exact this
  have hcx := hbx.cell
  have hfx := hbx.frozen
  have hW3b : Below W.heap.size W W3 := by rw [hW3]; exact (((Below.refl _ W).alloc (Nat.le_refl _) _).alloc (by simp) _).alloc (by simp; omega) _
  have hW3s : W3.heap.size = W.heap.size + 3 := by rw [hW3]; simp
  obtain ⟨A, hA⟩ : ∃ A, A = W3.setCell ⟨W.heap.size + 1 + 1, 0, none⟩ (vfun (W.heap.size + 1 + 1) (W.heap.size + 1) W.heap.size) := ⟨_, rfl⟩
  have hAs : A.heap.size = W.heap.size + 3 := by rw [hA, ← hW3s]; simp [World.setCell]
  have hAb : Below W.heap.size W A := by rw [hA]; exact hW3b.setCell (p := ⟨W.heap.size + 1 + 1, 0, none⟩) (by show W.heap.size ≤ W.heap.size + 1 + 1; omega) _
  have hTA := hTW.below hAb
  have hso : ∀ q, q ≠ W.heap.size + 1 + 1 → A.heap[q]? = W3.heap[q]? := fun q e => by rw [hA]; exact Below.heap_setCell _ _ _ _ e
  have hVst : Vst W.heap.size l (W.heap.size + 1 + 1) (W.heap.size + 1) W.heap.size J (fun k => W.heap.size ≤ k ∧ k < W.heap.size + 3) [] 0 A :=
    ⟨fun k e => by omega, by omega, by omega, by omega, by omega, by omega, by omega, by rw [hA]; exact (hbx.set _).cell, cell_as (A := W3) (by rw [hW3]; exact cell_old (cell_old (cell_new _ _ _ _ rfl))) (hso _ (by show W.heap.size ≠ W.heap.size + 1 + 1; omega)),
      boxed_as (A := W3) (by rw [hW3]; have := (Boxed.new (W.alloc (.cells #[.func (.yield l) #[] #[]] 56)) 3 (.int .i64 0)).alloc (.cells #[.nilFunc] 56); rw [World.size_alloc] at this; exact this) (hso _ (by omega)),
      hJ _ _ _ _ _ h0 (.of_below hAb) ⟨fun k e => e.elim, fun k e => .inr (by omega)⟩⟩
  have q0 := hAb.cell (p := ⟨b, 0, none⟩) hbW |>.trans g0
  have q1 := hAb.cell (p := ⟨b, 1, none⟩) hbW |>.trans g1
  have q2 := hAb.cell (p := ⟨b, 2, none⟩) hbW |>.trans g2
  have q3 := hAb.cell (p := ⟨b, 3, none⟩) hbW |>.trans g3
  have q4 := hAb.cell (p := ⟨b, 4, none⟩) hbW |>.trans g4
  have q5 := hAb.cell (p := ⟨b, 5, none⟩) hbW |>.trans g5
  have qf : A.cell? ⟨W.heap.size + 1 + 1, 0, none⟩ = some (vfun (W.heap.size + 1 + 1) (W.heap.size + 1) W.heap.size) := by rw [hA]; exact (hbx.set _).cell
  unfold vfun at qf
  have PV := Lib.hid (visit_any hCal _ _ _ T 1 0 1 _ _ [] A rfl (by omega) (by omega) hVst hTA (List.prefix_refl _))
  have HA := Lib.hid hA
  clear hW hJ hJx h0 hY hK hd hs hv hT hTW hCal hAs hAb hTA hVst hbx hso hW3b hW3s
  unfold vfun at hA HA
  refine callsIn_of_wp Try.func47 rfl trivial ?_ rfl
  simp only [Try.ntmps47, List.size_toArray, List.length_cons, List.length_nil, Nat.reduceAdd, Nat.reduceSub, Array.replicate_succ, Array.replicate_zero, List.push_toArray, List.append_toArray, List.nil_append, List.cons_append]
  refine wpIn_wide.2 ?_
  go_upto_region 3 with fail
  rw [← hW3]
  clear hW3
  go_upto_region 4 with fail
  rw [← HA.out]
  clear hA HA hcx hfx
  go_wp2_with fail
  refine PV.out.mono ?_
  rintro e w' ⟨R', hg, hs, (⟨rfl, hj, _⟩ | ⟨rfl, p, hp, hjx⟩)⟩
  · have HJ := Lib.hid hj
    clear hg hs hj PV
    go_wp2_with fail
    go_end0
    exact ⟨⟨_, rfl⟩, .inl ⟨_, HJ.out⟩⟩
  · have HJ := Lib.hid hjx; have HP := Lib.hid hp
    clear hg hs hjx hp PV
    go_wp2_with fail
    go_end0
    exact ⟨⟨_, rfl⟩, .inr ⟨_, _, HP.out, HJ.out⟩⟩
/-- nodes' answer: a function value over a box that holds the tree. -/
theorem nodes_any (c0 c1 c2 c3 c4 c5 : Value) (w : World) :
    Calls Try.prog 31 #[.agg #[c0, c1, c2, c3, c4, c5]] w fun e w' => e = .returned (.func (.func 47) #[] #[.pointer (some ⟨w.heap.size, 0, none⟩)]) ∧ Below w.heap.size w w' ∧ w'.heap.size = w.heap.size + 1 ∧ Lies6 w' w.heap.size (.agg #[c0, c1, c2, c3, c4, c5]) := by
  go_enter Try.func31, Try.ntmps31
  go_wp2_with fail
  go_ret
  refine ⟨rfl, (Below.refl _ _).alloc (Nat.le_refl _) _, by simp, ?_⟩
  exact ⟨_, _, _, _, _, _, rfl, cell_new _ _ _ _ rfl, cell_new _ _ _ _ rfl, cell_new _ _ _ _ rfl, cell_new _ _ _ _ rfl, cell_new _ _ _ _ rfl, cell_new _ _ _ _ rfl⟩
end Go.Proofs.Ytbcnilkenkmabaa.tr
