/- The reference of package tree: Copy. -/
import Derived.Test.YtbcnilkenkmabaaTreeCopy
import Derived.Test.YtbcnilkenkmabaaTreeNames
namespace Go.Proofs.Ytbcnilkenkmabaa.tr
open Go.ChangeShapes Go.WideShapes Go.ChangeAt Go.RowKit Go.Proofs.Ytbcnilkenkmabaa.mem Go.Proofs.Ytbcnilkenkmabaa.sq
set_option linter.unusedVariables false
set_option linter.unusedSimpArgs false
attribute [local go_sem] Oper.semAt_some

/-- append of numbers, from nil too. -/
theorem wpList_append8' {W w : World} {ops : Array Oper} {rest : List Oper} {o : Oper} {a : Act} {K : Exit → Act → World → Prop} (hgd : o.guard = none) (s x : Operand)
    (ho : o.op = .call { callee := .builtin .append, args := #[s, x], argTypes := #[22, 22] })
    (hb : Below W.heap.size W w) (v : Value) (xs : List Int) (hs : a.eval s = v) (hown : Own8 w W.heap.size v xs) (hvb : ∀ k, v.ownBlock = some k → W.heap.size ≤ k) (A : Option Addr) (m c : Nat) (ys : List Int) (hx : a.eval x = .slice A m c) (hr : Rd w A m ys) (hc : A = none → c = 0)
    (h40 : xs.length + m ≤ 17592186044416)
    (h : ∀ v' w', Own8 w' W.heap.size v' (xs ++ ys) → Below W.heap.size W w' → wpList Try.prog ops K rest (a.put o.dst v') w') : wpList Try.prog ops K (o :: rest) a w := by
  cases A with
  | some ad => exact wpList_append8 hgd s x ho hb v xs hs hown hvb ad m c ys hx hr h40 h
  | none =>
    obtain ⟨i0, hi0, hz0, hz1, hz2⟩ := info_parts int64_info
    have hys : ys = [] := by
      cases m with
      | zero => exact List.eq_nil_of_length_eq_zero hr.1
      | succ n => obtain ⟨ad, e, _⟩ := hr.2 0 (by omega); cases e
    subst hys
    obtain rfl := hc rfl
    obtain rfl : m = 0 := by have := hr.1; simpa using this.symm
    have hrun := run_append_owned_none (P := Try.prog) (w := w) W.heap.size 22 o.type 2 i0 1 Try.underlying22 hi0 v _ _ hown
    refine wpList_plain hgd fun K hK => ?_
    unfold Oper.wp execOp
    simp only [ho, resolve, invoke, builtin, Sem.run_bind, Sem.run_pure, Result.andThen_ok, List.map_toArray, List.map_cons, List.map_nil, hs, hx, hrun]
    exact hK _ _ (h v w (by rw [List.append_nil]; exact hown) hb)

/-- A row of trees of the call's own; each is read through blocks of Q, and not through the row's own one. -/
def OwnZ (Q : Nat → Prop) (w : World) (B : Nat) (v : Value) (L : List Tr) : Prop :=
  ∃ us : List S6, us.length = L.length ∧ w.ownsRow B 25 6 v L.length (flat6 us) ∧ ∀ (k : Nat) u T, us[k]? = some u → L[k]? = some T → RdQ (fun b => Q b ∧ some b ≠ v.ownBlock) w T u.agg
theorem ownZ_nil (Q : Nat → Prop) (w : World) (B : Nat) : OwnZ Q w B (.slice none 0 0) [] := ⟨[], rfl, World.ownsRow_nil w B _ 6, fun k u p h => by simp at h⟩
theorem OwnZ.form {Q : Nat → Prop} {w : World} {B : Nat} {v : Value} {L : List Tr} (h : OwnZ Q w B v L) : ∃ A c, v = .slice A L.length c ∧ L.length ≤ c ∧ (A = none → c = 0) ∧ (∀ g, v.ownBlock = some g → B ≤ g ∧ g < w.heap.size) := by
  obtain ⟨us, _, h, _⟩ := h
  have hl := World.ownsRow.lt h
  rcases h.2 with ⟨rfl, h0⟩ | ⟨g, cap, cur, rfl, _, _, hc, hm, _⟩
  · exact ⟨none, 0, by rw [h0], by omega, fun _ => rfl, fun g e => by simp [Value.ownBlock] at e⟩
  · exact ⟨_, _, rfl, hc, (fun h => by cases h), hl⟩
theorem OwnZ.as {Q : Nat → Prop} {w w' : World} {B : Nat} {v : Value} {L : List Tr} (h : OwnZ Q w B v L) (hs : w.heap.size ≤ w'.heap.size) (hq : ∀ b, Q b → b < w.heap.size → w'.heap[b]? = w.heap[b]?) (hv : ∀ g, v.ownBlock = some g → w'.heap[g]? = w.heap[g]?) : OwnZ Q w' B v L := by
  obtain ⟨us, h0, h1, h2⟩ := h
  refine ⟨us, h0, ⟨h1.1, ?_⟩, fun k u T hu hT => ((h2 k u T hu hT).old.carry hs (fun b hb => hq b hb.1.1 hb.2)).le fun b hb => hb.1⟩
  rcases h1.2 with h' | ⟨g, cap, cur, rfl, hb, hg, rest⟩
  · exact .inl h'
  · exact .inr ⟨g, cap, cur, rfl, hb, (hv g rfl).trans hg, rest⟩
theorem run_pushZ {Q : Nat → Prop} {w : World} {B : Nat} {v : Value} {L : List Tr} (hown : OwnZ Q w B v L) {T : Tr} {u : S6} (hu : RdQ (fun b => Q b ∧ some b ≠ v.ownBlock) w T u.agg) (ty t : TypeId) (h40 : L.length ≤ 1000000000) (hB : B ≤ w.heap.size) :
    ∃ v' w1, (Builtin.append_ #[23, 23] ty #[v, .slice (some ⟨w.heap.size, 0, none⟩) 1 1]).run Try.prog (w.alloc (.cells #[u.c0, u.c1, u.c2, u.c3, u.c4, u.c5] t)) = .ok v' w1 ∧ OwnZ Q w1 B v' (L ++ [T]) ∧ (w.alloc (.cells #[u.c0, u.c1, u.c2, u.c3, u.c4, u.c5] t)).grownBy w1 v.ownBlock ∧
      (v'.ownBlock = v.ownBlock ∨ v'.ownBlock = some (w.heap.size + 1)) := by
  obtain ⟨i0, hi0, hz0, hz1, hz2⟩ := info_parts tree_info
  obtain ⟨us, g0, g1, g2⟩ := hown
  have hba : Below w.heap.size w (w.alloc (.cells #[u.c0, u.c1, u.c2, u.c3, u.c4, u.c5] t)) := (Below.refl _ _).alloc (Nat.le_refl _) _
  have hsz : (w.alloc (.cells #[u.c0, u.c1, u.c2, u.c3, u.c4, u.c5] t)).heap.size = w.heap.size + 1 := by simp
  obtain ⟨v', w1, hrun, h2, h3, _, h5⟩ := run_append_own_at (P := Try.prog) (w.alloc (.cells #[u.c0, u.c1, u.c2, u.c3, u.c4, u.c5] t)) B 23 ty 25 i0 _ 6 88 Try.underlying23 hi0 hz0 hz1 hz2 rfl (by omega) v _ _ (World.ownsRow.alloc g1 _) ⟨w.heap.size, 0, none⟩ 1 1 (flat6 [u]) (by simp [flat6, S6.cs])
    (fun j x hj => by
      rw [add_at, cell_of_row _ _ _ _ t (0, 0) (heap_alloc_new w _)]
      simp [flat6, S6.cs] at hj
      simpa using hj) (fun x hx => by simp [flat6] at hx; exact hu.one x hx) (by unfold maxLen; omega) (by omega) (by simp; omega)
  have hkeep : ∀ b, (Q b ∧ some b ≠ v.ownBlock) → b < w.heap.size → w1.heap[b]? = w.heap[b]? := fun b hb hl => (h3.block b (by omega) hb.2).trans (hba.block b hl)
  have hq : ∀ b, ((Q b ∧ some b ≠ v.ownBlock) ∧ b < w.heap.size) → Q b ∧ some b ≠ v'.ownBlock := fun b hb => by
    refine ⟨hb.1.1, ?_⟩
    rcases h5 with e | e
    · rw [e]; exact hb.1.2
    · rw [e, hsz]; intro h; injection h with h; omega
  have hs1 : w.heap.size ≤ w1.heap.size := Nat.le_trans hba.size h3.size
  refine ⟨v', w1, hrun, ⟨us ++ [u], by simp [g0], ?_, fun k x U hx hU => ?_⟩, h3, by rw [hsz] at h5; exact h5⟩
  · rw [List.length_append, flat6_append]; exact h2
  · rcases Nat.lt_or_ge k us.length with hk | hk
    · rw [List.getElem?_append_left hk] at hx
      rw [List.getElem?_append_left (by omega)] at hU
      exact ((g2 k x U hx hU).old.carry hs1 (fun b hb => hkeep b hb.1 hb.2)).le hq
    · rw [List.getElem?_append_right hk] at hx
      rw [List.getElem?_append_right (by omega)] at hU
      rcases hj : k - us.length with _ | j
      · rw [hj] at hx
        rw [show k - L.length = 0 by omega] at hU
        simp at hx hU
        subst hx hU
        exact (hu.old.carry hs1 (fun b hb => hkeep b hb.1 hb.2)).le hq
      · rw [hj] at hx; simp at hx

/-- How the world stands while the kids are copied. -/
structure RefCopyAt (w : World) (k f a : Int) (s : ByteArray) (ns : List Int) (ks : List Tr) (A0 : Option Addr) (n0 c0 : Nat) (B0 : Option Addr) (m0 d0 : Nat) (An : Option Addr) (n c : Nat) (vk : Value) (j : Nat) (X : World) : Prop where
  below : Below w.heap.size w X
  box : Six X w.heap.size (.int .i64 k) (.int .i64 f) (.int .i64 a) (.string s) (.slice A0 n0 c0) (.slice B0 m0 d0)
  res : Zero6 X (w.heap.size + 1)
  out : Six X (w.heap.size + 2) (.int .i64 k) (.int .i64 f) (.int .i64 a) (.string s) (.slice An n c) vk
  nums : Rd X An n ns
  numsAt : ∀ ad, An = some ad → 0 < n → w.heap.size + 2 < ad.block ∧ some ad.block ≠ vk.ownBlock
  row : OwnZ (fun b => w.heap.size + 2 < b) X (w.heap.size + 3) vk (ks.take j)
  size : w.heap.size + 3 ≤ X.heap.size

theorem refcopy_push {w wo V : World} {k f a : Int} {s : ByteArray} {ns : List Int} {ks : List Tr} {A0 B0 An : Option Addr} {n0 c0 m0 d0 n c j : Nat} {vk : Value} (hA : RefCopyAt w k f a s ns ks A0 n0 c0 B0 m0 d0 An n c vk j wo) (hV : Below wo.heap.size wo V) {T : Tr} (hT : ks[j]? = some T) {u : S6}
    (hu : RdQ (fun b => wo.heap.size ≤ b) V T u.agg) (hj : j ≤ 1000000) (ty t : TypeId) :
    ∃ P' N' C' V1, (Builtin.append_ #[23, 23] ty #[vk, .slice (some ⟨V.heap.size, 0, none⟩) 1 1]).run Try.prog (V.alloc (.cells #[u.c0, u.c1, u.c2, u.c3, u.c4, u.c5] t)) = .ok (.slice P' N' C') V1 ∧ V1.cell? ⟨w.heap.size + 2, 5, none⟩ = some vk ∧ V1.frozen? ⟨w.heap.size + 2, 5, none⟩ = false ∧
      Hid (RefCopyAt w k f a s ns ks A0 n0 c0 B0 m0 d0 An n c (.slice P' N' C') (j + 1) (V1.setCell ⟨w.heap.size + 2, 5, none⟩ (.slice P' N' C'))) := by
  obtain ⟨h1, h2, h3, h4, h5, h6, h7, h8⟩ := hA
  obtain ⟨_, _, hvk, _, _, hform⟩ := h7.form
  have hVs := hV.size
  have hlt := (List.getElem?_eq_some_iff.1 hT).1
  have htk : ks.take (j + 1) = ks.take j ++ [T] := by
    obtain ⟨hl, he⟩ := List.getElem?_eq_some_iff.1 hT
    rw [List.take_succ_eq_append_getElem hl, he]
  have hownV : OwnZ (fun b => w.heap.size + 2 < b) V (w.heap.size + 3) vk (ks.take j) := h7.as hVs (fun b _ hb => hV.block b hb) (fun g e => hV.block g (hform g e).2)
  obtain ⟨v', V1, hrun, hown', hgr, hob⟩ := run_pushZ hownV (hu.le (Q' := fun b => w.heap.size + 2 < b ∧ some b ≠ vk.ownBlock) (fun b hb => ⟨by omega, fun e => by have := (hform b e.symm).2; omega⟩)) ty t (by rw [List.length_take]; omega) (by omega)
  obtain ⟨P', C', rfl, _, _, hform'⟩ := hown'.form
  have hbV : Below wo.heap.size wo (V.alloc (.cells #[u.c0, u.c1, u.c2, u.c3, u.c4, u.c5] t)) := hV.alloc hVs _
  have hgs := hgr.size
  simp only [World.size_alloc] at hgs
  have hne : ∀ q, q < w.heap.size + 3 → some q ≠ vk.ownBlock := fun q hq e => by have := (hform q e.symm).1; omega
  have hsame : ∀ q, q < wo.heap.size → some q ≠ vk.ownBlock → V1.heap[q]? = wo.heap[q]? := fun q hq hn => (hgr.block q (by simp; omega) hn).trans (hbV.block q hq)
  have hset : ∀ q, q ≠ w.heap.size + 2 → (V1.setCell ⟨w.heap.size + 2, 5, none⟩ (.slice P' (ks.take j ++ [T]).length C')).heap[q]? = V1.heap[q]? := fun q hq => Below.heap_setCell _ _ _ _ hq
  have h4V : Six V1 (w.heap.size + 2) (.int .i64 k) (.int .i64 f) (.int .i64 a) (.string s) (.slice An n c) vk := h4.as (hsame _ (by omega) (hne _ (by omega)))
  have hss : (V1.setCell ⟨w.heap.size + 2, 5, none⟩ (.slice P' (ks.take j ++ [T]).length C')).heap.size = V1.heap.size := by simp [World.setCell]
  refine ⟨P', _, C', V1, hrun, h4V.cell 5 rfl, h4V.frozen 5, Lib.hid ⟨?_, h2.as ((hset _ (by omega)).trans (hsame _ (by omega) (hne _ (by omega)))), Six.as h3 ((hset _ (by omega)).trans (hsame _ (by omega) (hne _ (by omega)))), h4V.set5 _, ⟨h5.1, fun q hq => ?_⟩, fun ad e hn => ?_, ?_, by rw [hss]; omega⟩⟩
  · have hB := h1.trans (hbV.mono h1.size)
    exact (hB.grown hgr (by have := h1.size; simp; omega) (fun q e => by have := (hform q e).1; omega)).setCell (p := ⟨w.heap.size + 2, 5, none⟩) (by show w.heap.size ≤ w.heap.size + 2; omega) _
  · obtain ⟨ad, e, hl, hc⟩ := h5.2 q hq
    have hh := h6 ad e (by have := h5.1; omega)
    refine ⟨ad, e, by rw [hss]; omega, cell_as hc ?_⟩
    rw [blk_add]
    exact (hset _ (by omega)).trans (hsame _ hl hh.2)
  · have hh := h6 ad e hn
    refine ⟨hh.1, fun e' => ?_⟩
    rcases hob with ho | ho
    · rw [ho] at e'; exact hh.2 e'
    · rw [ho] at e'
      injection e' with e'
      obtain ⟨ad', e2, hl, _⟩ := h5.2 0 (by have := h5.1; omega)
      rw [e] at e2; injection e2 with e2; subst e2
      omega
  · rw [htk]
    exact hown'.as (by rw [hss]; exact Nat.le_refl _) (fun b hb _ => hset b (by omega)) (fun g e => hset g (by have := (hform' g e).1; omega))

set_option maxHeartbeats 8000000 in
set_option maxRecDepth 100000 in
theorem refCopy_any (T : Tr) : ∀ (v : Value) (w : World), RdT w T v → sizeT T ≤ 1000000 → Calls Try.prog 23 #[v] w (MakesT w T) := by
  induction T using Tr.ind with
  | h k f a s ns ks ih =>
  intro v w hT hz
  obtain ⟨Aa, na, ca, B, mm, d, rfl, i1, i2, i3, hss, hns, hnc, hnl, hna, hix, hml, hmd, hmm, hnd, -, hL⟩ := rdQ_node.1 ((RdQ.old hT).le (Q' := fun q => q < w.heap.size) (fun q e => e.2))
  have hmz : mm ≤ 1000000 := by have := kids_size ks; rw [size_node] at hz; omega
  obtain ⟨w0, hw0⟩ : ∃ w0, w0 = (w.alloc (.cells #[.int .i64 k, .int .i64 f, .int .i64 a, .string s, .slice Aa na ca, .slice B mm d] 25)).alloc (.cells #[.int .i64 0, .int .i64 0, .int .i64 0, .string ⟨#[]⟩, .slice none 0 0, .slice none 0 0] 25) := ⟨_, rfl⟩
  have hs0 : w0.heap.size = w.heap.size + 2 := by rw [hw0]; simp
  have hb0 : Below w.heap.size w w0 := by rw [hw0]; exact ((Below.refl _ _).alloc (Nat.le_refl _) _).alloc (by simp) _
  have hX0 : Six w0 w.heap.size (.int .i64 k) (.int .i64 f) (.int .i64 a) (.string s) (.slice Aa na ca) (.slice B mm d) := by
    rw [hw0]; exact (Six.new w _ _ _ _ _ _).below ((Below.refl _ _).alloc (Nat.le_refl _) _)
  have hO0 : Zero6 w0 (w.heap.size + 1) := by
    have := Six.new (w.alloc (.cells #[.int .i64 k, .int .i64 f, .int .i64 a, .string s, .slice Aa na ca, .slice B mm d] 25)) (.int .i64 0) (.int .i64 0) (.int .i64 0) (.string ⟨#[]⟩) (.slice none 0 0) (.slice none 0 0)
    rw [World.size_alloc] at this
    rw [hw0]; exact this
  obtain ⟨w1, hw1⟩ : ∃ w1, w1 = w0.alloc (.cells #[.int .i64 k, .int .i64 f, .int .i64 a, .string s, .slice Aa na ca, .slice B mm d] 25) := ⟨_, rfl⟩
  have hb1 : Below w0.heap.size w0 w1 := by rw [hw1]; exact (Below.refl _ _).alloc (Nat.le_refl _) _
  have hs1 : w1.heap.size = w.heap.size + 3 := by rw [hw1]; simp [hs0]
  have hC1 : Six w1 (w.heap.size + 2) (.int .i64 k) (.int .i64 f) (.int .i64 a) (.string s) (.slice Aa na ca) (.slice B mm d) := by
    have := Six.new w0 (.int .i64 k) (.int .i64 f) (.int .i64 a) (.string s) (.slice Aa na ca) (.slice B mm d)
    rw [hs0, ← hw1] at this
    exact this
  have hbw1 : Below w.heap.size w w1 := hb0.trans (hb1.mono hb0.size)
  obtain ⟨q0, q1, q2, q3, q4, q5⟩ := hX0.six
  obtain ⟨p0, p1, p2, p3, p4, p5⟩ := (hX0.below hb1).six
  have HXX := Lib.hid (hX0.below hb1); have HOO := Lib.hid (Six.below (X := w0) hO0 hb1); have HCC := Lib.hid hC1; have HBW1 := Lib.hid hbw1; have HS1 := Lib.hid hs1; have HS0 := Lib.hid hs0
  have HNS := Lib.hid (hns.below hbw1); have HNX := Lib.hid hns.1; have HI := Lib.hid hix; have HII := Lib.hid (show In64 k ∧ In64 f ∧ In64 a from ⟨i1, i2, i3⟩); have HSS := Lib.hid hss; have HNL := Lib.hid hnl; have HML := Lib.hid hml; have HNA := Lib.hid hna
  have HL := Lib.hid hL; have IH := Lib.hid ih; have HZ := Lib.hid hz; have HW1 := Lib.hid hw1
  clear hT hns hnc hnl hna hix hml hmd hmm hnd hL i1 i2 i3 hss hb0 hs0 hX0 hO0 ih hz hw1 hb1 hs1 hC1 hbw1
  go_enter Try.func23, Try.ntmps23
  go_upto_region 1 with fail
  rw [← hw0]
  clear hw0
  go_upto_region 2 with fail
  rw [← HW1.out]
  clear HW1 q0 q1 q2 q3 q4 q5
  rw [HS0.out]
  have HE := Lib.hid (own8_empty w1)
  have HB := Lib.hid ((Below.refl w1.heap.size w1).alloc (Nat.le_refl _) (.cells #[] 2))
  have HX := Lib.hid (HNS.out.below HB.out)
  have HN := Lib.hid (show ([] : List Int).length + na ≤ 17592186044416 by have := HNL.out; simpa using this)
  have HV := Lib.hid (show ∀ k, (Value.slice (some ⟨w1.heap.size, 0, none⟩) 0 0).ownBlock = some k → w1.heap.size ≤ k from fun k e => by simp [Value.ownBlock] at e; omega)
  have r4 := cell_old (o := .cells #[] 2) p4
  have HKP := Lib.hid (show ∀ V, Below w1.heap.size w1 V → Six V (w.heap.size + 2) (.int .i64 k) (.int .i64 f) (.int .i64 a) (.string s) (.slice Aa na ca) (.slice B mm d) from fun V h => HCC.out.below h)
  go_upto_region 3 with (at_builtin; refine wpList_append8' rfl (.tmp 6) (.tmp 8) rfl HB.out _ [] rfl HE.out HV.out Aa na ca ns rfl HX.out HNA.out HN.out ?_; intro v4 w4 ho4 hb4; rw [List.nil_append] at ho4; obtain ⟨An, cn, rfl, hnc, _, hnn, hng⟩ := ho4.form; have hc4 := (HKP.out w4 hb4).cell 4 rfl; have hf4 := (HKP.out w4 hb4).frozen 4; rw [HNX.out] at ho4 hnc ⊢)
  have hX4 := HXX.out.below hb4; have hO4 := Six.below (X := w1) HOO.out hb4; have hC4 := HKP.out w4 hb4
  have hc5 := hC4.cell 5 rfl; have hf5 := hC4.frozen 5
  obtain ⟨w6, hw6⟩ : ∃ w6, w6 = (w4.setCell ⟨w.heap.size + 2, 4, none⟩ (.slice An na cn)).setCell ⟨w.heap.size + 2, 5, none⟩ (.slice none 0 0) := ⟨_, rfl⟩
  have hoth : ∀ q, q ≠ w.heap.size + 2 → w6.heap[q]? = w4.heap[q]? := fun q hq => by rw [hw6]; exact (Below.heap_setCell _ _ _ _ hq).trans (Below.heap_setCell _ _ _ _ hq)
  have hsz6 : w6.heap.size = w4.heap.size := by rw [hw6]; simp [World.setCell]
  have hs4 := hb4.size
  have hs1 := HS1.out
  have hat : RefCopyAt w k f a s ns ks Aa na ca B mm d An na cn (.slice none 0 0) 0 w6 := by
    refine ⟨?_, hX4.as (hoth _ (by omega)), Six.as hO4 (hoth _ (by omega)), by rw [hw6]; exact (hC4.set4 _).set5 _, ⟨ho4.rd.1, fun q hq => ?_⟩, fun ad e hn => ?_, by rw [List.take_zero]; exact ownZ_nil _ _ _, by omega⟩
    · rw [hw6]; exact ((HBW1.out.trans (hb4.mono HBW1.out.size)).setCell (p := ⟨w.heap.size + 2, 4, none⟩) (by show w.heap.size ≤ w.heap.size + 2; omega) _).setCell (p := ⟨w.heap.size + 2, 5, none⟩) (by show w.heap.size ≤ w.heap.size + 2; omega) _
    · obtain ⟨ad, e, hl, hc⟩ := ho4.rd.2 q hq
      have := hng ad e
      refine ⟨ad, e, by omega, cell_as hc ?_⟩
      rw [blk_add]
      exact hoth _ (by omega)
    · have := hng ad e
      exact ⟨by omega, fun e' => by simp [Value.ownBlock] at e'⟩
  have HAT := Lib.hid hat; have HW6 := Lib.hid hw6; have HNC := Lib.hid (And.intro hnc hnn)
  have HHL := Lib.hid (show RdL w ks B 0 from RdQL.keep (Nat.le_refl _) (fun _ _ _ => rfl) (fun _ _ => trivial) HL.out)
  clear hX4 hO4 hC4 hw6 hoth hsz6 hs4 hs1 hat ho4 hb4 hnc hnn hng p0 p1 p2 p3 p4 p5 r4 HE HB HX HN HV HKP HCC HOO HXX HNS HBW1
  go_upto_region 4 with fail
  rw [← HW6.out]
  clear HW6 hc4 hf4 hc5 hf5
  go_wp2_with fail
  go_loopw [4] (fun i wr => ∃ j : Nat, j ≤ mm ∧ i = .int .i64 j ∧ Hid (∃ vk, RefCopyAt w k f a s ns ks Aa na ca B mm d An na cn vk j wr)) (fun i _ => mm - (intOf i).toNat)
  case atStart => exact ⟨0, Nat.zero_le _, rfl, Lib.hid ⟨_, HAT.out⟩⟩
  case round =>
    obtain ⟨wo, rfl⟩ : ∃ wo : World, wo = wr := ⟨_, rfl⟩
    obtain ⟨j, hj, rfl, HA⟩ := hrel
    obtain ⟨vk, hA⟩ := HA.out
    clear HA
    obtain ⟨Pk, Ck, hvk, hpc1, hpc2, hform⟩ := hA.row.form
    obtain ⟨Nk, hNk⟩ : ∃ Nk, Nk = (ks.take j).length := ⟨_, rfl⟩
    rw [← hNk] at hvk hpc1
    have HPC := Lib.hid (And.intro hpc1 hpc2); have HNK := Lib.hid hNk
    clear hpc1 hpc2
    subst hvk
    have hp5 := hA.box.cell 5 rfl
    have HA := Lib.hid hA
    clear hA hform hNk
    by_cases hlt : j < mm
    · obtain ⟨T, hTk⟩ : ∃ T, ks[j]? = some T := ⟨_, List.getElem?_eq_getElem (by rw [HML.out]; exact hlt)⟩
      obtain ⟨k', f', a', s', ns', ks'⟩ := T
      obtain ⟨ad, c0, c1, c2, c3, c4, c5, rfl, hal, a0, a1, a2, a3, a4, a5, hrT⟩ := HHL.out.kid hTk
      obtain ⟨Ab, nb, cb, Bb, mb, db, hu6, -⟩ := rdT_node.1 hrT
      simp only [Value.agg.injEq, Array.mk.injEq, List.cons.injEq, and_true] at hu6
      obtain ⟨rfl, rfl, rfl, rfl, rfl, rfl⟩ := hu6
      have hbw := HA.out.below
      have PD : ∀ V, Hid (Below wo.heap.size wo V) → Hid (Calls Try.prog 23 #[.agg #[.int .i64 k', .int .i64 f', .int .i64 a', .string s', .slice Ab nb cb, .slice Bb mb db]] V fun e V' => ∃ A2 n2 c2 B2 m2 d2, e = .returned (.agg #[.int .i64 k', .int .i64 f', .int .i64 a', .string s', .slice A2 n2 c2, .slice B2 m2 d2]) ∧ Hid (RdQ (fun b => wo.heap.size ≤ b) V' (.node k' f' a' s' ns' ks') (.agg #[.int .i64 k', .int .i64 f', .int .i64 a', .string s', .slice A2 n2 c2, .slice B2 m2 d2])) ∧ Hid (Below wo.heap.size wo V')) := fun V h =>
        Lib.hid ((IH.out _ (List.mem_of_getElem? hTk) _ V (hrT.below (hbw.trans (h.out.mono hbw.size))) (by have := kid_size hTk; have := HZ.out; rw [size_node] at this; omega)).mono fun e V' ⟨v, he, hr, hb⟩ => by
          obtain ⟨A2, n2, c2, B2, m2, d2, rfl, -⟩ := rdQ_node.1 hr
          exact ⟨A2, n2, c2, B2, m2, d2, he, Lib.hid (hr.le fun b e => Nat.le_trans h.out.size e), Lib.hid (h.out.trans (hb.mono h.out.size))⟩)
      have KC : ∀ V, Hid (Below wo.heap.size wo V) → Hid (V.cell? ⟨w.heap.size, 5, none⟩ = some (.slice (some ad) mm d) ∧ V.cell? ⟨w.heap.size + 2, 5, none⟩ = some (.slice Pk Nk Ck) ∧ (V.cell? (ad.add (j * 6)) = some (.int .i64 k') ∧ V.cell? ⟨(ad.add (j * 6)).block, (ad.add (j * 6)).off + 1, none⟩ = some (.int .i64 f') ∧ V.cell? ⟨(ad.add (j * 6)).block, (ad.add (j * 6)).off + 2, none⟩ = some (.int .i64 a') ∧ V.cell? ⟨(ad.add (j * 6)).block, (ad.add (j * 6)).off + 3, none⟩ = some (.string s') ∧ V.cell? ⟨(ad.add (j * 6)).block, (ad.add (j * 6)).off + 4, none⟩ = some (.slice Ab nb cb) ∧ V.cell? ⟨(ad.add (j * 6)).block, (ad.add (j * 6)).off + 5, none⟩ = some (.slice Bb mb db))) := fun V h => Lib.hid (by
        have hb := hbw.trans (h.out.mono hbw.size)
        have hl6 : ∀ o, (ad.add o).block < w.heap.size := fun o => by rw [blk_add]; exact hal
        exact ⟨(HA.out.box.below h.out).cell 5 rfl, (HA.out.out.below h.out).cell 5 rfl, (hb.cell (hl6 _)).trans a0, (hb.cell (p := ⟨(ad.add (j * 6)).block, (ad.add (j * 6)).off + 1, none⟩) (hl6 _)).trans a1, (hb.cell (p := ⟨(ad.add (j * 6)).block, (ad.add (j * 6)).off + 2, none⟩) (hl6 _)).trans a2, (hb.cell (p := ⟨(ad.add (j * 6)).block, (ad.add (j * 6)).off + 3, none⟩) (hl6 _)).trans a3, (hb.cell (p := ⟨(ad.add (j * 6)).block, (ad.add (j * 6)).off + 4, none⟩) (hl6 _)).trans a4, (hb.cell (p := ⟨(ad.add (j * 6)).block, (ad.add (j * 6)).off + 5, none⟩) (hl6 _)).trans a5⟩)
      have PAP : ∀ V A2 n2 c2 B2 m2 d2, Hid (Below wo.heap.size wo V) → Hid (RdQ (fun b => wo.heap.size ≤ b) V (.node k' f' a' s' ns' ks') (.agg #[.int .i64 k', .int .i64 f', .int .i64 a', .string s', .slice A2 n2 c2, .slice B2 m2 d2])) → Hid (∀ ty t, ∃ P' N' C' V1, (Builtin.append_ #[23, 23] ty #[.slice Pk Nk Ck, .slice (some ⟨V.heap.size, 0, none⟩) 1 1]).run Try.prog (V.alloc (.cells #[.int .i64 k', .int .i64 f', .int .i64 a', .string s', .slice A2 n2 c2, .slice B2 m2 d2] t)) = .ok (.slice P' N' C') V1 ∧ V1.cell? ⟨w.heap.size + 2, 5, none⟩ = some (.slice Pk Nk Ck) ∧ V1.frozen? ⟨w.heap.size + 2, 5, none⟩ = false ∧
          Hid (RefCopyAt w k f a s ns ks Aa na ca (some ad) mm d An na cn (.slice P' N' C') (j + 1) (V1.setCell ⟨w.heap.size + 2, 5, none⟩ (.slice P' N' C')))) := fun V A2 n2 c2 B2 m2 d2 h hr =>
        Lib.hid (fun ty t => refcopy_push HA.out h.out hTk (u := ⟨.int .i64 k', .int .i64 f', .int .i64 a', .string s', .slice A2 n2 c2, .slice B2 m2 d2⟩) hr.out (by omega) ty t)
      have HK0 := Lib.hid (Below.refl wo.heap.size wo)
      obtain ⟨x5, x6, x0, x1, x2, x3, x4, x7⟩ := (KC wo HK0).out
      have hjm : (j : Int) < (mm : Int) := by omega
      clear hTk hal a0 a1 a2 a3 a4 a5 hrT hbw hp5
      have hmx : Try.prog.follows .mixedOrders = true := by kernel_rfl
      go_upto_region 7 with fail
      refine (wpIn_wide (n := 3)).1 ?_
      refine wpIn_region_any hmx ?_
      try (change wpAnyIn _ _ _ _ _ _ _ _ _ (World.drew _))
-- BEGIN REGION
      refine wpAnyIn_take (i := 0) (v := ?_) rfl rfl (by kernel_rfl) (by kernel_rfl) (by kernel_rfl) (fun _ _ _ h => h) ⟨Or.inl ⟨by rfl, ?_⟩, fun _ => rfl⟩ ?_
      rotate_left
      · (intro w; first | (go_simp; done) | (go_simp; with_reducible rfl))
      try simp only [Act.put, List.setIfInBounds_toArray, List.set_cons_zero, List.set_cons_succ]
      refine wpAnyIn_take (i := 2) (v := ?_) rfl rfl (by kernel_rfl) (by kernel_rfl) (by kernel_rfl) (fun _ _ _ h => h) ⟨Or.inl ⟨by rfl, ?_⟩, fun _ => rfl⟩ ?_
      rotate_left
      · (intro w; first | (go_simp; done) | (go_simp; with_reducible rfl))
      try simp only [Act.put, List.setIfInBounds_toArray, List.set_cons_zero, List.set_cons_succ]
      refine wpAnyIn_take (i := 4) (v := ?_) rfl rfl (by kernel_rfl) (by kernel_rfl) (by kernel_rfl) (fun _ _ _ h => h) ⟨Or.inl ⟨by rfl, ?_⟩, fun _ => rfl⟩ ?_
      rotate_left
      · (intro w; first | (go_simp; done) | (go_simp; with_reducible rfl))
      try simp only [Act.put, List.setIfInBounds_toArray, List.set_cons_zero, List.set_cons_succ]
      refine wpAnyIn_ready (rs := [1, 3]) (by kernel_rfl) (by simp) ?_
      refine AllReadyIn.cons rfl (fun K hK => ?_) ?_
      · go_simp
        refine hK _ _ ?_
        clear hK K
        refine wpAnyIn_ready (rs := [3]) (by kernel_rfl) (by simp) ?_
        refine AllReadyIn.cons rfl (fun K hK => ?_) ?_
        · go_simp
          refine hK _ _ ?_
          clear hK K
          refine wpAnyIn_ready (rs := [5]) (by kernel_rfl) (by simp) ?_
          refine AllReadyIn.cons rfl (fun K hK => ?_) ?_
          · go_simp
            refine hK _ _ ?_
            clear hK K
            refine wpAnyIn_ready (rs := [6]) (by kernel_rfl) (by simp) ?_
            refine AllReadyIn.cons rfl (fun K hK => ?_) ?_
            · go_simp
              refine hK _ _ ?_
              clear hK K
              refine wpAnyIn_ready (rs := [7]) (by kernel_rfl) (by simp) ?_
              refine AllReadyIn.cons rfl (fun K hK => ?_) ?_
              · go_simp
                refine ⟨trivial, (callsIn_wide.2 (PD _ (by first | assumption | exact Lib.hid (Below.drew HK0.out))).out).mono ?_⟩
                rintro e w8 ⟨A2, n2, c2, B2, m2, d2, rfl, HR8, HK8⟩
                obtain ⟨y5, y6, y7, _⟩ := (KC _ HK8).out
                have z6 := cell_old (o := .cells #[.int .i64 k', .int .i64 f', .int .i64 a', .string s', .slice A2 n2 c2, .slice B2 m2 d2] 25) y6
                obtain ⟨P9, N9, C9, V1, hrun, hc1, hf1, HV1⟩ := (PAP _ _ _ _ _ _ _ HK8 HR8).out 23 25
                refine hK _ _ ?_
                clear hK K
                refine wpAnyIn_ready (rs := [8]) (by kernel_rfl) (by simp) ?_
                refine AllReadyIn.cons rfl (fun K hK => ?_) ?_
                · go_simp
                  refine hK _ _ ?_
                  clear hK K
                  refine wpAnyIn_ready (rs := [9]) (by kernel_rfl) (by simp) ?_
                  refine AllReadyIn.cons rfl (fun K hK => ?_) ?_
                  · refine step_appendIn rfl (.tmp 20) (.tmp 27) rfl rfl rfl hrun ?_
                    refine hK _ _ ?_
                    clear hK K hrun
                    refine wpAnyIn_ready (rs := [10]) (by kernel_rfl) (by simp) ?_
                    refine AllReadyIn.cons rfl (fun K hK => ?_) ?_
                    · go_simp
                      refine hK _ _ ?_
                      clear hK K
                      refine wpAnyIn_ready (rs := [11]) (by kernel_rfl) (by simp) ?_
                      refine AllReadyIn.cons rfl (fun K hK => ?_) ?_
                      · go_simp
                        refine hK _ _ ?_
                        clear hK K
                        refine wpAnyIn_done (by kernel_rfl) ?_ _
                        go_wp2_with fail
                        go_roundw
                        case rel => exact ⟨j + 1, by omega, by go_num, Lib.hid ⟨_, HV1.out⟩⟩
                        case measure => first | (simp [intOf]; done) | (simp [intOf]; omega)
                      exact AllReadyIn.nil
                    exact AllReadyIn.nil
                  exact AllReadyIn.nil
                exact AllReadyIn.nil
              exact AllReadyIn.nil
            exact AllReadyIn.nil
          exact AllReadyIn.nil
        exact AllReadyIn.nil
      refine AllReadyIn.cons rfl (fun K hK => ?_) ?_
      · go_simp
        refine hK _ _ ?_
        clear hK K
        refine wpAnyIn_ready (rs := [1, 5]) (by kernel_rfl) (by simp) ?_
        refine AllReadyIn.cons rfl (fun K hK => ?_) ?_
        · go_simp
          refine hK _ _ ?_
          clear hK K
          refine wpAnyIn_ready (rs := [5]) (by kernel_rfl) (by simp) ?_
          refine AllReadyIn.cons rfl (fun K hK => ?_) ?_
          · go_simp
            refine hK _ _ ?_
            clear hK K
            refine wpAnyIn_ready (rs := [6]) (by kernel_rfl) (by simp) ?_
            refine AllReadyIn.cons rfl (fun K hK => ?_) ?_
            · go_simp
              refine hK _ _ ?_
              clear hK K
              refine wpAnyIn_ready (rs := [7]) (by kernel_rfl) (by simp) ?_
              refine AllReadyIn.cons rfl (fun K hK => ?_) ?_
              · go_simp
                refine ⟨trivial, (callsIn_wide.2 (PD _ (by first | assumption | exact Lib.hid (Below.drew HK0.out))).out).mono ?_⟩
                rintro e w8 ⟨A2, n2, c2, B2, m2, d2, rfl, HR8, HK8⟩
                obtain ⟨y5, y6, y7, _⟩ := (KC _ HK8).out
                have z6 := cell_old (o := .cells #[.int .i64 k', .int .i64 f', .int .i64 a', .string s', .slice A2 n2 c2, .slice B2 m2 d2] 25) y6
                obtain ⟨P9, N9, C9, V1, hrun, hc1, hf1, HV1⟩ := (PAP _ _ _ _ _ _ _ HK8 HR8).out 23 25
                refine hK _ _ ?_
                clear hK K
                refine wpAnyIn_ready (rs := [8]) (by kernel_rfl) (by simp) ?_
                refine AllReadyIn.cons rfl (fun K hK => ?_) ?_
                · go_simp
                  refine hK _ _ ?_
                  clear hK K
                  refine wpAnyIn_ready (rs := [9]) (by kernel_rfl) (by simp) ?_
                  refine AllReadyIn.cons rfl (fun K hK => ?_) ?_
                  · refine step_appendIn rfl (.tmp 20) (.tmp 27) rfl rfl rfl hrun ?_
                    refine hK _ _ ?_
                    clear hK K hrun
                    refine wpAnyIn_ready (rs := [10]) (by kernel_rfl) (by simp) ?_
                    refine AllReadyIn.cons rfl (fun K hK => ?_) ?_
                    · go_simp
                      refine hK _ _ ?_
                      clear hK K
                      refine wpAnyIn_ready (rs := [11]) (by kernel_rfl) (by simp) ?_
                      refine AllReadyIn.cons rfl (fun K hK => ?_) ?_
                      · go_simp
                        refine hK _ _ ?_
                        clear hK K
                        refine wpAnyIn_done (by kernel_rfl) ?_ _
                        go_wp2_with fail
                        go_roundw
                        case rel => exact ⟨j + 1, by omega, by go_num, Lib.hid ⟨_, HV1.out⟩⟩
                        case measure => first | (simp [intOf]; done) | (simp [intOf]; omega)
                      exact AllReadyIn.nil
                    exact AllReadyIn.nil
                  exact AllReadyIn.nil
                exact AllReadyIn.nil
              exact AllReadyIn.nil
            exact AllReadyIn.nil
          exact AllReadyIn.nil
        refine AllReadyIn.cons rfl (fun K hK => ?_) ?_
        · go_simp
          refine hK _ _ ?_
          clear hK K
          refine wpAnyIn_ready (rs := [1, 6]) (by kernel_rfl) (by simp) ?_
          refine AllReadyIn.cons rfl (fun K hK => ?_) ?_
          · go_simp
            refine hK _ _ ?_
            clear hK K
            refine wpAnyIn_ready (rs := [6]) (by kernel_rfl) (by simp) ?_
            refine AllReadyIn.cons rfl (fun K hK => ?_) ?_
            · go_simp
              refine hK _ _ ?_
              clear hK K
              refine wpAnyIn_ready (rs := [7]) (by kernel_rfl) (by simp) ?_
              refine AllReadyIn.cons rfl (fun K hK => ?_) ?_
              · go_simp
                refine ⟨trivial, (callsIn_wide.2 (PD _ (by first | assumption | exact Lib.hid (Below.drew HK0.out))).out).mono ?_⟩
                rintro e w8 ⟨A2, n2, c2, B2, m2, d2, rfl, HR8, HK8⟩
                obtain ⟨y5, y6, y7, _⟩ := (KC _ HK8).out
                have z6 := cell_old (o := .cells #[.int .i64 k', .int .i64 f', .int .i64 a', .string s', .slice A2 n2 c2, .slice B2 m2 d2] 25) y6
                obtain ⟨P9, N9, C9, V1, hrun, hc1, hf1, HV1⟩ := (PAP _ _ _ _ _ _ _ HK8 HR8).out 23 25
                refine hK _ _ ?_
                clear hK K
                refine wpAnyIn_ready (rs := [8]) (by kernel_rfl) (by simp) ?_
                refine AllReadyIn.cons rfl (fun K hK => ?_) ?_
                · go_simp
                  refine hK _ _ ?_
                  clear hK K
                  refine wpAnyIn_ready (rs := [9]) (by kernel_rfl) (by simp) ?_
                  refine AllReadyIn.cons rfl (fun K hK => ?_) ?_
                  · refine step_appendIn rfl (.tmp 20) (.tmp 27) rfl rfl rfl hrun ?_
                    refine hK _ _ ?_
                    clear hK K hrun
                    refine wpAnyIn_ready (rs := [10]) (by kernel_rfl) (by simp) ?_
                    refine AllReadyIn.cons rfl (fun K hK => ?_) ?_
                    · go_simp
                      refine hK _ _ ?_
                      clear hK K
                      refine wpAnyIn_ready (rs := [11]) (by kernel_rfl) (by simp) ?_
                      refine AllReadyIn.cons rfl (fun K hK => ?_) ?_
                      · go_simp
                        refine hK _ _ ?_
                        clear hK K
                        refine wpAnyIn_done (by kernel_rfl) ?_ _
                        go_wp2_with fail
                        go_roundw
                        case rel => exact ⟨j + 1, by omega, by go_num, Lib.hid ⟨_, HV1.out⟩⟩
                        case measure => first | (simp [intOf]; done) | (simp [intOf]; omega)
                      exact AllReadyIn.nil
                    exact AllReadyIn.nil
                  exact AllReadyIn.nil
                exact AllReadyIn.nil
              exact AllReadyIn.nil
            exact AllReadyIn.nil
          refine AllReadyIn.cons rfl (fun K hK => ?_) ?_
          · go_simp
            refine hK _ _ ?_
            clear hK K
            refine wpAnyIn_ready (rs := [1, 7]) (by kernel_rfl) (by simp) ?_
            refine AllReadyIn.cons rfl (fun K hK => ?_) ?_
            · go_simp
              refine hK _ _ ?_
              clear hK K
              refine wpAnyIn_ready (rs := [7]) (by kernel_rfl) (by simp) ?_
              refine AllReadyIn.cons rfl (fun K hK => ?_) ?_
              · go_simp
                refine ⟨trivial, (callsIn_wide.2 (PD _ (by first | assumption | exact Lib.hid (Below.drew HK0.out))).out).mono ?_⟩
                rintro e w8 ⟨A2, n2, c2, B2, m2, d2, rfl, HR8, HK8⟩
                obtain ⟨y5, y6, y7, _⟩ := (KC _ HK8).out
                have z6 := cell_old (o := .cells #[.int .i64 k', .int .i64 f', .int .i64 a', .string s', .slice A2 n2 c2, .slice B2 m2 d2] 25) y6
                obtain ⟨P9, N9, C9, V1, hrun, hc1, hf1, HV1⟩ := (PAP _ _ _ _ _ _ _ HK8 HR8).out 23 25
                refine hK _ _ ?_
                clear hK K
                refine wpAnyIn_ready (rs := [8]) (by kernel_rfl) (by simp) ?_
                refine AllReadyIn.cons rfl (fun K hK => ?_) ?_
                · go_simp
                  refine hK _ _ ?_
                  clear hK K
                  refine wpAnyIn_ready (rs := [9]) (by kernel_rfl) (by simp) ?_
                  refine AllReadyIn.cons rfl (fun K hK => ?_) ?_
                  · refine step_appendIn rfl (.tmp 20) (.tmp 27) rfl rfl rfl hrun ?_
                    refine hK _ _ ?_
                    clear hK K hrun
                    refine wpAnyIn_ready (rs := [10]) (by kernel_rfl) (by simp) ?_
                    refine AllReadyIn.cons rfl (fun K hK => ?_) ?_
                    · go_simp
                      refine hK _ _ ?_
                      clear hK K
                      refine wpAnyIn_ready (rs := [11]) (by kernel_rfl) (by simp) ?_
                      refine AllReadyIn.cons rfl (fun K hK => ?_) ?_
                      · go_simp
                        refine hK _ _ ?_
                        clear hK K
                        refine wpAnyIn_done (by kernel_rfl) ?_ _
                        go_wp2_with fail
                        go_roundw
                        case rel => exact ⟨j + 1, by omega, by go_num, Lib.hid ⟨_, HV1.out⟩⟩
                        case measure => first | (simp [intOf]; done) | (simp [intOf]; omega)
                      exact AllReadyIn.nil
                    exact AllReadyIn.nil
                  exact AllReadyIn.nil
                exact AllReadyIn.nil
              exact AllReadyIn.nil
            refine AllReadyIn.cons rfl (fun K hK => ?_) ?_
            · go_simp
              refine ⟨trivial, (callsIn_wide.2 (PD _ (by first | assumption | exact Lib.hid (Below.drew HK0.out))).out).mono ?_⟩
              rintro e w8 ⟨A2, n2, c2, B2, m2, d2, rfl, HR8, HK8⟩
              obtain ⟨y5, y6, y7, _⟩ := (KC _ HK8).out
              have z6 := cell_old (o := .cells #[.int .i64 k', .int .i64 f', .int .i64 a', .string s', .slice A2 n2 c2, .slice B2 m2 d2] 25) y6
              obtain ⟨P9, N9, C9, V1, hrun, hc1, hf1, HV1⟩ := (PAP _ _ _ _ _ _ _ HK8 HR8).out 23 25
              refine hK _ _ ?_
              clear hK K
              refine wpAnyIn_ready (rs := [1, 8]) (by kernel_rfl) (by simp) ?_
              refine AllReadyIn.cons rfl (fun K hK => ?_) ?_
              · go_simp
                refine hK _ _ ?_
                clear hK K
                refine wpAnyIn_ready (rs := [8]) (by kernel_rfl) (by simp) ?_
                refine AllReadyIn.cons rfl (fun K hK => ?_) ?_
                · go_simp
                  refine hK _ _ ?_
                  clear hK K
                  refine wpAnyIn_ready (rs := [9]) (by kernel_rfl) (by simp) ?_
                  refine AllReadyIn.cons rfl (fun K hK => ?_) ?_
                  · refine step_appendIn rfl (.tmp 20) (.tmp 27) rfl rfl rfl hrun ?_
                    refine hK _ _ ?_
                    clear hK K hrun
                    refine wpAnyIn_ready (rs := [10]) (by kernel_rfl) (by simp) ?_
                    refine AllReadyIn.cons rfl (fun K hK => ?_) ?_
                    · go_simp
                      refine hK _ _ ?_
                      clear hK K
                      refine wpAnyIn_ready (rs := [11]) (by kernel_rfl) (by simp) ?_
                      refine AllReadyIn.cons rfl (fun K hK => ?_) ?_
                      · go_simp
                        refine hK _ _ ?_
                        clear hK K
                        refine wpAnyIn_done (by kernel_rfl) ?_ _
                        go_wp2_with fail
                        go_roundw
                        case rel => exact ⟨j + 1, by omega, by go_num, Lib.hid ⟨_, HV1.out⟩⟩
                        case measure => first | (simp [intOf]; done) | (simp [intOf]; omega)
                      exact AllReadyIn.nil
                    exact AllReadyIn.nil
                  exact AllReadyIn.nil
                exact AllReadyIn.nil
              refine AllReadyIn.cons rfl (fun K hK => ?_) ?_
              · go_simp
                refine hK _ _ ?_
                clear hK K
                refine wpAnyIn_ready (rs := [1]) (by kernel_rfl) (by simp) ?_
                refine AllReadyIn.cons rfl (fun K hK => ?_) ?_
                · go_simp
                  refine hK _ _ ?_
                  clear hK K
                  refine wpAnyIn_ready (rs := [9]) (by kernel_rfl) (by simp) ?_
                  refine AllReadyIn.cons rfl (fun K hK => ?_) ?_
                  · refine step_appendIn rfl (.tmp 20) (.tmp 27) rfl rfl rfl hrun ?_
                    refine hK _ _ ?_
                    clear hK K hrun
                    refine wpAnyIn_ready (rs := [10]) (by kernel_rfl) (by simp) ?_
                    refine AllReadyIn.cons rfl (fun K hK => ?_) ?_
                    · go_simp
                      refine hK _ _ ?_
                      clear hK K
                      refine wpAnyIn_ready (rs := [11]) (by kernel_rfl) (by simp) ?_
                      refine AllReadyIn.cons rfl (fun K hK => ?_) ?_
                      · go_simp
                        refine hK _ _ ?_
                        clear hK K
                        refine wpAnyIn_done (by kernel_rfl) ?_ _
                        go_wp2_with fail
                        go_roundw
                        case rel => exact ⟨j + 1, by omega, by go_num, Lib.hid ⟨_, HV1.out⟩⟩
                        case measure => first | (simp [intOf]; done) | (simp [intOf]; omega)
                      exact AllReadyIn.nil
                    exact AllReadyIn.nil
                  exact AllReadyIn.nil
                exact AllReadyIn.nil
              exact AllReadyIn.nil
            exact AllReadyIn.nil
          exact AllReadyIn.nil
        exact AllReadyIn.nil
      exact AllReadyIn.nil
      -- END REGION
    · clear hp5
      obtain rfl : j = mm := by omega
      obtain ⟨q0, q1, q2, q3, q4, q5⟩ := HA.out.out.six
      have hz6 : Six wo (w.heap.size + 1) (.int .i64 0) (.int .i64 0) (.int .i64 0) (.string ⟨#[]⟩) (.slice none 0 0) (.slice none 0 0) := HA.out.res
      obtain ⟨z0, z1, z2, z3, z4, z5⟩ := hz6.six
      have g0 := hz6.frozen 0; have g1 := hz6.frozen 1; have g2 := hz6.frozen 2; have g3 := hz6.frozen 3; have g4 := hz6.frozen 4; have g5 := hz6.frozen 5
      have hp5 := HA.out.box.cell 5 rfl
      have HZ6 := Lib.hid hz6
      clear hz6
      go_wp2_with fail
      obtain ⟨Z, hZ⟩ : ∃ Z, Z = put6 wo (w.heap.size + 1) 0 (.int .i64 k) (.int .i64 f) (.int .i64 a) (.string s) (.slice An na cn) (.slice Pk Nk Ck) := ⟨_, rfl⟩
      have hZ6 := HZ6.out.all (.int .i64 k) (.int .i64 f) (.int .i64 a) (.string s) (.slice An na cn) (.slice Pk Nk Ck)
      have hoth : ∀ q, q ≠ w.heap.size + 1 → Z.heap[q]? = wo.heap[q]? := fun q hq => by rw [hZ]; exact put6_other _ _ _ _ _ _ _ _ _ q hq
      have hszZ : Z.heap.size = wo.heap.size := by rw [hZ]; exact put6_size _ _ _ _ _ _ _ _ _
      have hbZ : Below w.heap.size w Z := by rw [hZ]; exact put6_below HA.out.below (by omega) _ _ _ _ _ _ _
      have htk : ks.take j = ks := List.take_of_length_le (by rw [HML.out]; exact Nat.le_refl _)
      have hNm : Nk = j := by rw [HNK.out, htk, HML.out]
      have hrow := HA.out.row
      rw [htk] at hrow
      have hws := HA.out.size
      have hfin : RdQ (fun b => w.heap.size ≤ b) Z (.node k f a s ns ks) (.agg #[.int .i64 k, .int .i64 f, .int .i64 a, .string s, .slice An na cn, .slice Pk Nk Ck]) := by
        refine rdQ_node.2 ⟨An, na, cn, Pk, Nk, Ck, rfl, HII.out.1, HII.out.2.1, HII.out.2.2, HSS.out, ?_, HNC.out.1, HNL.out, HNC.out.2, HI.out, by rw [hNm]; exact HML.out, HPC.out.1, by omega, HPC.out.2, fun ad e hn => by have := HA.out.numsAt ad e hn; omega, ?_⟩
        · refine ⟨HA.out.nums.1, fun q hq => ?_⟩
          obtain ⟨ad, e, hl, hc⟩ := HA.out.nums.2 q hq
          have h1 := HA.out.numsAt ad e (by have := HA.out.nums.1; omega)
          refine ⟨ad, e, by omega, cell_as hc ?_⟩
          rw [blk_add]
          exact hoth _ (by omega)
        · obtain ⟨us, u0, u1, u2⟩ := hrow
          rcases Nat.eq_zero_or_pos j with h0 | h0
          · have : ks = [] := List.eq_nil_of_length_eq_zero (by rw [HML.out]; exact h0)
            subst this
            exact rdQL_nil
          · obtain ⟨g, cap, e, hge, hlg⟩ := World.ownsRow.form u1 (by rw [HML.out]; exact h0)
            obtain rfl : Pk = some ⟨g, 0, none⟩ := by injection e
            have ha : ∀ q, (⟨g, 0, none⟩ : Addr).add q = ⟨g, q, none⟩ := fun q => by unfold Addr.add; split <;> simp_all
            refine rdQL_of_row (by omega) (by omega) ks us 0 u0 (fun q v hv => ?_) (fun q u T hu hT => ?_)
            · have := u1.cells (g := g) rfl q v hv
              rw [ha] at this
              rw [show 0 * 6 + q = q by omega]
              exact cell_as this (hoth g (by omega))
            · exact ((u2 q u T hu hT).carry (by omega) (fun b hb => hoth b (by omega))).le fun b hb => by omega
      obtain ⟨r0, r1, r2, r3, r4, r5⟩ := hZ6.six
      unfold put6 at hZ
      rw [← hZ] at r0 r1 r2 r3 r4 r5 ⊢
      refine bodyPost_ret (v := .agg #[.int .i64 k, .int .i64 f, .int .i64 a, .string s, .slice An na cn, .slice Pk Nk Ck]) (by simp [results, Try.results23, go_sem, r0, r1, r2, r3, r4, r5]) rfl ⟨_, rfl, hfin, hbZ⟩
end Go.Proofs.Ytbcnilkenkmabaa.tr
