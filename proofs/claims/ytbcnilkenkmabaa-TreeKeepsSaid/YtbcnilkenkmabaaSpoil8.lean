/- The law's spoil: it changes the numbers of a tree that may be written, and nothing else. -/
import Derived.Test.YtbcnilkenkmabaaTreeDupFree
import Derived.Test.YtbcnilkenkmabaaTreeRefCopy
import Derived.Test.YtbcnilkenkmabaaLawRight8
namespace Go.Proofs.Ytbcnilkenkmabaa.tr
open Go.ChangeShapes Go.WideShapes Go.ChangeAt Go.RowKit Go.Proofs.Ytbcnilkenkmabaa.mem Go.Proofs.Ytbcnilkenkmabaa.sq
set_option linter.unusedVariables false

/-- Of what was there, numbers in blocks from B on have changed, and nothing else. -/
structure Ints (B : Nat) (w w' : World) : Prop where
  os : w'.os = w.os
  tape : w'.tape = w.tape
  output : w'.output = w.output
  size : w.heap.size ≤ w'.heap.size
  other : ∀ b, b < w.heap.size → b < B → w'.heap[b]? = w.heap[b]?
  cell : ∀ a v, w.cell? a = some v → w'.cell? a = some v ∨ ∃ x y, v = .int .i64 x ∧ w'.cell? a = some (.int .i64 y) ∧ In64 y
  fz : ∀ b, b < w.heap.size → Fz w b → Fz w' b
theorem Ints.refl (B : Nat) (w : World) : Ints B w w := ⟨rfl, rfl, rfl, Nat.le_refl _, fun _ _ _ => rfl, fun _ _ h => .inl h, fun _ _ h => h⟩
theorem Ints.trans {B : Nat} {u v w : World} (h : Ints B u v) (k : Ints B v w) : Ints B u w :=
  ⟨k.os.trans h.os, k.tape.trans h.tape, k.output.trans h.output, Nat.le_trans h.size k.size, fun b h1 h2 => (k.other b (Nat.lt_of_lt_of_le h1 h.size) h2).trans (h.other b h1 h2), fun a x hx => by
    rcases h.cell a x hx with h1 | ⟨p, q, rfl, h1, h2⟩
    · rcases k.cell a x h1 with h3 | ⟨p, q, rfl, h3, h4⟩
      · exact .inl h3
      · exact .inr ⟨p, q, rfl, h3, h4⟩
    · rcases k.cell a _ h1 with h3 | ⟨p', q', e, h3, h4⟩
      · exact .inr ⟨p, q, rfl, h3, h2⟩
      · exact .inr ⟨p, q', rfl, h3, h4⟩, fun b h1 h2 => k.fz b (Nat.lt_of_lt_of_le h1 h.size) (h.fz b h1 h2)⟩
theorem Ints.below {B : Nat} {w w' : World} (h : Below w.heap.size w w') : Ints B w w' :=
  ⟨h.os, h.tape, h.output, h.size, fun b h1 _ => h.block b h1, fun a v hv => .inl ((h.cell (World.block_lt_of_cell? _ _ hv)).trans hv), fun b h1 h2 => h2.as (h.block b h1)⟩
theorem Ints.set {B : Nat} {w : World} {p : Addr} {x y : Int} (hp : w.cell? p = some (.int .i64 x)) (hB : B ≤ p.block) (hy : In64 y) : Ints B w (w.setCell p (.int .i64 y)) :=
  ⟨rfl, rfl, rfl, by simp [World.setCell], fun b _ h2 => Below.heap_setCell _ _ _ _ (by omega), fun a v hv => by
    by_cases e : p = a
    · subst e
      rw [hp] at hv
      injection hv with hv
      exact .inr ⟨x, y, hv.symm, by first | exact World.cell?_setCell_same _ _ _ hp | exact World.cell?_setCell_same _ _ hp | exact World.cell?_setCell_same _ hp, hy⟩
    · exact .inl ((by first | exact World.cell?_setCell_other _ _ _ _ e | exact World.cell?_setCell_other _ _ _ e | exact World.cell?_setCell_other _ _ e : (w.setCell p (.int .i64 y)).cell? a = w.cell? a).trans hv), fun b _ h off => by
    have := h off
    simpa using this⟩
theorem Ints.int {B : Nat} {w w' : World} (h : Ints B w w') {a : Addr} {x : Int} (hx : w.cell? a = some (.int .i64 x)) (hi : In64 x) : ∃ y, w'.cell? a = some (.int .i64 y) ∧ In64 y := by
  rcases h.cell a _ hx with h1 | ⟨p, q, e, h1, h2⟩
  · exact ⟨x, h1, hi⟩
  · exact ⟨q, h1, h2⟩
theorem Ints.rest {B : Nat} {w w' : World} (h : Ints B w w') {a : Addr} {v : Value} (hv : w.cell? a = some v) (hn : ∀ x, v ≠ .int .i64 x) : w'.cell? a = some v := by
  rcases h.cell a _ hv with h1 | ⟨p, q, e, h1, h2⟩
  · exact h1
  · exact absurd e (hn p)
theorem Ints.nums {B : Nat} {w w' : World} (h : Ints B w w') {A : Option Addr} {n : Nat} {ns : List Int} (hr : Rd w A n ns) (hi : ∀ x ∈ ns, In64 x) : ∃ ns', Rd w' A n ns' ∧ ∀ x ∈ ns', In64 x := by
  have key : ∀ m, m ≤ n → ∃ ns' : List Int, ns'.length = m ∧ (∀ x ∈ ns', In64 x) ∧ ∀ k, k < m → ∃ ad, A = some ad ∧ ad.block < w'.heap.size ∧ w'.cell? (ad.add k) = some (.int .i64 (ns'.getD k 0)) := by
    intro m
    induction m with
    | zero => exact fun _ => ⟨[], rfl, fun x hx => by simp at hx, fun k hk => by omega⟩
    | succ m ih =>
      intro hm
      obtain ⟨ns', h1, h2, h3⟩ := ih (by omega)
      have hl := hr.1
      obtain ⟨ad, e, hlt, hc⟩ := hr.2 m (by omega)
      obtain ⟨y, hy, hy2⟩ := h.int hc (hi _ (by rw [List.getD_eq_getElem?_getD, List.getElem?_eq_getElem (by omega)]; exact List.getElem_mem _))
      refine ⟨ns' ++ [y], by simp [h1], fun x hx => ?_, fun k hk => ?_⟩
      · rcases List.mem_append.1 hx with hx | hx
        · exact h2 x hx
        · simp at hx; subst hx; exact hy2
      · by_cases hkm : k = m
        · subst hkm
          exact ⟨ad, e, Nat.lt_of_lt_of_le hlt h.size, by rw [hy]; simp [List.getD_eq_getElem?_getD, ← h1]⟩
        · obtain ⟨ad', e', hl', hc'⟩ := h3 k (by omega)
          exact ⟨ad', e', hl', by rw [hc']; simp only [List.getD_eq_getElem?_getD]; rw [List.getElem?_append_left (by omega)]⟩
  obtain ⟨ns', h1, h2, h3⟩ := key n (Nat.le_refl _)
  exact ⟨ns', ⟨h1, fun k hk => h3 k (by omega)⟩, h2⟩
theorem Ints.tree {B : Nat} {w w' : World} (h : Ints B w w') : ∀ {T : Tr} {v : Value}, RdQ (fun b => B ≤ b ∧ Fz w b) w T v → ∃ T', sizeT T' = sizeT T ∧ RdQ (fun b => B ≤ b ∧ Fz w' b) w' T' v := by
  intro T
  induction T using Tr.ind with
  | h k f a s ns ks ih =>
    intro v hv
    rw [rdQ_node] at hv
    obtain ⟨A, n, c, B2, m, d, h0, h1, h2, h3, h4, h5, h6, h7, h8, h9, h10, h11, h12, h13, h15, h14⟩ := hv
    obtain ⟨ns', hr', hi'⟩ := h.nums h5 h9
    have hkids : ∀ (l : List Tr) (i : Nat), (∀ T ∈ l, ∀ v, RdQ (fun b => B ≤ b ∧ Fz w b) w T v → ∃ T', sizeT T' = sizeT T ∧ RdQ (fun b => B ≤ b ∧ Fz w' b) w' T' v) → RdQL (fun b => B ≤ b ∧ Fz w b) w l B2 i → ∃ l', l'.length = l.length ∧ sizeL l' = sizeL l ∧ RdQL (fun b => B ≤ b ∧ Fz w' b) w' l' B2 i := by
      intro l
      induction l with
      | nil => exact fun i _ _ => ⟨[], rfl, rfl, rdQL_nil⟩
      | cons T r ihr =>
        intro i hih hl
        rw [rdQL_cons] at hl
        obtain ⟨⟨ad, c0, c1, c2, c3, c4, c5, e, hQ, hlt, q0, q1, q2, q3, q4, q5, hT⟩, hr⟩ := hl
        obtain ⟨l', g1, g2, g3⟩ := ihr (i + 1) (fun U hU => hih U (by simp [hU])) hr
        obtain ⟨T', t1, t2⟩ := hih T (by simp) _ hT
        obtain ⟨k', f', a', s', n', ks'⟩ := T'
        obtain ⟨A', n2, d2, B3, m3, d3, ev, j1, j2, j3, jr⟩ := rdQ_node.1 t2
        simp only [Value.agg.injEq, Array.mk.injEq, List.cons.injEq, and_true] at ev
        obtain ⟨rfl, rfl, rfl, rfl, rfl, rfl⟩ := ev
        obtain ⟨y0, z0, i0⟩ := h.int q0 j1
        obtain ⟨y1, z1, i1⟩ := h.int q1 j2
        obtain ⟨y2, z2, i2⟩ := h.int q2 j3
        refine ⟨.node y0 y1 y2 s' n' ks' :: l', by simp [g1], by simp only [sizeL]; rw [g2, ← t1, size_node, size_node], rdQL_cons.2 ⟨⟨ad, _, _, _, _, _, _, e, ⟨hQ.1, h.fz _ hlt hQ.2⟩, Nat.lt_of_lt_of_le hlt h.size, z0, z1, z2, h.rest q3 (fun x e => by cases e), h.rest q4 (fun x e => by cases e), h.rest q5 (fun x e => by cases e), rdQ_node.2 ⟨A', n2, d2, B3, m3, d3, rfl, i0, i1, i2, jr⟩⟩, g3⟩⟩
    obtain ⟨ks', g1, g2, g3⟩ := hkids ks 0 (fun T hT v hv => ih T hT hv) h14
    refine ⟨.node k f a s ns' ks', by rw [size_node, size_node, g2], rdQ_node.2 ⟨A, n, c, B2, m, d, h0, h1, h2, h3, h4, hr', h6, h7, h8, hi', by rw [g1]; exact h10, h11, h12, h13, fun ad e hn => ⟨(h15 ad e hn).1, ?_⟩, g3⟩⟩
    obtain ⟨ad', e', hl, _⟩ := h5.2 0 (by have := h5.1; omega)
    rw [e] at e'; injection e' with e'; subst e'
    exact h.fz _ hl (h15 ad e hn).2
theorem RdQL.blk {Q : Nat → Prop} {w : World} {l : List Tr} {ad : Addr} {i : Nat} (h : RdQL Q w l (some ad) i) (hn : l ≠ []) : Q ad.block := by
  cases l with
  | nil => exact absurd rfl hn
  | cons T r => rw [rdQL_cons] at h; obtain ⟨⟨ad', _, _, _, _, _, _, e, hQ, _⟩, _⟩ := h; cases e; exact hQ
theorem fz_at {X : World} {b : Nat} (h : Fz X b) (a : Addr) (e : a.block = b) : X.frozen? a = false := by
  have := h a.off
  subst e
  unfold World.frozen? at this ⊢
  exact this
theorem in64_wrap (x : Int) : In64 (IntKind.i64.wrap x) := by
  have h1 : IntKind.i64.min = -9223372036854775808 := by decide
  have h2 : IntKind.i64.max = 9223372036854775807 := by decide
  unfold In64; rw [IntKind.wrap_i64]; simp [Lit.wf, h1, h2]; omega

set_option maxHeartbeats 4000000 in
theorem spoil_any (B : Nat) : ∀ (n : Nat) (T : Tr) (v : Value) (w : World), sizeT T ≤ n → n ≤ 1000000 → B ≤ w.heap.size → RdQ (fun b => B ≤ b ∧ Fz w b) w T v → Calls Try.prog 25 #[v] w fun e w' => (∃ v, e = .returned v) ∧ Ints B w w' := by
  intro n
  induction n with
  | zero => intro T v w h; have := size_pos T; omega
  | succ n ih =>
  intro T v w hz hn hB hT
  obtain ⟨k, f, a, s, ns, ks⟩ := T
  obtain ⟨A, na, c, B2, mm, d, rfl, -⟩ := rdQ_node.1 hT
  obtain ⟨W, hW⟩ : ∃ W, W = w.alloc (.cells #[.int .i64 k, .int .i64 f, .int .i64 a, .string s, .slice A na c, .slice B2 mm d] 25) := ⟨_, rfl⟩
  obtain ⟨hb, hs, KC⟩ := one_box6 hW
  have hTW : RdQ (fun b => B ≤ b ∧ Fz W b) W (.node k f a s ns ks) (.agg #[.int .i64 k, .int .i64 f, .int .i64 a, .string s, .slice A na c, .slice B2 mm d]) := ((RdQ.old hT).below hb).le fun b e => ⟨e.1.1, e.1.2.as (hb.block b e.2)⟩
  obtain ⟨A', na', c', B2', mm', d', ev, -, -, -, -, hns, hnc, hnl, -, hix, hml, hmd, hmm, hnd, hQ, hL⟩ := rdQ_node.1 hTW
  simp only [Value.agg.injEq, Array.mk.injEq, List.cons.injEq, and_true, Value.slice.injEq, true_and] at ev
  obtain ⟨⟨rfl, rfl, rfl⟩, rfl, rfl, rfl⟩ := ev
  obtain ⟨p0, p1, p2, p3, p4, p5⟩ := KC W (Below.refl _ _)
  have hmz : mm ≤ 1000000 := by have := kids_size ks; rw [size_node] at hz; omega
  have HW := Lib.hid hW; have HTW := Lib.hid hTW; have HI0 := Lib.hid (Ints.below (B := B) hb); have HNS := Lib.hid hns; have HIX := Lib.hid hix; have HQ := Lib.hid hQ; have HML := Lib.hid hml; have IH := Lib.hid ih; have HZ := Lib.hid hz; have HN := Lib.hid hn; have HBB := Lib.hid (show B ≤ W.heap.size by have := hb.size; omega)
  have HP4 := Lib.hid p4; have HP5 := Lib.hid p5
  clear hT hTW hW hb hs KC hns hnc hix hml hmd hmm hnd hQ hL ih hz hn hB p0 p1 p2 p3 p4 p5
  go_enter Try.func25, Try.ntmps25
  go_upto_region 1 with fail
  rw [← HW.out]
  clear HW
  go_wp2_with fail
  go_loopw [2] (fun i wr => ∃ j : Nat, j ≤ na ∧ i = .int .i64 j ∧ Hid (Ints B W wr)) (fun i _ => na - (intOf i).toNat)
  case atStart => exact ⟨0, Nat.zero_le _, rfl, Lib.hid (Ints.refl _ _)⟩
  case round =>
    obtain ⟨wo, rfl⟩ : ∃ wo : World, wo = wr := ⟨_, rfl⟩
    obtain ⟨j, hj, rfl, HV⟩ := hrel
    have q4 := HV.out.rest HP4.out (fun x e => by cases e)
    by_cases hlt : j < na
    · obtain ⟨ad, rfl, hl, hc⟩ := HNS.out.2 j hlt
      obtain ⟨y, hy, hyi⟩ := HV.out.int hc (HIX.out _ (by rw [List.getD_eq_getElem?_getD, List.getElem?_eq_getElem (by rw [HNS.out.1]; exact hlt)]; exact List.getElem_mem _))
      have hqa := HQ.out ad rfl (by omega)
      have hfz : wo.frozen? (ad.add j) = false := fz_at (HV.out.fz _ hl hqa.2) _ (blk_add _ _)
      obtain ⟨z, hzz⟩ : ∃ z, IntKind.i64.wrap (y + 1) = z := ⟨_, rfl⟩
      have HF := Lib.hid (HV.out.trans (Ints.set (y := z) hy (by rw [blk_add]; exact hqa.1) (by rw [← hzz]; exact in64_wrap _)))
      have hjm : (j : Int) < (na : Int) := by omega
      clear hl hc hyi hqa
      go_wp2_with fail
      go_roundw
      case rel => exact ⟨j + 1, by omega, by go_num, HF⟩
      case measure => first | (simp [intOf]; done) | (simp [intOf]; omega)
    · go_wp2_with fail
      have HVN := HV
      clear HV q4
      go_loopw [3] (fun i wr => ∃ j : Nat, j ≤ mm ∧ i = .int .i64 j ∧ Hid (Ints B W wr)) (fun i _ => mm - (intOf i).toNat)
      case atStart => exact ⟨0, Nat.zero_le _, rfl, HVN⟩
      case round =>
        obtain ⟨wu, rfl⟩ : ∃ wu : World, wu = wr := ⟨_, rfl⟩
        obtain ⟨i, hi, rfl, HV⟩ := hrel
        have q5 := HV.out.rest HP5.out (fun x e => by cases e)
        by_cases hlt2 : i < mm
        · obtain ⟨T', t1, t2⟩ := HV.out.tree HTW.out
          obtain ⟨k2, f2, a2, s2, ns2, ks2⟩ := T'
          obtain ⟨A2, n2, c2, B3, m3, d3, ev, -, -, -, -, -, -, -, -, -, hml2, -, -, -, -, hL2⟩ := rdQ_node.1 t2
          simp only [Value.agg.injEq, Array.mk.injEq, List.cons.injEq, and_true, Value.slice.injEq, Value.int.injEq, Value.string.injEq, true_and] at ev
          obtain ⟨-, -, -, -, -, rfl, rfl, rfl⟩ := ev
          obtain ⟨T2, hTk⟩ : ∃ T, ks2[i]? = some T := ⟨_, List.getElem?_eq_getElem (by rw [hml2]; exact hlt2)⟩
          obtain ⟨ad, e0, e1, e2, e3, e4, e5, rfl, hal, b0, b1, b2, b3, b4, b5, hrT⟩ := hL2.kid hTk
          have hqa := hL2.blk (fun e => by rw [e] at hTk; simp at hTk)
          have hsz2 : sizeT T2 ≤ n := by have h1 := kid_size hTk; have h2 := HZ.out; rw [size_node] at t1 h2; rw [size_node] at t1; omega
          have PI := Lib.hid (IH.out T2 _ wu hsz2 (by have := HN.out; omega) (by have := HBB.out; have := HV.out.size; omega) hrT)
          obtain ⟨k', f', a', s', ns', ks'⟩ := T2
          obtain ⟨Ab, nb, cb, Bb, mb, db, hu6, -⟩ := rdQ_node.1 hrT
          simp only [Value.agg.injEq, Array.mk.injEq, List.cons.injEq, and_true] at hu6
          obtain ⟨rfl, rfl, rfl, rfl, rfl, rfl⟩ := hu6
          have hin := (rdQ_node.1 hrT)
          have HB0 := Lib.hid b0; have HQA := Lib.hid hqa; have HAL := Lib.hid hal; have HRT := Lib.hid hrT
          have hjm : (i : Int) < (mm : Int) := by omega
          clear hin hrT hqa hal hL2 t1 t2 hTk hsz2 hml2
          go_wp2_with fail
          refine PI.out.mono ?_
          rintro e w9 ⟨⟨v9, rfl⟩, hi9⟩
          have q9 := hi9.rest q5 (fun x e => by cases e)
          obtain ⟨y, hy, -⟩ := hi9.int HB0.out (by obtain ⟨_, _, _, _, _, _, e, i1, _⟩ := rdQ_node.1 HRT.out; exact i1)
          have hfz : w9.frozen? (ad.add (i * 6)) = false := fz_at (hi9.fz _ HAL.out HQA.out.2) _ (blk_add _ _)
          have HF := Lib.hid (HV.out.trans (hi9.trans (Ints.set (y := 99) hy (by rw [blk_add]; exact HQA.out.1) (in64_small (by omega)))))
          clear hi9 q5 b0 b1 b2 b3 b4 b5 PI
          go_wp2_with fail
          go_roundw
          case rel => exact ⟨i + 1, by omega, by go_num, HF⟩
          case measure => first | (simp [intOf]; done) | (simp [intOf]; omega)
        · have HVF := HV
          clear HV
          go_wp2_with fail
          have hfin := HI0.out.trans HVF.out
          exact bodyPost_end (v := .tuple #[]) (by first | rfl | (simp [results, go_sem]; done) | kernel_rfl) rfl ⟨⟨_, rfl⟩, hfin⟩
end Go.Proofs.Ytbcnilkenkmabaa.tr
