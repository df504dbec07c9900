/- The reference of package box: Intersect, whose result grows by append in two fields of a variable. -/
import Derived.Test.YtaegkiangjnmdaaBoxMeet
import Derived.Test.YtaegkiangjnmdaaBoxRef
namespace Go.Proofs.Ytaegkiangjnmdaa.bx
open Go.ChangeShapes Go.WideShapes Go.ChangeAt Go.RowKit Go.Proofs.Ytaegkiangjnmdaa.mem Go.Proofs.Ytaegkiangjnmdaa.prod Go.Proofs.Ytaegkiangjnmdaa.shp Go.Proofs.Ytaegkiangjnmdaa.strd Go.Proofs.Ytaegkiangjnmdaa.gam Go.Proofs.Ytaegkiangjnmdaa.sml Go.Proofs.Ytaegkiangjnmdaa.all Go.Proofs.Ytaegkiangjnmdaa.odo Go.Proofs.Ytaegkiangjnmdaa.eql Go.Proofs.Ytaegkiangjnmdaa.arr
set_option linter.unusedVariables false

theorem Two.symm {w : World} {B : Nat} {u v : Value} {xs ys : List Int} (h : Two w B u v xs ys) : Two w B v u ys xs := ⟨h.snd, h.fst, fun g hv hu => h.apart g hu hv⟩
theorem two_nil (w : World) (B : Nat) : Two w B (.slice none 0 0) (.slice none 0 0) [] [] := ⟨own_nil _ _, own_nil _ _, fun g hg => by simp [Value.ownBlock] at hg⟩
/-- append(x.f, y), x.f the first of two rows. -/
theorem wpList_pushT {w0 w : World} {B : Nat} {ops : Array Oper} {rest : List Oper} {o : Oper} {a : Act} {Q : Exit → Act → World → Prop} (hgd : o.guard = none) (s x : Operand)
    (ho : o.op = .call { callee := .builtin .append, args := #[s, x], argTypes := #[22, 22] })
    (u v : Value) (xs ys : List Int) (hs : a.eval s = u) (hT : Two w B u v xs ys) (hb : Below B w0 w) (hB : B ≤ w.heap.size) (y : Int) (t : TypeId) (hx : a.eval x = .slice (some ⟨w.heap.size, 0, none⟩) 1 1)
    (l : Nat) (hl : xs.length = l) (h40 : l < 1099511627776)
    (h : ∀ P p w', Two w' B (.slice P (l + 1) p) v (xs ++ [y]) ys → Below B w0 w' → wpList Try.prog ops Q rest (a.put o.dst (.slice P (l + 1) p)) w') : wpList Try.prog ops Q (o :: rest) a (w.alloc (.cells #[.int .i64 y] t)) := by
  subst hl
  have hba : Below w.heap.size w (w.alloc (.cells #[.int .i64 y] t)) := (Below.refl _ _).alloc (Nat.le_refl _) _
  have h1 := hT.fst.below hba
  have h2 := hT.snd.below hba
  have hB' : B ≤ (w.alloc (.cells #[.int .i64 y] t)).heap.size := by simp; omega
  obtain ⟨u', w', hrun, g1, g2, g3⟩ := run_append (w.alloc (.cells #[.int .i64 y] t)) o.type B u xs h1 (some ⟨w.heap.size, 0, none⟩) 1 1 [y] (rd_one w t y) (fun h => by cases h) (by omega) hB'
  obtain ⟨P, p, e, _⟩ := g1.form
  rw [List.length_append] at e
  have e1 : xs.length + [y].length = xs.length + 1 := rfl
  rw [e1] at e
  subst e
  refine wpList_plain hgd fun K hK => ?_
  unfold Oper.wp execOp
  simp only [ho, resolve, invoke, builtin, Sem.run_bind, Sem.run_pure, Result.andThen_ok, List.map_toArray, List.map_cons, List.map_nil, hs, hx, hrun]
  refine hK _ _ (h P p w' ⟨g1, h2.grown_ g2 fun g hg e => hT.apart g e hg, fun g hg hv => ?_⟩ (Own.below_grown (hb.alloc hB _) h1 g2 hB'))
  have hlt := (World.ownsRow.lt hT.snd g hv).2
  rcases g3 with e | e
  · rw [e] at hg; exact hT.apart g hg hv
  · rw [e] at hg
    injection hg with hg
    rw [World.size_alloc] at hg
    omega

theorem Two.put1 {w : World} {B p j : Nat} {u v : Value} {xs ys : List Int} (h : Two w B u v xs ys) (hp : p < B) (x : Value) : Two (w.setCell ⟨p, j, none⟩ x) B u v xs ys := ⟨own_set_below h.fst hp, own_set_below h.snd hp, h.apart⟩
/-- .. as a step of a region that draws its order. -/
theorem step_pushT {w0 w : World} {B : Nat} {ops : Array Oper} {o : Oper} {a : Act} {K : Act → World → Prop} {Q : Exit → Act → World → Prop} {E : Prop} (hgd : o.guard = none) (s x : Operand)
    (ho : o.op = .call { callee := .builtin .append, args := #[s, x], argTypes := #[22, 22] })
    (u v : Value) (xs ys : List Int) (hs : a.eval s = u) (hT : Two w B u v xs ys) (hb : Below B w0 w) (hB : B ≤ w.heap.size) (y : Int) (t : TypeId) (hx : a.eval x = .slice (some ⟨w.heap.size, 0, none⟩) 1 1)
    (l : Nat) (hl : xs.length = l) (h40 : l < 1099511627776)
    (h : ∀ P p w', Two w' B (.slice P (l + 1) p) v (xs ++ [y]) ys → Below B w0 w' → K (a.put o.dst (.slice P (l + 1) p)) w') :
    if Region.wanted o (yielded ops a.tmps) = true then Oper.wp Try.prog o a (w.alloc (.cells #[.int .i64 y] t)) K Q else E := by
  subst hl
  have hw : Region.wanted o (yielded ops a.tmps) = true := by simp [Region.wanted, hgd]
  rw [if_pos hw]
  have hba : Below w.heap.size w (w.alloc (.cells #[.int .i64 y] t)) := (Below.refl _ _).alloc (Nat.le_refl _) _
  have h1 := hT.fst.below hba
  have h2 := hT.snd.below hba
  have hB' : B ≤ (w.alloc (.cells #[.int .i64 y] t)).heap.size := by simp; omega
  obtain ⟨u', w', hrun, g1, g2, g3⟩ := run_append (w.alloc (.cells #[.int .i64 y] t)) o.type B u xs h1 (some ⟨w.heap.size, 0, none⟩) 1 1 [y] (rd_one w t y) (fun h => by cases h) (by omega) hB'
  obtain ⟨P, p, e, _⟩ := g1.form
  rw [List.length_append] at e
  have e1 : xs.length + [y].length = xs.length + 1 := rfl
  rw [e1] at e
  subst e
  unfold Oper.wp execOp
  simp only [ho, resolve, invoke, builtin, Sem.run_bind, Sem.run_pure, Result.andThen_ok, List.map_toArray, List.map_cons, List.map_nil, hs, hx, hrun]
  refine h P p w' ⟨g1, h2.grown_ g2 fun g hg e => hT.apart g e hg, fun g hg hv => ?_⟩ (Own.below_grown (hb.alloc hB _) h1 g2 hB')
  have hlt := (World.ownsRow.lt hT.snd g hv).2
  rcases g3 with e | e
  · rw [e] at hg; exact hT.apart g hg hv
  · rw [e] at hg
    injection hg with hg
    rw [World.size_alloc] at hg
    omega

/-- What lies below block B reads as it read. -/
theorem below_cell {B : Nat} {w w' : World} {b o : Nat} {x : Value} (h : Below B w w') (hb : b < B) (hc : w.cell? ⟨b, o, none⟩ = some x) : w'.cell? ⟨b, o, none⟩ = some x := (h.cell (p := ⟨b, o, none⟩) hb).trans hc
theorem below_frozen {B : Nat} {w w' : World} {b o : Nat} (h : Below B w w') (hb : b < B) (hc : w.frozen? ⟨b, o, none⟩ = false) : w'.frozen? ⟨b, o, none⟩ = false := (h.frozen (p := ⟨b, o, none⟩) hb).trans hc

/-- A variable of two slices, in a block that may be written. -/
def Var2 (w : World) (b : Nat) (x y : Value) : Prop := Box2 w b x y ∧ w.frozen? ⟨b, 0, none⟩ = false ∧ w.frozen? ⟨b, 1, none⟩ = false
theorem var2_new (w : World) (x y : Value) (t : TypeId) : Var2 (w.alloc (.cells #[x, y] t)) w.heap.size x y := ⟨box2_new w x y t, by simp, by simp⟩
theorem Var2.below {B : Nat} {w w' : World} {b : Nat} {x y : Value} (h : Var2 w b x y) (hb : Below B w w') (hB : b < B) : Var2 w' b x y :=
  ⟨⟨below_cell hb hB h.1.1, below_cell hb hB h.1.2.1, Nat.lt_of_lt_of_le h.1.2.2 hb.size⟩, below_frozen hb hB h.2.1, below_frozen hb hB h.2.2⟩
theorem Var2.set0 {w : World} {b : Nat} {x y : Value} (h : Var2 w b x y) (z : Value) : Var2 (w.setCell ⟨b, 0, none⟩ z) b z y := by
  refine ⟨⟨set_same h.1.1, ?_, by simpa [World.setCell] using h.1.2.2⟩, ?_, ?_⟩
  · exact (World.cell?_setCell_other _ _ _ _ (by simp)).trans h.1.2.1
  · have := h.2.1; simp [this]
  · have := h.2.2; simp [this]
theorem Var2.set1 {w : World} {b : Nat} {x y : Value} (h : Var2 w b x y) (z : Value) : Var2 (w.setCell ⟨b, 1, none⟩ z) b x z := by
  refine ⟨⟨?_, set_same h.1.2.1, by simpa [World.setCell] using h.1.2.2⟩, ?_, ?_⟩
  · exact (World.cell?_setCell_other _ _ _ _ (by simp)).trans h.1.1
  · have := h.2.1; simp [this]
  · have := h.2.2; simp [this]

theorem refMeet_out (A B A' B' : Option Addr) (n c d n' c' d' : Nat) (al ah bl bh : List Int) (w : World) (hn : n ≤ maxLen) (hn' : n' ≤ maxLen) (ha : Rd w A n al) (ha' : Rd w A' n' bl) (hne : n ≠ n') :
    Calls Try.prog 12 #[.agg #[.slice A n c, .slice B n d], .agg #[.slice A' n' c', .slice B' n' d']] w (NoX w) := by
  unfold maxLen at hn hn'
  obtain ⟨W, hW⟩ : ∃ W, W = ((w.alloc (.cells #[.slice A n c, .slice B n d] 24)).alloc (.cells #[.slice A' n' c', .slice B' n' d'] 24)).alloc (.cells #[.slice none 0 0, .slice none 0 0] 24) := ⟨_, rfl⟩
  obtain ⟨hbl, hsz, KC⟩ := boxes3 hW
  have HB := Lib.hid hbl
  have HW := Lib.hid hW
  obtain ⟨k1, k2, k3, k4, k5, k6, k7, k8⟩ := KC W (Below.refl _ _)
  have hni : ¬ (n : Int) = (n' : Int) := by omega
  clear ha ha' hbl hsz hW KC hne
  go_enter Try.func12, Try.ntmps12
  go_wp2_with fail
  rw [← HW.out]
  go_wp2_with fail
  refine bodyPost_ret (v := .tuple #[.agg #[.slice none 0 0, .slice none 0 0], .bool false]) (by simp [results, Try.results12, go_sem, *]) rfl ⟨rfl, HB.out⟩

set_option maxHeartbeats 4000000 in
theorem refMeet_in (A B A' B' : Option Addr) (n c d c' d' : Nat) (al ah bl bh : List Int) (w : World) (hn : n ≤ 65536) (ha : Rd w A n al) (hb : Rd w B n ah) (ha' : Rd w A' n bl) (hb' : Rd w B' n bh) :
    Calls Try.prog 12 #[.agg #[.slice A n c, .slice B n d], .agg #[.slice A' n c', .slice B' n d']] w (MeetsR (insB (mxL al bl) (mnL ah bh) (mxL al bl)) w n (mxL al bl) (mnL ah bh)) := by
  have P4 := fun P p Q q W h1 h2 => refEmpty_any P Q n p q (mxL al bl) (mnL ah bh) W (by unfold maxLen; omega) h1 h2
  obtain ⟨W, hW⟩ : ∃ W, W = ((w.alloc (.cells #[.slice A n c, .slice B n d] 24)).alloc (.cells #[.slice A' n c', .slice B' n d'] 24)).alloc (.cells #[.slice none 0 0, .slice none 0 0] 24) := ⟨_, rfl⟩
  obtain ⟨hbl, hsz, KC⟩ := boxes3 hW
  have HX := Lib.hid (ha.below hbl); have HY := Lib.hid (hb.below hbl); have HX' := Lib.hid (ha'.below hbl); have HY' := Lib.hid (hb'.below hbl)
  have HB := Lib.hid hbl; have HSZ := Lib.hid hsz
  have HW := Lib.hid hW
  have HKC := Lib.hid KC
  have HL1 := Lib.hid (show (mxL al bl).length = n by rw [mx_len (by rw [ha.1, ha'.1]), ha.1]); have HL2 := Lib.hid (show (mnL ah bh).length = n by rw [mn_len (by rw [hb.1, hb'.1]), hb.1])
  have HMX := Lib.hid (fun (k : Nat) x y (h1 : al[k]? = some x) (h2 : bl[k]? = some y) => mx_at h1 h2)
  have HMN := Lib.hid (fun (k : Nat) x y (h1 : ah[k]? = some x) (h2 : bh[k]? = some y) => mn_at h1 h2)
  obtain ⟨U1, hU1⟩ : ∃ U, U = mxL al bl := ⟨_, rfl⟩
  obtain ⟨U2, hU2⟩ : ∃ U, U = mnL ah bh := ⟨_, rfl⟩
  rw [← hU1, ← hU2] at P4 ⊢
  rw [← hU1] at HL1 HMX
  rw [← hU2] at HL2 HMN
  obtain ⟨k1, k2, k3, k4, k5, k6, k7, k8⟩ := KC W (Below.refl _ _)
  have HV0 := Lib.hid (show Var2 (W.alloc (.cells #[.slice none 0 0, .slice none 0 0] 24)) (w.heap.size + 1 + 1 + 1) (.slice none 0 0) (.slice none 0 0) by have := var2_new W (.slice none 0 0) (.slice none 0 0) 24; rw [hsz] at this; exact this)
  have HT0 := Lib.hid (show Two (W.alloc (.cells #[.slice none 0 0, .slice none 0 0] 24)) (W.heap.size + 1) (.slice none 0 0) (.slice none 0 0) (U1.take 0) (U2.take 0) by simpa using two_nil _ _)
  have HB0 := Lib.hid (one_below W #[.slice none 0 0, .slice none 0 0] 24)
  have HS0 := Lib.hid (show W.heap.size + 1 ≤ (W.alloc (.cells #[.slice none 0 0, .slice none 0 0] 24)).heap.size by simp)
  generalize insB U1 U2 U1 = r at *
  have P4 := fun P p Q q W h1 h2 => Lib.hid (P4 P p Q q W h1 h2)
  rename_i q1
  clear q1 ha hb ha' hb' hbl hsz hW KC hU1 hU2
  go_enter Try.func12, Try.ntmps12
  go_wp2_with fail
  rw [← HW.out]
  go_wp2_with fail
  go_loopw [7] (fun i wr => ∃ k : Nat, k ≤ n ∧ i = .int .i64 k ∧ ∃ v1 v2, Hid (Two wr (W.heap.size + 1) v1 v2 (U1.take k) (U2.take k)) ∧ Hid (Var2 wr (w.heap.size + 1 + 1 + 1) v1 v2) ∧ Hid (Below W.heap.size W wr) ∧ Hid (W.heap.size + 1 ≤ wr.heap.size)) (fun i _ => n - (intOf i).toNat)
  case atStart => exact ⟨0, Nat.zero_le _, rfl, _, _, HT0, HV0, HB0, HS0⟩
  case round =>
    obtain ⟨k, hk, rfl, v1, v2, HT, HV, HBW, HSW⟩ := hrel
    by_cases hlt : k < n
    · obtain ⟨ad1, x, rfl, hx, hc1⟩ := (HX.out.below HBW.out).at_ hlt
      obtain ⟨ad2, y, rfl, hy, hc2⟩ := (HY.out.below HBW.out).at_ hlt
      obtain ⟨ad3, x', rfl, hx', hc3⟩ := (HX'.out.below HBW.out).at_ hlt
      obtain ⟨ad4, y', rfl, hy', hc4⟩ := (HY'.out.below HBW.out).at_ hlt
      obtain ⟨k1, k2, k3, k4, k5, k6, k7, k8⟩ := HKC.out _ HBW.out
      obtain ⟨⟨j1, j2, _⟩, j3, j4⟩ := HV.out
      have hi1 : (k : Int) < (n : Int) := by omega
      have HQ := Lib.hid (And.intro hx (And.intro hy (And.intro hx' hy')))
      have HNX := Lib.hid (show U1.take (k + 1) = U1.take k ++ [if x < x' then x' else x] by rw [take_snoc (HMX.out k x x' hx hx')]; congr 2; split <;> omega)
      have HNY := Lib.hid (show U2.take (k + 1) = U2.take k ++ [if y' < y then y' else y] by rw [take_snoc (HMN.out k y y' hy hy')]; congr 2; split <;> omega)
      have HLN := Lib.hid (show (U1.take k).length = k by rw [List.length_take, HL1.out]; omega); have HLM := Lib.hid (show (U2.take k).length = k by rw [List.length_take, HL2.out]; omega)
      clear hx hx' hy hy' k5 k6 k7 k8
      have hs := HSZ.out
      have hq : ∀ {F : Option Addr} {ys : List Int} {ad : Addr}, Rd W F n ys → F = some ad → ad.block < w.heap.size + 1 + 1 + 1 := fun hr e => by
        obtain ⟨ad', e', hl', _⟩ := hr.2 k hlt
        rw [e] at e'; injection e' with e'; subst e'; omega
      have hq1 := hq HX.out rfl; have hq2 := hq HY.out rfl; have hq3 := hq HX'.out rfl; have hq4 := hq HY'.out rfl
      have HKT1 := Lib.hid (show ∀ (V : World) (z : Value), (fun w' => w'.cell? ⟨w.heap.size, 0, none⟩ = some (.slice (some ad1) n c) ∧ w'.cell? ⟨w.heap.size + 1, 0, none⟩ = some (.slice (some ad3) n c') ∧ w'.cell? (ad1.add k) = some (.int .i64 x) ∧ w'.cell? (ad3.add k) = some (.int .i64 x')) V → (fun w' => w'.cell? ⟨w.heap.size, 0, none⟩ = some (.slice (some ad1) n c) ∧ w'.cell? ⟨w.heap.size + 1, 0, none⟩ = some (.slice (some ad3) n c') ∧ w'.cell? (ad1.add k) = some (.int .i64 x) ∧ w'.cell? (ad3.add k) = some (.int .i64 x')) (V.setCell ⟨w.heap.size + 1 + 1 + 1, 0, none⟩ z) from fun V z h => ⟨set_other h.1 (by show w.heap.size ≠ w.heap.size + 1 + 1 + 1; omega), set_other h.2.1 (by show w.heap.size + 1 ≠ w.heap.size + 1 + 1 + 1; omega), set_other h.2.2.1 (by rw [blk_add]; exact Nat.ne_of_lt hq1), set_other h.2.2.2 (by rw [blk_add]; exact Nat.ne_of_lt hq3)⟩)
      have HKT2 := Lib.hid (show ∀ (V : World) (z : Value), (fun w' => w'.cell? ⟨w.heap.size, 1, none⟩ = some (.slice (some ad2) n d) ∧ w'.cell? ⟨w.heap.size + 1, 1, none⟩ = some (.slice (some ad4) n d') ∧ w'.cell? (ad2.add k) = some (.int .i64 y) ∧ w'.cell? (ad4.add k) = some (.int .i64 y')) V → (fun w' => w'.cell? ⟨w.heap.size, 1, none⟩ = some (.slice (some ad2) n d) ∧ w'.cell? ⟨w.heap.size + 1, 1, none⟩ = some (.slice (some ad4) n d') ∧ w'.cell? (ad2.add k) = some (.int .i64 y) ∧ w'.cell? (ad4.add k) = some (.int .i64 y')) (V.setCell ⟨w.heap.size + 1 + 1 + 1, 1, none⟩ z) from fun V z h => ⟨set_other h.1 (by show w.heap.size ≠ w.heap.size + 1 + 1 + 1; omega), set_other h.2.1 (by show w.heap.size + 1 ≠ w.heap.size + 1 + 1 + 1; omega), set_other h.2.2.1 (by rw [blk_add]; exact Nat.ne_of_lt hq2), set_other h.2.2.2 (by rw [blk_add]; exact Nat.ne_of_lt hq4)⟩)
      have HKS1 := Lib.hid (show ∀ V, Below W.heap.size W V → (fun w' => w'.cell? ⟨w.heap.size, 0, none⟩ = some (.slice (some ad1) n c) ∧ w'.cell? ⟨w.heap.size + 1, 0, none⟩ = some (.slice (some ad3) n c') ∧ w'.cell? (ad1.add k) = some (.int .i64 x) ∧ w'.cell? (ad3.add k) = some (.int .i64 x')) V from fun V h => ⟨(HKC.out V h).1, (HKC.out V h).2.2.1, (HX.out.below h).cell_ HQ.out.1, (HX'.out.below h).cell_ HQ.out.2.2.1⟩)
      have HKS2 := Lib.hid (show ∀ V, Below W.heap.size W V → (fun w' => w'.cell? ⟨w.heap.size, 1, none⟩ = some (.slice (some ad2) n d) ∧ w'.cell? ⟨w.heap.size + 1, 1, none⟩ = some (.slice (some ad4) n d') ∧ w'.cell? (ad2.add k) = some (.int .i64 y) ∧ w'.cell? (ad4.add k) = some (.int .i64 y')) V from fun V h => ⟨(HKC.out V h).2.1, (HKC.out V h).2.2.2.1, (HY.out.below h).cell_ HQ.out.2.1, (HY'.out.below h).cell_ HQ.out.2.2.2⟩)
      obtain ⟨M, hM⟩ : ∃ M, (if x < x' then x' else x) = M := ⟨_, rfl⟩
      obtain ⟨M', hM'⟩ : ∃ M, (if y' < y then y' else y) = M := ⟨_, rfl⟩
      rw [hM] at HNX
      rw [hM'] at HNY
      clear hs hq hq1 hq2 hq3 hq4
      go_wp2_with fail
      have HTD := Lib.hid (show Two wr.drew (W.heap.size + 1) v1 v2 (U1.take k) (U2.take k) from HT.out.below (below_drewN (Below.refl _ _) 1))
      have HVD := Lib.hid (show Var2 wr.drew (w.heap.size + 1 + 1 + 1) v1 v2 from HV.out)
      have HBD := Lib.hid (show Below W.heap.size W wr.drew from below_drewN HBW.out 1)
      have HSD := Lib.hid (show W.heap.size + 1 ≤ wr.drew.heap.size from HSW.out)
      have hja := World.cell?_alloc_some wr.drew ⟨w.heap.size + 1 + 1 + 1, 0, none⟩ (.cells #[.int .i64 M] 3) (by rw [show wr.drew.cell? ⟨w.heap.size + 1 + 1 + 1, 0, none⟩ = some v1 from j1]; rfl)
      rw [show wr.drew.cell? ⟨w.heap.size + 1 + 1 + 1, 0, none⟩ = some v1 from j1] at hja
      refine wp_region_noPanic ?_
      refine wp_region_held_drew (S := fun w' => w'.cell? ⟨w.heap.size, 0, none⟩ = some (.slice (some ad1) n c) ∧ w'.cell? ⟨w.heap.size + 1, 0, none⟩ = some (.slice (some ad3) n c') ∧ w'.cell? (ad1.add k) = some (.int .i64 x) ∧ w'.cell? (ad3.add k) = some (.int .i64 x')) (by kernel_rfl) (HKS1.out _ (below_drewN HBW.out 1)) (fun hHeld => ?_)
      refine wpAnyH_take (i := 0) (oi := ⟨some 23, _, _, _, _, _⟩) (v := ?_) rfl (by kernel_rfl) (by kernel_rfl) (by kernel_rfl) (fun _ _ _ h => h) (Or.inl ⟨by rfl, ?_⟩) (by assumption) ?_
      rotate_left
      · (intro w hSw; (try dsimp only at hSw); first | (go_simp; done) | (go_simp; with_reducible rfl))
      try simp only [Act.put, List.setIfInBounds_toArray, List.set_cons_zero, List.set_cons_succ]
      refine wpAnyH_take (i := 2) (oi := ⟨some 25, _, _, _, _, _⟩) (v := ?_) rfl (by kernel_rfl) (by kernel_rfl) (by kernel_rfl) (fun _ _ _ h => h) (Or.inl ⟨by rfl, ?_⟩) (by assumption) ?_
      rotate_left
      · (intro w hSw; (try dsimp only at hSw); first | (go_simp; done) | (go_simp; with_reducible rfl))
      try simp only [Act.put, List.setIfInBounds_toArray, List.set_cons_zero, List.set_cons_succ]
      refine wpAnyH_take (i := 3) (oi := ⟨some 26, _, _, _, _, _⟩) (v := ?_) rfl (by kernel_rfl) (by kernel_rfl) (by kernel_rfl) (fun _ _ _ h => h) (Or.inl ⟨by rfl, ?_⟩) (by assumption) ?_
      rotate_left
      · (intro w hSw; (try dsimp only at hSw); first | (go_simp; done) | (go_simp; with_reducible rfl))
      try simp only [Act.put, List.setIfInBounds_toArray, List.set_cons_zero, List.set_cons_succ]
      refine wpAnyH_take (i := 4) (oi := ⟨some 27, _, _, _, _, _⟩) (v := ?_) rfl (by kernel_rfl) (by kernel_rfl) (by kernel_rfl) (fun _ _ _ h => h) (Or.inl ⟨by rfl, ?_⟩) (by assumption) ?_
      rotate_left
      · (intro w hSw; (try dsimp only at hSw); first | (go_simp; done) | (go_simp; with_reducible rfl))
      try simp only [Act.put, List.setIfInBounds_toArray, List.set_cons_zero, List.set_cons_succ]
      refine wpAnyH_take (i := 5) (oi := ⟨some 28, _, _, _, _, _⟩) (v := ?_) rfl (by kernel_rfl) (by kernel_rfl) (by kernel_rfl) (fun _ _ _ h => h) (Or.inl ⟨by rfl, ?_⟩) (by assumption) ?_
      rotate_left
      · (intro w hSw; (try dsimp only at hSw); first | (go_simp; done) | (go_simp; with_reducible rfl))
      try simp only [Act.put, List.setIfInBounds_toArray, List.set_cons_zero, List.set_cons_succ]
      refine wpAnyH_take (i := 6) (oi := ⟨some 29, _, _, _, _, _⟩) (v := ?_) rfl (by kernel_rfl) (by kernel_rfl) (by kernel_rfl) (fun _ _ _ h => h) (Or.inl ⟨by rfl, ?_⟩) (by assumption) ?_
      rotate_left
      · (intro w hSw; (try dsimp only at hSw); first | (go_simp; done) | (go_simp; with_reducible rfl))
      try simp only [Act.put, List.setIfInBounds_toArray, List.set_cons_zero, List.set_cons_succ]
      refine wpAnyH_take (i := 7) (oi := ⟨some 30, _, _, _, _, _⟩) (v := ?_) rfl (by kernel_rfl) (by kernel_rfl) (by kernel_rfl) (fun _ _ _ h => h) (Or.inl ⟨by rfl, ?_⟩) (by assumption) ?_
      rotate_left
      · (intro w hSw; (try dsimp only at hSw); first | (go_simp; done) | (go_simp; with_reducible rfl))
      try simp only [Act.put, List.setIfInBounds_toArray, List.set_cons_zero, List.set_cons_succ]
      refine wpAnyH_take (i := 8) (oi := ⟨some 31, _, _, _, _, _⟩) (v := ?_) rfl (by kernel_rfl) (by kernel_rfl) (by kernel_rfl) (fun _ _ _ h => h) (Or.inl ⟨by rfl, ?_⟩) (by assumption) ?_
      rotate_left
      · (intro w hSw; (try dsimp only at hSw); first | (go_simp; done) | (go_simp; with_reducible rfl))
      try simp only [Act.put, List.setIfInBounds_toArray, List.set_cons_zero, List.set_cons_succ]
      refine wpAnyH_take (i := 9) (oi := ⟨some 32, _, _, _, _, _⟩) (v := ?_) rfl (by kernel_rfl) (by kernel_rfl) (by kernel_rfl) (fun _ _ _ h => h) (Or.inl ⟨by rfl, ?_⟩) (by assumption) ?_
      rotate_left
      · (intro w hSw; (try dsimp only at hSw); first | (go_simp; done) | (go_simp; with_reducible rfl))
      try simp only [Act.put, List.setIfInBounds_toArray, List.set_cons_zero, List.set_cons_succ]
      refine wpAnyH_take (i := 10) (oi := ⟨some 33, _, _, _, _, _⟩) (v := ?_) rfl (by kernel_rfl) (by kernel_rfl) (by kernel_rfl) (fun _ _ _ h => h) (Or.inl ⟨by rfl, ?_⟩) (by assumption) ?_
      rotate_left
      · (intro w hSw; (try dsimp only at hSw); first | (go_simp; done) | (go_simp; with_reducible rfl))
      try simp only [Act.put, List.setIfInBounds_toArray, List.set_cons_zero, List.set_cons_succ]
      refine wpAnyH_take (i := 11) (oi := ⟨some 34, _, _, _, _, _⟩) (v := ?_) rfl (by kernel_rfl) (by kernel_rfl) (by kernel_rfl) (fun _ _ _ h => h) (Or.inl ⟨by rfl, ?_⟩) (by assumption) ?_
      rotate_left
      · (intro w hSw; (try dsimp only at hSw); first | (go_simp; done) | (go_simp; with_reducible rfl))
      try simp only [Act.put, List.setIfInBounds_toArray, List.set_cons_zero, List.set_cons_succ]
      refine wpAnyH_take (i := 12) (oi := ⟨some 35, _, _, _, _, _⟩) (v := ?_) rfl (by kernel_rfl) (by kernel_rfl) (by kernel_rfl) (fun _ _ _ h => h) (Or.inl ⟨by rfl, ?_⟩) (by assumption) ?_
      rotate_left
      · (intro w hSw; (try dsimp only at hSw); first | (go_simp; done) | (go_simp; with_reducible rfl))
      try simp only [Act.put, List.setIfInBounds_toArray, List.set_cons_zero, List.set_cons_succ]
      refine wpAnyH_ready (rs := [1, 13]) (by kernel_rfl) (by simp) ?_
      refine (AllReadyH.cons (o := ⟨some 24, _, _, _, _, _⟩) rfl (fun K hK => ?_) (AllReadyH.cons (o := ⟨some 36, _, _, _, _, _⟩) rfl (fun K hK => ?_) AllReadyH.nil))
      go_simp
      refine hK.out _ _ ?_ (fun hHeld => ?_)
      · exact hHeld
      clear hK K
      try simp only [Act.put, List.setIfInBounds_toArray, List.set_cons_zero, List.set_cons_succ]
      refine wpAnyH_ready (rs := [13]) (by kernel_rfl) (by simp) ?_
      refine (AllReadyH.cons (o := ⟨some 36, _, _, _, _, _⟩) rfl (fun K hK => ?_) AllReadyH.nil)
      go_simp
      refine hK.out _ _ ?_ (fun hHeld => ?_)
      · exact HKS1.out _ (HBD.out.alloc (Nat.le_of_succ_le HSD.out) _)
      clear hK K
      try simp only [Act.put, List.setIfInBounds_toArray, List.set_cons_zero, List.set_cons_succ]
      rotate_left
      go_simp
      refine hK.out _ _ ?_ (fun hHeld => ?_)
      · exact HKS1.out _ (HBD.out.alloc (Nat.le_of_succ_le HSD.out) _)
      clear hK K
      try simp only [Act.put, List.setIfInBounds_toArray, List.set_cons_zero, List.set_cons_succ]
      refine wpAnyH_ready (rs := [1]) (by kernel_rfl) (by simp) ?_
      refine (AllReadyH.cons (o := ⟨some 24, _, _, _, _, _⟩) rfl (fun K hK => ?_) AllReadyH.nil)
      go_simp
      refine hK.out _ _ ?_ (fun hHeld => ?_)
      · exact hHeld
      clear hK K
      try simp only [Act.put, List.setIfInBounds_toArray, List.set_cons_zero, List.set_cons_succ]
      all_goals
        refine wpAnyH_ready (rs := [14]) (by kernel_rfl) (by simp) ?_
        refine (AllReadyH.cons (o := ⟨some 37, _, _, _, _, _⟩) rfl (fun K hK => ?_) AllReadyH.nil)
        refine step_pushT (by rfl) (.tmp 24) (.tmp 36) (by rfl) _ _ _ _ (by rfl) HTD.out (Below.refl (W.heap.size + 1) wr.drew) HSD.out _ _ (by rfl) k HLN.out (by omega) ?_
        intro P5 p5 w5 hT5 hB5
        have HT5 := Lib.hid (show Two w5 (W.heap.size + 1) (.slice P5 (k + 1) p5) v2 (U1.take (k + 1)) (U2.take k) by rw [HNX.out]; exact hT5)
        have HV5 := Lib.hid (HVD.out.below hB5 (by have := HSZ.out; omega))
        have HB5 := Lib.hid (HBD.out.trans (hB5.mono (Nat.le_succ _)))
        have HS5 := Lib.hid (Nat.le_trans HSD.out hB5.size)
        obtain ⟨⟨i1, i2, _⟩, i3, i4⟩ := HV5.out
        clear hT5 hB5
        refine hK.out _ _ ?_ (fun hHeld => ?_)
        · exact HKS1.out _ HB5.out
        clear hK K
        try simp only [Act.put, List.setIfInBounds_toArray, List.set_cons_zero, List.set_cons_succ]
        refine wpAnyH_take (i := 15) (oi := ⟨some 38, _, _, _, _, _⟩) (v := ?_) rfl (by kernel_rfl) (by kernel_rfl) (by kernel_rfl) (fun _ _ _ h => h) (Or.inl ⟨by rfl, ?_⟩) (by assumption) ?_
        rotate_left
        · (intro w hSw; (try dsimp only at hSw); first | (go_simp; done) | (go_simp; with_reducible rfl))
        try simp only [Act.put, List.setIfInBounds_toArray, List.set_cons_zero, List.set_cons_succ]
        refine wpAnyH_ready (rs := [16]) (by kernel_rfl) (by simp) ?_
        refine (AllReadyH.cons (o := ⟨none, _, _, _, _, _⟩) rfl (fun K hK => ?_) AllReadyH.nil)
        go_simp
        refine hK.out _ _ ?_ (fun hHeld => ?_)
        · exact HKT1.out _ _ hHeld
        clear hK K
        try simp only [Act.put, List.setIfInBounds_toArray, List.set_cons_zero, List.set_cons_succ]
        refine wpAnyH_done (by kernel_rfl) ?_ _
        refine NoPanic.normal ?_
      all_goals
        obtain ⟨w6, hw6⟩ : ∃ w6, w6 = w5.setCell ⟨w.heap.size + 1 + 1 + 1, 0, none⟩ (.slice P5 (k + 1) p5) := ⟨_, rfl⟩
        have HT6 := Lib.hid (show Two w6 (W.heap.size + 1) (.slice P5 (k + 1) p5) v2 (U1.take (k + 1)) (U2.take k) by rw [hw6]; exact HT5.out.put1 (by have := HSZ.out; omega) _)
        have HV6 := Lib.hid (show Var2 w6 (w.heap.size + 1 + 1 + 1) (.slice P5 (k + 1) p5) v2 by rw [hw6]; exact HV5.out.set0 _)
        have HB6 := Lib.hid (show Below W.heap.size W w6 by rw [hw6]; exact HB5.out.setCell (p := ⟨w.heap.size + 1 + 1 + 1, 0, none⟩) (by have := HSZ.out; show W.heap.size ≤ w.heap.size + 1 + 1 + 1; omega) _)
        have HS6 := Lib.hid (show W.heap.size + 1 ≤ w6.heap.size by rw [hw6]; simpa [World.setCell] using HS5.out)
        rw [← hw6]
        clear hw6 i1 i2 i3 i4 hc1 hc2 hc3 hc4 k1 k2 k3 k4 j1 j2 j3 j4 hja HT HV HBW HSW HTD HVD HBD HSD
        obtain ⟨k1, k2, k3, k4, k5, k6, k7, k8⟩ := HKC.out _ HB6.out
        obtain ⟨⟨j1, j2, _⟩, j3, j4⟩ := HV6.out
        have hc2 := (HKS2.out _ HB6.out).2.2.1
        have hc4 := (HKS2.out _ HB6.out).2.2.2
        clear k5 k6 k7 k8
        go_wp2_with fail
        have HTD := Lib.hid (show Two w6.drew (W.heap.size + 1) (.slice P5 (k + 1) p5) v2 (U1.take (k + 1)) (U2.take k) from HT6.out.below (below_drewN (Below.refl _ _) 1))
        have HVD := Lib.hid (show Var2 w6.drew (w.heap.size + 1 + 1 + 1) (.slice P5 (k + 1) p5) v2 from HV6.out)
        have HBD := Lib.hid (show Below W.heap.size W w6.drew from below_drewN HB6.out 1)
        have HSD := Lib.hid (show W.heap.size + 1 ≤ w6.drew.heap.size from HS6.out)
        have hja := World.cell?_alloc_some w6.drew ⟨w.heap.size + 1 + 1 + 1, 1, none⟩ (.cells #[.int .i64 M'] 3) (by rw [show w6.drew.cell? ⟨w.heap.size + 1 + 1 + 1, 1, none⟩ = some v2 from j2]; rfl)
        rw [show w6.drew.cell? ⟨w.heap.size + 1 + 1 + 1, 1, none⟩ = some v2 from j2] at hja
        refine wp_region_noPanic ?_
        refine wp_region_held_drew (S := fun w' => w'.cell? ⟨w.heap.size, 1, none⟩ = some (.slice (some ad2) n d) ∧ w'.cell? ⟨w.heap.size + 1, 1, none⟩ = some (.slice (some ad4) n d') ∧ w'.cell? (ad2.add k) = some (.int .i64 y) ∧ w'.cell? (ad4.add k) = some (.int .i64 y')) (by kernel_rfl) (HKS2.out _ (below_drewN HB6.out 1)) (fun hHeld => ?_)
        refine wpAnyH_take (i := 0) (oi := ⟨some 39, _, _, _, _, _⟩) (v := ?_) rfl (by kernel_rfl) (by kernel_rfl) (by kernel_rfl) (fun _ _ _ h => h) (Or.inl ⟨by rfl, ?_⟩) (by assumption) ?_
        rotate_left
        · (intro w hSw; (try dsimp only at hSw); first | (go_simp; done) | (go_simp; with_reducible rfl))
        try simp only [Act.put, List.setIfInBounds_toArray, List.set_cons_zero, List.set_cons_succ]
        refine wpAnyH_take (i := 2) (oi := ⟨some 41, _, _, _, _, _⟩) (v := ?_) rfl (by kernel_rfl) (by kernel_rfl) (by kernel_rfl) (fun _ _ _ h => h) (Or.inl ⟨by rfl, ?_⟩) (by assumption) ?_
        rotate_left
        · (intro w hSw; (try dsimp only at hSw); first | (go_simp; done) | (go_simp; with_reducible rfl))
        try simp only [Act.put, List.setIfInBounds_toArray, List.set_cons_zero, List.set_cons_succ]
        refine wpAnyH_take (i := 3) (oi := ⟨some 42, _, _, _, _, _⟩) (v := ?_) rfl (by kernel_rfl) (by kernel_rfl) (by kernel_rfl) (fun _ _ _ h => h) (Or.inl ⟨by rfl, ?_⟩) (by assumption) ?_
        rotate_left
        · (intro w hSw; (try dsimp only at hSw); first | (go_simp; done) | (go_simp; with_reducible rfl))
        try simp only [Act.put, List.setIfInBounds_toArray, List.set_cons_zero, List.set_cons_succ]
        refine wpAnyH_take (i := 4) (oi := ⟨some 43, _, _, _, _, _⟩) (v := ?_) rfl (by kernel_rfl) (by kernel_rfl) (by kernel_rfl) (fun _ _ _ h => h) (Or.inl ⟨by rfl, ?_⟩) (by assumption) ?_
        rotate_left
        · (intro w hSw; (try dsimp only at hSw); first | (go_simp; done) | (go_simp; with_reducible rfl))
        try simp only [Act.put, List.setIfInBounds_toArray, List.set_cons_zero, List.set_cons_succ]
        refine wpAnyH_take (i := 5) (oi := ⟨some 44, _, _, _, _, _⟩) (v := ?_) rfl (by kernel_rfl) (by kernel_rfl) (by kernel_rfl) (fun _ _ _ h => h) (Or.inl ⟨by rfl, ?_⟩) (by assumption) ?_
        rotate_left
        · (intro w hSw; (try dsimp only at hSw); first | (go_simp; done) | (go_simp; with_reducible rfl))
        try simp only [Act.put, List.setIfInBounds_toArray, List.set_cons_zero, List.set_cons_succ]
        refine wpAnyH_take (i := 6) (oi := ⟨some 45, _, _, _, _, _⟩) (v := ?_) rfl (by kernel_rfl) (by kernel_rfl) (by kernel_rfl) (fun _ _ _ h => h) (Or.inl ⟨by rfl, ?_⟩) (by assumption) ?_
        rotate_left
        · (intro w hSw; (try dsimp only at hSw); first | (go_simp; done) | (go_simp; with_reducible rfl))
        try simp only [Act.put, List.setIfInBounds_toArray, List.set_cons_zero, List.set_cons_succ]
        refine wpAnyH_take (i := 7) (oi := ⟨some 46, _, _, _, _, _⟩) (v := ?_) rfl (by kernel_rfl) (by kernel_rfl) (by kernel_rfl) (fun _ _ _ h => h) (Or.inl ⟨by rfl, ?_⟩) (by assumption) ?_
        rotate_left
        · (intro w hSw; (try dsimp only at hSw); first | (go_simp; done) | (go_simp; with_reducible rfl))
        try simp only [Act.put, List.setIfInBounds_toArray, List.set_cons_zero, List.set_cons_succ]
        refine wpAnyH_take (i := 8) (oi := ⟨some 47, _, _, _, _, _⟩) (v := ?_) rfl (by kernel_rfl) (by kernel_rfl) (by kernel_rfl) (fun _ _ _ h => h) (Or.inl ⟨by rfl, ?_⟩) (by assumption) ?_
        rotate_left
        · (intro w hSw; (try dsimp only at hSw); first | (go_simp; done) | (go_simp; with_reducible rfl))
        try simp only [Act.put, List.setIfInBounds_toArray, List.set_cons_zero, List.set_cons_succ]
        refine wpAnyH_take (i := 9) (oi := ⟨some 48, _, _, _, _, _⟩) (v := ?_) rfl (by kernel_rfl) (by kernel_rfl) (by kernel_rfl) (fun _ _ _ h => h) (Or.inl ⟨by rfl, ?_⟩) (by assumption) ?_
        rotate_left
        · (intro w hSw; (try dsimp only at hSw); first | (go_simp; done) | (go_simp; with_reducible rfl))
        try simp only [Act.put, List.setIfInBounds_toArray, List.set_cons_zero, List.set_cons_succ]
        refine wpAnyH_take (i := 10) (oi := ⟨some 49, _, _, _, _, _⟩) (v := ?_) rfl (by kernel_rfl) (by kernel_rfl) (by kernel_rfl) (fun _ _ _ h => h) (Or.inl ⟨by rfl, ?_⟩) (by assumption) ?_
        rotate_left
        · (intro w hSw; (try dsimp only at hSw); first | (go_simp; done) | (go_simp; with_reducible rfl))
        try simp only [Act.put, List.setIfInBounds_toArray, List.set_cons_zero, List.set_cons_succ]
        refine wpAnyH_take (i := 11) (oi := ⟨some 50, _, _, _, _, _⟩) (v := ?_) rfl (by kernel_rfl) (by kernel_rfl) (by kernel_rfl) (fun _ _ _ h => h) (Or.inl ⟨by rfl, ?_⟩) (by assumption) ?_
        rotate_left
        · (intro w hSw; (try dsimp only at hSw); first | (go_simp; done) | (go_simp; with_reducible rfl))
        try simp only [Act.put, List.setIfInBounds_toArray, List.set_cons_zero, List.set_cons_succ]
        refine wpAnyH_take (i := 12) (oi := ⟨some 51, _, _, _, _, _⟩) (v := ?_) rfl (by kernel_rfl) (by kernel_rfl) (by kernel_rfl) (fun _ _ _ h => h) (Or.inl ⟨by rfl, ?_⟩) (by assumption) ?_
        rotate_left
        · (intro w hSw; (try dsimp only at hSw); first | (go_simp; done) | (go_simp; with_reducible rfl))
        try simp only [Act.put, List.setIfInBounds_toArray, List.set_cons_zero, List.set_cons_succ]
        refine wpAnyH_ready (rs := [1, 13]) (by kernel_rfl) (by simp) ?_
        refine (AllReadyH.cons (o := ⟨some 40, _, _, _, _, _⟩) rfl (fun K hK => ?_) (AllReadyH.cons (o := ⟨some 52, _, _, _, _, _⟩) rfl (fun K hK => ?_) AllReadyH.nil))
        go_simp
        refine hK.out _ _ ?_ (fun hHeld => ?_)
        · exact hHeld
        clear hK K
        try simp only [Act.put, List.setIfInBounds_toArray, List.set_cons_zero, List.set_cons_succ]
        refine wpAnyH_ready (rs := [13]) (by kernel_rfl) (by simp) ?_
        refine (AllReadyH.cons (o := ⟨some 52, _, _, _, _, _⟩) rfl (fun K hK => ?_) AllReadyH.nil)
        go_simp
        refine hK.out _ _ ?_ (fun hHeld => ?_)
        · exact HKS2.out _ (HBD.out.alloc (Nat.le_of_succ_le HSD.out) _)
        clear hK K
        try simp only [Act.put, List.setIfInBounds_toArray, List.set_cons_zero, List.set_cons_succ]
        rotate_left
        go_simp
        refine hK.out _ _ ?_ (fun hHeld => ?_)
        · exact HKS2.out _ (HBD.out.alloc (Nat.le_of_succ_le HSD.out) _)
        clear hK K
        try simp only [Act.put, List.setIfInBounds_toArray, List.set_cons_zero, List.set_cons_succ]
        refine wpAnyH_ready (rs := [1]) (by kernel_rfl) (by simp) ?_
        refine (AllReadyH.cons (o := ⟨some 40, _, _, _, _, _⟩) rfl (fun K hK => ?_) AllReadyH.nil)
        go_simp
        refine hK.out _ _ ?_ (fun hHeld => ?_)
        · exact hHeld
        clear hK K
        try simp only [Act.put, List.setIfInBounds_toArray, List.set_cons_zero, List.set_cons_succ]
        all_goals
          refine wpAnyH_ready (rs := [14]) (by kernel_rfl) (by simp) ?_
          refine (AllReadyH.cons (o := ⟨some 53, _, _, _, _, _⟩) rfl (fun K hK => ?_) AllReadyH.nil)
          refine step_pushT (by rfl) (.tmp 40) (.tmp 52) (by rfl) _ _ _ _ (by rfl) HTD.out.symm (Below.refl (W.heap.size + 1) w6.drew) HSD.out _ _ (by rfl) k HLM.out (by omega) ?_
          intro P7 p7 w7 hT7 hB7
          have HT7 := Lib.hid (show Two w7 (W.heap.size + 1) (.slice P5 (k + 1) p5) (.slice P7 (k + 1) p7) (U1.take (k + 1)) (U2.take (k + 1)) by rw [HNY.out]; exact hT7.symm)
          have HV7 := Lib.hid (HVD.out.below hB7 (by have := HSZ.out; omega))
          have HB7 := Lib.hid (HBD.out.trans (hB7.mono (Nat.le_succ _)))
          have HS7 := Lib.hid (Nat.le_trans HSD.out hB7.size)
          obtain ⟨⟨i1, i2, _⟩, i3, i4⟩ := HV7.out
          clear hT7 hB7
          refine hK.out _ _ ?_ (fun hHeld => ?_)
          · exact HKS2.out _ HB7.out
          clear hK K
          try simp only [Act.put, List.setIfInBounds_toArray, List.set_cons_zero, List.set_cons_succ]
          refine wpAnyH_take (i := 15) (oi := ⟨some 54, _, _, _, _, _⟩) (v := ?_) rfl (by kernel_rfl) (by kernel_rfl) (by kernel_rfl) (fun _ _ _ h => h) (Or.inl ⟨by rfl, ?_⟩) (by assumption) ?_
          rotate_left
          · (intro w hSw; (try dsimp only at hSw); first | (go_simp; done) | (go_simp; with_reducible rfl))
          try simp only [Act.put, List.setIfInBounds_toArray, List.set_cons_zero, List.set_cons_succ]
          refine wpAnyH_ready (rs := [16]) (by kernel_rfl) (by simp) ?_
          refine (AllReadyH.cons (o := ⟨none, _, _, _, _, _⟩) rfl (fun K hK => ?_) AllReadyH.nil)
          go_simp
          refine hK.out _ _ ?_ (fun hHeld => ?_)
          · exact HKT2.out _ _ hHeld
          clear hK K
          try simp only [Act.put, List.setIfInBounds_toArray, List.set_cons_zero, List.set_cons_succ]
          refine wpAnyH_done (by kernel_rfl) ?_ _
          refine NoPanic.normal ?_
        all_goals
          have HT8 := Lib.hid (show Two (w7.setCell ⟨w.heap.size + 1 + 1 + 1, 1, none⟩ (.slice P7 (k + 1) p7)) (W.heap.size + 1) (.slice P5 (k + 1) p5) (.slice P7 (k + 1) p7) (U1.take (k + 1)) (U2.take (k + 1)) from HT7.out.put1 (by have := HSZ.out; omega) _)
          have HV8 := Lib.hid (show Var2 (w7.setCell ⟨w.heap.size + 1 + 1 + 1, 1, none⟩ (.slice P7 (k + 1) p7)) (w.heap.size + 1 + 1 + 1) (.slice P5 (k + 1) p5) (.slice P7 (k + 1) p7) from HV7.out.set1 _)
          have HB8 := Lib.hid (show Below W.heap.size W (w7.setCell ⟨w.heap.size + 1 + 1 + 1, 1, none⟩ (.slice P7 (k + 1) p7)) from HB7.out.setCell (p := ⟨w.heap.size + 1 + 1 + 1, 1, none⟩) (by have := HSZ.out; show W.heap.size ≤ w.heap.size + 1 + 1 + 1; omega) _)
          have HS8 := Lib.hid (show W.heap.size + 1 ≤ (w7.setCell ⟨w.heap.size + 1 + 1 + 1, 1, none⟩ (.slice P7 (k + 1) p7)).heap.size by simpa [World.setCell] using HS7.out)
          clear i1 i2 i3 i4 hc2 hc4 k1 k2 k3 k4 j1 j2 j3 j4 hja HTD HVD HBD HSD
          go_wp2_with fail
          go_roundw
          case rel => exact ⟨k + 1, by omega, by go_num, _, _, HT8, HV8, HB8, HS8⟩
          case measure => first | (simp [intOf]; done) | (simp [intOf]; omega)
    · obtain rfl : k = n := by omega
      have HTE := Lib.hid (show Two wr (W.heap.size + 1) v1 v2 U1 U2 by
        have := HT.out
        rwa [List.take_of_length_le (by rw [HL1.out]; omega), List.take_of_length_le (by rw [HL2.out]; omega)] at this)
      obtain ⟨P, p, e1, _⟩ := HTE.out.fst.form
      obtain ⟨Q, q, e2, _⟩ := HTE.out.snd.form
      rw [HL1.out] at e1
      rw [HL2.out] at e2
      subst e1 e2
      obtain ⟨k1, k2, k3, k4, k5, k6, k7, k8⟩ := HKC.out _ HBW.out
      obtain ⟨⟨j1, j2, _⟩, j3, j4⟩ := HV.out
      go_wp2_with fail
      refine (P4 _ _ _ _ _ HTE.out.fst.rd HTE.out.snd.rd).out.mono ?_
      rintro e w7 ⟨rfl, hb⟩
      have HB7 := Lib.hid (below_step HBW.out hb)
      have HT7 := Lib.hid (HTE.out.below hb)
      have HV7 := HV.out.below hb HV.out.1.2.2
      clear j1 j2 j3 j4 k1 k2 k3 k4 k5 k6 k7 k8
      obtain ⟨k1, k2, k3, k4, k5, k6, k7, k8⟩ := HKC.out _ HB7.out
      obtain ⟨⟨j1, j2, _⟩, j3, j4⟩ := HV7
      clear hb k1 k2 k3 k4
      have HLE := Lib.hid (show W.heap.size ≥ w.heap.size + 3 from by have := HSZ.out; omega)
      cases r
      · go_wp2_with fail
        refine bodyPost_ret (v := .tuple #[.agg #[.slice none 0 0, .slice none 0 0], .bool false]) (by simp [results, Try.results12, go_sem, *]) rfl (MeetsR.no ⟨rfl, two_below (HB.out.trans (HB7.out.mono HB.out.size)) (by omega)⟩)
      · go_wp2_with fail
        have hle := HLE.out
        refine bodyPost_ret (v := .tuple #[.agg #[.slice P k p, .slice Q k q], .bool true]) (by simp [results, Try.results12, go_sem, *]) rfl (MeetsR.yes ⟨_, _, _, _, rfl, ?_, two_below (HB.out.trans (HB7.out.mono HB.out.size)) (by omega)⟩)
        exact (HT7.out.put (p := w.heap.size + 2) (by omega)).le (by omega)
end Go.Proofs.Ytaegkiangjnmdaa.bx
