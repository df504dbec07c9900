/- Package box: Exact, and what it calls: in, mark, slices.Contains at bools. -/
import Derived.Test.YtaegkiangjnmdaaBoxRow
import Derived.Test.YtaegkiangjnmdaaBoxMeet
import Derived.Test.YtaegkiangjnmdaaOdoIter
import Derived.Test.YtaegkiangjnmdaaRound
import Derived.Deep.RegionHeld3
import Derived.BigRegion
namespace Go.Proofs.Ytaegkiangjnmdaa.bx
open Go.ChangeShapes Go.WideShapes Go.ChangeAt Go.RowKit Go.Shelf Go.Proofs.Ytaegkiangjnmdaa.mem Go.Proofs.Ytaegkiangjnmdaa.prod Go.Proofs.Ytaegkiangjnmdaa.shp Go.Proofs.Ytaegkiangjnmdaa.strd Go.Proofs.Ytaegkiangjnmdaa.gam Go.Proofs.Ytaegkiangjnmdaa.sml Go.Proofs.Ytaegkiangjnmdaa.all Go.Proofs.Ytaegkiangjnmdaa.odo Go.Proofs.Ytaegkiangjnmdaa.eql Go.Proofs.Ytaegkiangjnmdaa.arr Go.Proofs.Ytaegkiangjnmdaa.iter
set_option linter.unusedVariables false
attribute [local go_sem] Oper.semAt_some

theorem func_neq (f : Fn) (ts lb : Array Value) (w : World) : (binOp .eql 73 (.func f ts lb) .nilFunc).run Try.prog w = .ok (.bool false) w := by
  first
    | kernel_rfl
    | (simp only [binOp]; simp [Op.equal, Op.maxDepth, Op.equalIn, run_underlying Try.underlying73])
/-- Marking cells, up to one that is marked. -/
def markL (ss : List Int) : List Bool → List (List Int) → List Bool × Bool
  | bs, [] => (bs, true)
  | bs, x :: xs => if bs.getD (dotL ss x).toNat false = true then (bs, false) else markL ss (bs.set (dotL ss x).toNat true) xs
/-- Marking the cells of boxes. -/
def exL (ss : List Int) : List Bool → List Bx → Bool
  | bs, [] => bs.all id
  | bs, p :: ps => if (markL ss bs (rngs p.1 p.2)).2 = true then exL ss (markL ss bs (rngs p.1 p.2)).1 ps else false

/-- A row of bools of the call's own. -/
def OwnBl (w : World) (B : Nat) (v : Value) (bs : List Bool) : Prop := w.ownsRow B 4 1 v bs.length (bs.map Value.bool)
theorem OwnBl.below {w w' : World} {B : Nat} {v : Value} {bs : List Bool} (h : OwnBl w B v bs) (hb : Below w.heap.size w w') : OwnBl w' B v bs :=
  World.ownsRow.kept (row := none) h ⟨hb.os, hb.tape, hb.output, hb.size, fun k hk _ => hb.block k hk⟩ (by cases hv : v.ownBlock <;> simp)
theorem OwnBl.len {w : World} {B g n c : Nat} {bs : List Bool} (h : OwnBl w B (.slice (some ⟨g, 0, none⟩) n c) bs) : bs.length = n := by
  rcases h.2 with ⟨h0, _⟩ | ⟨g', cap, cur, hv, _⟩
  · cases h0
  · injection hv with e1 e2 e3
    exact e2.symm
theorem OwnBl.cellAt {w : World} {B g n c j : Nat} {y : Bool} {bs : List Bool} (h : OwnBl w B (.slice (some ⟨g, 0, none⟩) n c) bs) (hy : bs[j]? = some y) : w.cell? ⟨g, j, none⟩ = some (.bool y) := by
  have := World.ownsRow.cells h (g := g) rfl j (.bool y) (by simp [hy])
  rwa [add_at] at this
theorem OwnBl.frozenAt {w : World} {B g n c : Nat} {bs : List Bool} (h : OwnBl w B (.slice (some ⟨g, 0, none⟩) n c) bs) (j : Nat) : w.frozen? ⟨g, j, none⟩ = false := by
  have hl := h.len
  subst hl
  exact World.ownsRow.frozenAt h j
theorem OwnBl.set_ {w : World} {B g n c : Nat} {bs : List Bool} (h : OwnBl w B (.slice (some ⟨g, 0, none⟩) n c) bs) (j : Nat) (y : Bool) : OwnBl (w.setCell ⟨g, j, none⟩ (.bool y)) B (.slice (some ⟨g, 0, none⟩) n c) (bs.set j y) := by
  have hl := h.len
  subst hl
  have := (World.ownsRow.stored h j (.bool y)).1
  unfold OwnBl
  rw [List.length_set, List.map_set]
  exact this
theorem OwnBl.lt {w : World} {B g n c : Nat} {bs : List Bool} (h : OwnBl w B (.slice (some ⟨g, 0, none⟩) n c) bs) : B ≤ g ∧ g < w.heap.size := World.ownsRow.lt h g rfl
theorem OwnBl.chg {S : Nat → Prop} {A C : World} {B g n c : Nat} {bs : List Bool} (h : OwnBl A B (.slice (some ⟨g, 0, none⟩) n c) bs) (hg : Chg S A C) (hS : ¬ S g) : OwnBl C B (.slice (some ⟨g, 0, none⟩) n c) bs := by
  refine ⟨h.1, ?_⟩
  rcases h.2 with h2 | ⟨g', cap, cur, hv, hb, hh, r⟩
  · exact .inl h2
  · injection hv with e1 e2 e3
    injection e1 with e1; injection e1 with e1
    subst e1
    exact .inr ⟨g, cap, cur, by rw [e2, e3], hb, (hg.block g (Array.getElem?_eq_some_iff.1 hh).1 hS).trans hh, r⟩

def SomeIx (a : Bool) (w : World) (e : Ending) (w' : World) : Prop := ∃ r : Int, e = .returned (.int .i64 r) ∧ (decide (0 ≤ r) = !a) ∧ w = w'
theorem index_bool (g n c : Nat) (bs : List Bool) (w : World) (B : Nat) (hn : n ≤ 65536) (h : OwnBl w B (.slice (some ⟨g, 0, none⟩) n c) bs) :
    Calls Try.prog 49 #[.slice (some ⟨g, 0, none⟩) n c, .bool false] w fun e w' => ∃ r : Int, e = .returned (.int .i64 r) ∧ (decide (0 ≤ r) = !bs.all id) ∧ w = w' := by
  have HO := Lib.hid h; clear h
  obtain ⟨a, ha⟩ : ∃ a, a = bs.all id := ⟨_, rfl⟩
  rw [← ha]
  have HA := Lib.hid ha; clear ha
  refine Calls.mono (R := fun e w' => SomeIx a w e w') ?_ (fun e w' h => h)
  go_enter Try.func49, Try.ntmps49
  go_wp2_with fail
  go_loop [8] (fun i => ∃ k : Nat, k ≤ n ∧ i = .int .i64 k ∧ Hid (bs.all id = (bs.drop k).all id)) (fun i => n - (intOf i).toNat)
  case atStart => exact ⟨0, Nat.zero_le _, rfl, Lib.hid rfl⟩
  case round =>
    obtain ⟨k, hk, rfl, Hs⟩ := hrel
    by_cases hlt : k < n
    · obtain ⟨b, hb⟩ : ∃ b, bs[k]? = some b := ⟨_, List.getElem?_eq_getElem (by rw [HO.out.len]; exact hlt)⟩
      have hc := HO.out.cellAt hb
      have HS := Lib.hid (show (bs.drop k).all id = (b && (bs.drop (k + 1)).all id) by rw [drop_at hb]; rfl)
      clear hb
      have hi1 : (k : Int) < (n : Int) := by omega
      cases b
      · have HE := Lib.hid (show SomeIx a w (.returned (.int .i64 (k : Int))) w from ⟨_, rfl, by rw [HA.out, Hs.out, HS.out, decide_eq_true (by omega)]; rfl, rfl⟩)
        go_wp2_with fail
        go_ret
        exact HE.out
      · go_wp2_with fail
        go_round
        case rel => exact ⟨k + 1, by omega, by go_num, Lib.hid (by rw [Hs.out, HS.out, Bool.true_and])⟩
        case measure => simp [intOf]; omega
    · have HE := Lib.hid (show SomeIx a w (.returned (.int .i64 (-1))) w from ⟨_, rfl, by rw [HA.out, Hs.out, List.drop_of_length_le (by rw [HO.out.len]; omega)]; rfl, rfl⟩)
      go_wp2_with fail
      go_ret
      exact HE.out

theorem contains_bool (g n c : Nat) (bs : List Bool) (w : World) (B : Nat) (hn : n ≤ 65536) (h : OwnBl w B (.slice (some ⟨g, 0, none⟩) n c) bs) :
    Calls Try.prog 42 #[.slice (some ⟨g, 0, none⟩) n c, .bool false] w fun e w' => e = .returned (.bool (!bs.all id)) ∧ w = w' := by
  have P1 := Lib.hid (index_bool g n c bs w B hn h)
  clear h
  generalize bs.all id = a at *
  go_enter Try.func42, Try.ntmps42
  go_wp2_with fail
  refine P1.out.mono ?_
  rintro e w' ⟨r, rfl, hr, rfl⟩
  have HR := Lib.hid hr
  clear hr
  go_wp2_with fail
  go_ret
  exact ⟨ret_bool (by rw [← HR.out]), rfl⟩

set_option maxHeartbeats 1000000 in
theorem in_yes (A B S : Option Addr) (n c d e : Nat) (lo hi s : List Int) (w : World) (hr : rgtB lo hi = true) (ha : Rd w A n lo) (hb : Rd w B n hi) (hs : Rd w S n s) (hin : ∀ (k : Nat) h m, hi[k]? = some h → s[k]? = some m → h ≤ m) :
    Calls Try.prog 40 #[.agg #[.slice A n c, .slice B n d], .slice S n e] w (Says w true) := by
  have h16 : n ≤ 16 := by have := (rgt_out hr).2.1; rw [ha.1] at this; omega
  have P1 := fun W h1 h2 => Lib.hid (hr ▸ right_any A B n c n d lo hi W (by unfold maxLen; omega) (by unfold maxLen; omega) h1 h2)
  have hbl := one_below w #[.slice A n c, .slice B n d] 27
  have HA := Lib.hid (ha.below hbl); have HB := Lib.hid (hb.below hbl); have HX := Lib.hid (hs.below hbl); have HBL := Lib.hid hbl
  have HK := Lib.hid (box2_new w (.slice A n c) (.slice B n d) 27)
  have HIN := Lib.hid hin
  clear ha hb hs hbl hr hin
  go_enter Try.func40, Try.ntmps40
  go_wp2_with fail
  refine (P1 _ HA.out HB.out).out.mono ?_
  rintro e w1 ⟨rfl, hb⟩
  have HB1 := Lib.hid (HB.out.below hb); have HX1 := Lib.hid (HX.out.below hb); have HW1 := Lib.hid (HBL.out.trans (hb.mono HBL.out.size))
  obtain ⟨k1, k2, _⟩ := HK.out.below hb
  clear hb HA HB HX HBL HK P1
  go_wp2_with fail
  go_loop [20] (fun i => ∃ k : Nat, k ≤ n ∧ i = .int .i64 k) (fun i => n - (intOf i).toNat)
  case atStart => exact ⟨0, Nat.zero_le _, rfl⟩
  case round =>
    obtain ⟨k, hk, rfl⟩ := hrel
    by_cases hlt : k < n
    · obtain ⟨ad2, b, rfl, hb, hc2⟩ := HB1.out.at_ hlt
      obtain ⟨ad3, x, rfl, hx, hc3⟩ := HX1.out.at_ hlt
      have hle := HIN.out k b x hb hx
      clear hb hx
      have hi1 : (k : Int) < (n : Int) := by omega
      go_wp2_with fail
      go_round
      case rel => exact ⟨k + 1, by omega, by go_num⟩
      case measure => simp [intOf]; omega
    · go_wp2_with fail
      go_ret
      exact ⟨rfl, HW1.out⟩

/-- What mark does. -/
def Marks (w : World) (B : Nat) (g M : Nat) (r : List Bool × Bool) (e : Ending) (w' : World) : Prop :=
  e = .returned (.bool r.2) ∧ OwnBl w' B (.slice (some ⟨g, 0, none⟩) M M) r.1 ∧ w.grownBy w' (some g)
theorem boxed_below {w w' : World} {b : Nat} {t : TypeId} {v : Value} (h : Boxed w b t v) (hb : Below w.heap.size w w') : Boxed w' b t v := (hb.block b h.lt).trans h
theorem dot_step {us vs : List Int} {k : Nat} {a b : Int} (ha : us[k]? = some a) (hb : vs[k]? = some b) : dotL (us.drop k) (vs.drop k) = a * b + dotL (us.drop (k + 1)) (vs.drop (k + 1)) := by
  rw [drop_at ha, drop_at hb]; rfl

set_option maxHeartbeats 8000000 in
theorem mark_any (A B S : Option Addr) (n c d e g M Bs : Nat) (lo hi ss : List Int) (bs : List Bool) (w : World) (hr : rgtB lo hi = true) (ha : Rd w A n lo) (hb : Rd w B n hi) (hA : A = none → c = 0) (hB : B = none → d = 0) (hs : Rd w S n ss) (ho : OwnBl w Bs (.slice (some ⟨g, 0, none⟩) M M) bs)
    (hss : ∀ x ∈ ss, 0 ≤ x ∧ x ≤ 65536) (hin : ∀ x ∈ rngs lo hi, 0 ≤ dotL ss x ∧ dotL ss x < M) (hM : M ≤ 65536) (hap : ∀ ad, S = some ad → ad.block ≠ g) :
    Calls Try.prog 41 #[.slice (some ⟨g, 0, none⟩) M M, .slice S n e, .agg #[.slice A n c, .slice B n d]] w (Marks w Bs g M (markL ss bs (rngs lo hi))) := by
  obtain ⟨q1, q2, q3⟩ := rgt_out hr
  obtain ⟨q4, q5⟩ := end_bound q1 q3
  have h16 : n ≤ 16 := by rw [ha.1] at q2; omega
  have hg := ho.lt
  obtain ⟨w0, hw0⟩ : ∃ w0, w0 = (((w.alloc (.cells #[.slice (some ⟨g, 0, none⟩) M M] 61)).alloc (.cells #[.slice S n e] 22)).alloc (.cells #[.slice A n c, .slice B n d] 27)).alloc (.cells #[.bool false] 4) := ⟨_, rfl⟩
  have T0 := Lib.hid (show Below w.heap.size w w0 by rw [hw0]; exact ((((Below.refl _ w).alloc (Nat.le_refl _) _).alloc (by simp) _).alloc (by simp; omega) _).alloc (by simp; omega) _)
  have HSZ := Lib.hid (show w0.heap.size = w.heap.size + 4 by rw [hw0]; simp)
  have B1 := Lib.hid (show Boxed w0 w.heap.size 61 (.slice (some ⟨g, 0, none⟩) M M) by rw [hw0]; exact (((Boxed.new w _ _).alloc _).alloc _).alloc _)
  have B2 := Lib.hid (show Boxed w0 (w.heap.size + 1) 22 (.slice S n e) by have := ((Boxed.new (w.alloc (.cells #[.slice (some ⟨g, 0, none⟩) M M] 61)) 22 (.slice S n e)).alloc (.cells #[.slice A n c, .slice B n d] 27)).alloc (.cells #[.bool false] 4); rw [World.size_alloc] at this; rw [hw0]; exact this)
  have B4 := Lib.hid (show Boxed w0 (w.heap.size + 1 + 1 + 1) 4 (.bool false) by have := Boxed.new (((w.alloc (.cells #[.slice (some ⟨g, 0, none⟩) M M] 61)).alloc (.cells #[.slice S n e] 22)).alloc (.cells #[.slice A n c, .slice B n d] 27)) 4 (.bool false); rw [World.size_alloc, World.size_alloc, World.size_alloc] at this; rw [hw0]; exact this)
  have PB := Lib.hid (between_any A B n n c d lo hi w0 (by omega) (by omega) (ha.below T0.out) (hb.below T0.out) hA hB)
  have PQ := Lib.hid (fun (v1 v2 : Value) (w' : World) b h1 h2 h3 h4 h5 => between_seq (3 - 1) b n v1 v2 lo hi w' h1 h2 h3 h4 h5 ha.1 hb.1 (by omega) (wide_of q4) (wide_of q5))
  have HS0 := Lib.hid (hs.below T0.out)
  have HO0 := Lib.hid (ho.below T0.out)
  have HG := Lib.hid hg; have HSS := Lib.hid hss; have HIN := Lib.hid hin; have HQ4 := Lib.hid q4; have HQ5 := Lib.hid q5; have HAP := Lib.hid hap; have HSL := Lib.hid hs.1; have HLL := Lib.hid q1; have HLN := Lib.hid (show lo.length = n from ha.1)
  clear hr ha hb hA hB hs ho hss hin q1 q2 q3 q4 q5 hg hap
  refine (callsIn_wide (n := 3)).1 ?_
  refine callsIn_of_wp_marks Try.func41 rfl trivial ?_ rfl
  simp only [Try.ntmps41, List.size_toArray, List.length_cons, List.length_nil, Nat.reduceAdd, Nat.reduceSub, Array.replicate_succ, Array.replicate_zero, List.push_toArray, List.append_toArray, List.nil_append, List.cons_append]
  refine wpIn_wide.2 ?_
  go_wp2_with fail
  rw [← hw0]
  clear hw0
  refine PB.out.mono ?_
  rintro e w7 ⟨v1, v2, rfl, hq1, hq2, ho1, ho2, hb⟩
  have hs3 : w0.heap.size + 2 ≤ w7.heap.size := by have := World.block_lt_of_cell? _ _ hq2; simp at this ⊢; omega
  have HSEQ := Lib.hid (PQ.out v1 v2 w7 _ hs3 hq1 hq2 ho1 ho2)
  have T7 := Lib.hid (show Below w.heap.size w w7 from T0.out.trans (hb.mono T0.out.size))
  have B71 := Lib.hid (boxed_below B1.out hb)
  have B72 := Lib.hid (boxed_below B2.out hb)
  have B74 := Lib.hid (boxed_below B4.out hb)
  have HS7 := Lib.hid (HS0.out.below hb)
  have HO7 := Lib.hid (HO0.out.below hb)
  have HSZ7 := Lib.hid hs3
  clear hs3 hq1 hq2 ho1 ho2 hb PB PQ B1 B2 B4 HS0 HO0
  have hfe := func_neq
  go_wp2_with fail
  clear hfe
  refine (wpIn_wide (n := 3)).1 ?_
  refine wpIn_iterate rfl (fun h => by cases h) (gf := 51) rfl trivial (Hand := mem.Own) (enters_of Try.func51 (by kernel_rfl) rfl) (fun _ _ _ _ _ _ h1 h2 h3 => own_put h1 h2 h3) HSEQ.out (Below.refl _ _) (Nat.le_refl _) rfl
    (fun r pre W => Chg (fun k => k = g) w7 W ∧ (∃ bk, (∀ rest, markL ss bs (pre ++ rest) = markL ss bk rest) ∧ OwnBl W Bs (.slice (some ⟨g, 0, none⟩) M M) bk) ∧ (∀ k, r = some k → w7.heap.size ≤ k))
    (fun c r pre W => c = .ret ∧ Chg (fun k => k = g ∨ k = w.heap.size + 1 + 1 + 1) w7 W ∧ (∃ bk, markL ss bs (rngs lo hi) = (bk, false) ∧ OwnBl W Bs (.slice (some ⟨g, 0, none⟩) M M) bk) ∧ Boxed W (w.heap.size + 1 + 1 + 1) 4 (.bool false) ∧ (∀ k, r = some k → w7.heap.size ≤ k)) ?hI ?hIx ?h0 ?round ?done ?stop
  case hI =>
    rintro r s A C row ⟨h1, ⟨bk, h2, h3⟩, h4⟩ hg hm
    have := T7.out.size
    exact ⟨h1.grown_new hg (fun k e => (hm k e).1), ⟨bk, h2, mild_row h3 hg hm (fun q e => by simp [Value.ownBlock] at e; subst e; intro e'; have := h4 _ e'; have := HG.out.2; omega)⟩, h4⟩
  case hIx =>
    rintro c r s A C row ⟨h0, h1, ⟨bk, h2, h3⟩, h4, h5⟩ hg hm
    have := T7.out.size
    have := HSZ.out
    have := HSZ7.out
    exact ⟨h0, h1.grown_new hg (fun k e => (hm k e).1), ⟨bk, h2, mild_row h3 hg hm (fun q e => by simp [Value.ownBlock] at e; subst e; intro e'; have := h5 _ e'; have := HG.out.2; omega)⟩, mild_boxed h4 hg hm (fun e => by have := h5 _ e; omega), h5⟩
  case h0 =>
    intro r hr
    exact ⟨Chg.refl _ _, ⟨bs, fun _ => rfl, HO7.out⟩, hr⟩
  case round =>
    rintro l r pre y v A' C' W hBl hlA hlo hr _ ⟨hch, ⟨bk, hmk, hown⟩, hrB⟩ hpre hAW hh
    have hsz := HSZ.out
    have hsz7 := HSZ7.out
    have hg2 := HG.out.2
    have hy : y ∈ rngs lo hi := by
      obtain ⟨t, ht⟩ := hpre
      rw [← ht]
      simp
    have hmem : (rngs lo hi)[pre.length]? = some y := by
      obtain ⟨t, ht⟩ := hpre
      rw [← ht]
      simp
    have hn := HIN.out y hy
    obtain ⟨o, hoN⟩ := Int.eq_ofNat_of_zero_le hn.1
    have hoM : o < M := by omega
    have hyl : y.length = n := by rw [rng_each HLL.out hmem, HLN.out]
    have hyb := ins_bound (M := 65536) (rng_next HLL.out _ y hmem).2.2 (fun z hz => by have := HQ4.out z hz; omega) (fun z hz => by have := HQ5.out z hz; omega)
    obtain ⟨P, m, rfl, hm1, hm2, _⟩ := hh.form
    have hrd := hh.rd
    have hbs := hch.boxed B71.out (by omega)
    have hb2 := hch.boxed B72.out (by omega)
    have hb4 := hch.boxed B74.out (by omega)
    have hrs : Rd W S n ss := ⟨HSL.out, fun k hk => by
      obtain ⟨ad, e, hl, hc⟩ := HS7.out.2 k hk
      exact ⟨ad, e, Nat.lt_of_lt_of_le hl hch.size, hch.cell hc (by rw [blk_add]; exact HAP.out ad e)⟩⟩
    obtain ⟨bv, hbv⟩ : ∃ bv, bk[o]? = some bv := ⟨_, List.getElem?_eq_getElem (by rw [hown.len]; exact hoM)⟩
    have hcg := hown.cellAt hbv
    have hfg := hown.frozenAt o
    have hc3 := hbs.cell
    have hc4 := hb2.cell
    have hc6 := hb4.cell
    have hf6 := hb4.frozen
    rw [hyl] at hrd
    have HRY := Lib.hid hrd; have HRS := Lib.hid hrs; have HYB := Lib.hid hyb; have HDO := Lib.hid hoN
    have HOW := Lib.hid hown; have HMK := Lib.hid hmk; have HCH := Lib.hid hch; have HB4 := Lib.hid hb4; have HRB := Lib.hid hrB; have HR := Lib.hid hr; have HAW := Lib.hid hAW; have HBV := Lib.hid hbv; have HPRE := Lib.hid hpre
    simp only [hyl]
    have HYL := Lib.hid hyl
    clear hy hmem hn hoN hyl hyb hrd hbs hb2 hb4 hrs hown hmk hch hrB hr hAW hbv hpre hlo hh hm1 hm2 hsz hsz7 hg2
    gi_wp2_with fail
    refine ⟨trivial, ?_⟩
    gi_wp2_with fail
    gi_loopw [8, 19] (fun t i wr => ∃ k : Nat, k ≤ n ∧ i = .int .i64 k ∧ ∃ z : Int, t = .int .i64 z ∧ wr = W ∧ -4294967296 * (k : Int) ≤ z ∧ z ≤ 4294967296 * (k : Int) ∧ Hid (z + dotL (ss.drop k) (y.drop k) = dotL ss y)) (fun _ i _ => n - (intOf i).toNat)
    case atStart => exact ⟨0, Nat.zero_le _, rfl, 0, rfl, rfl, by omega, by omega, Lib.hid (by simp)⟩
    case round =>
      obtain ⟨k, hk, rfl, z, rfl, rfl, hz1, hz2, Hz⟩ := hrel
      by_cases hlt : k < n
      · obtain ⟨ad1, a, rfl, hka, hc1⟩ := HRS.out.at_ hlt
        obtain ⟨ad2, b, rfl, hkb, hc2⟩ := HRY.out.at_ hlt
        have hab := HSS.out a (mem_at hka)
        have hbb := HYB.out b (mem_at hkb)
        have HST := Lib.hid (dot_step hka hkb)
        have hp : -4294967296 ≤ a * b ∧ a * b ≤ 4294967296 := by
          have h1 := Int.mul_le_mul_of_nonneg_left hbb.2 hab.1
          have h2 := Int.mul_le_mul_of_nonneg_left hbb.1 hab.1
          omega
        have hp1 := hp.1
        have hp2 := hp.2
        have hi1 : (k : Int) < (n : Int) := by omega
        clear hka hkb hab hbb hp
        gi_wp2_with fail
        go_roundw
        case rel => exact ⟨k + 1, by omega, by go_num, _, rfl, by trivial, by push_cast; omega, by push_cast; omega, Lib.hid (by rw [← Hz.out, HST.out, Int.add_assoc])⟩
        case measure => first | (simp [intOf]; done) | (simp [intOf]; omega)
      · have hzo : z = (o : Int) := by
          have := Hz.out
          rw [List.drop_of_length_le (by rw [HSL.out]; omega)] at this
          have h2 := HDO.out
          simp only [dotL] at this
          omega
        subst hzo
        clear Hz hz1 hz2
        have hi1 : (o : Int) < (M : Int) := by omega
        have HSTEP := Lib.hid (fun rest => HMK.out (y :: rest))
        have hset := HOW.out.set_ o true
        have hch2 := (Chg.refl (fun k => k = g) wr).set (p := ⟨g, o, none⟩) (.bool true) rfl
        have HSET := Lib.hid hset; have HCH2 := Lib.hid hch2
        have HCH3 := Lib.hid (HCH.out.set (p := ⟨g, o, none⟩) (.bool true) rfl)
        have HCH4 := Lib.hid (show Chg (fun k => k = g ∨ k = w.heap.size + 1 + 1 + 1) w7 (wr.setCell ⟨w.heap.size + 1 + 1 + 1, 0, none⟩ (.bool false)) from Chg.set ⟨HCH.out.os, HCH.out.tape, HCH.out.output, HCH.out.size, fun q hq hn => HCH.out.block q hq (fun e => hn (.inl e))⟩ (p := ⟨w.heap.size + 1 + 1 + 1, 0, none⟩) (.bool false) (.inr rfl))
        have HB44 := Lib.hid (HB4.out.set (.bool false))
        clear hset hch2
        cases bv
        · gi_wp2_with fail
          have hs1 := HSZ.out
          have hs7 := HSZ7.out
          have hg2 := HG.out.2
          refine ⟨HCH2.out.keeps (fun k e => .inl (by have := T7.out.size; omega)), HCH2.out.spares (Nat.le_trans (by omega) HAW.out.size) (fun k e => Nat.lt_of_lt_of_le (HR.out k e).2 HAW.out.size) (fun k e => ⟨by omega, fun e' => by have := HRB.out _ e'; omega⟩), HCH3.out, ⟨_, fun rest => ?_, HSET.out⟩, HRB.out⟩
          rw [List.append_assoc]
          show markL ss bs (pre ++ (y :: rest)) = _
          rw [HMK.out]
          simp only [markL, HDO.out]
          rw [if_neg (by simp [HBV.out])]
          simp
        · gi_wp2_with fail
          have hs1 := HSZ.out
          have hs7 := HSZ7.out
          have hg2 := HG.out.2
          show KeepsFrom _ _ _ ∧ (_ ∧ _)
          refine ⟨((Chg.refl (fun k => k = w.heap.size + 1 + 1 + 1) wr).set (p := ⟨w.heap.size + 1 + 1 + 1, 0, none⟩) (.bool false) rfl).keeps (fun k e => .inl (by omega)), by trivial, HCH4.out, ⟨bk, ?_, HOW.out.chg ((Chg.refl (fun k => k = w.heap.size + 1 + 1 + 1) wr).set (p := ⟨w.heap.size + 1 + 1 + 1, 0, none⟩) (.bool false) rfl) (by omega)⟩, HB44.out, HRB.out⟩
          obtain ⟨t, ht⟩ := HPRE.out
          rw [← ht, List.append_assoc, List.singleton_append, HMK.out]
          simp only [markL, HDO.out]
          rw [if_pos (by simp [HBV.out])]
  case done =>
    rintro D r W hD ⟨hch, ⟨bk, hmk, hown⟩, hrB⟩ hK
    have hs1 := HSZ.out
    have hs7 := HSZ7.out
    have hg2 := HG.out.2
    have hb4 := hch.boxed B74.out (by omega)
    have hc6 := hb4.cell
    have hf6 := hb4.frozen
    have HMK := Lib.hid (show markL ss bs (rngs lo hi) = (bk, true) by have := hmk []; rw [List.append_nil] at this; exact this)
    have HCH := Lib.hid hch; have HOW := Lib.hid hown; have HB4 := Lib.hid hb4; have HK := Lib.hid hK
    clear hch hmk hown hrB hK hb4 hs1 hs7 hg2
    go_wp2_with fail
    obtain ⟨W2, hW2⟩ : ∃ W2, W2 = W.setCell ⟨w.heap.size + 1 + 1 + 1, 0, none⟩ (.bool true) := ⟨_, rfl⟩
    rw [← hW2]
    have hs1 := HSZ.out
    have hs7 := HSZ7.out
    have hg2 := HG.out.2
    have hk2 : W2.heap[D]? = some (.deferred (some [])) := by rw [hW2]; exact (Below.heap_setCell W ⟨w.heap.size + 1 + 1 + 1, 0, none⟩ (.bool true) D (by show D ≠ w.heap.size + 1 + 1 + 1; omega)).trans HK.out
    have hb2 : Boxed W2 (w.heap.size + 1 + 1 + 1) 4 (.bool true) := by rw [hW2]; exact HB4.out.set _
    have hcell : (W2.putObj D (.deferred none)).cell? ⟨w.heap.size + 1 + 1 + 1, 0, none⟩ = some (.bool true) := cell_kept hb2.cell (grownBy_putObj' _ D (.deferred none)) (fun r e => by cases e; exact ⟨_, hk2, rfl⟩)
    have hch2 : Chg (fun k => k = g ∨ k = w.heap.size + 1 + 1 + 1 ∨ k = D) w7 (W2.putObj D (.deferred none)) := by
      rw [hW2]
      exact Chg.grown (Chg.set ⟨HCH.out.os, HCH.out.tape, HCH.out.output, HCH.out.size, fun q hq hn => HCH.out.block q hq (fun e => hn (.inl e))⟩ (p := ⟨w.heap.size + 1 + 1 + 1, 0, none⟩) (.bool true) (.inr (.inl rfl))) (grownBy_putObj' _ D _) (fun k e => by cases e; exact .inr (.inr rfl))
    have hfin : Marks w Bs g M (bk, true) (.returned (.bool true)) (W2.putObj D (.deferred none)) := by
      refine ⟨rfl, ?_, hch2.os.trans T7.out.os, hch2.tape.trans T7.out.tape, hch2.output.trans T7.out.output, Nat.le_trans T7.out.size hch2.size, fun k hk hn => (hch2.block k (Nat.lt_of_lt_of_le hk T7.out.size) (fun e => ?_)).trans (T7.out.block k hk)⟩
      · rw [hW2]
        exact (HOW.out.chg ((Chg.refl (fun k => k = w.heap.size + 1 + 1 + 1) W).set (p := ⟨w.heap.size + 1 + 1 + 1, 0, none⟩) (.bool true) rfl) (by omega)).chg (S := fun k => k = D) ((Chg.refl _ _).grown (grownBy_putObj' _ D _) (fun k e => by cases e; rfl)) (by show ¬ g = D; omega)
      · rcases e with rfl | rfl | rfl
        · exact hn rfl
        · omega
        · have := T7.out.size; omega
    rw [HMK.out]
    refine ⟨by simp, .inl ⟨_, _, rfl, run_takeDeferred hk2, ?_⟩⟩
    exact ⟨_, by simp [results, Try.results41, go_sem, hcell], hfin⟩
  case stop =>
    rintro D c r pre W hD hpre ⟨rfl, hch, ⟨bk, hmk, hown⟩, hb4, hrB⟩ hK
    have HMK := Lib.hid hmk
    have HCH := Lib.hid hch; have HOW := Lib.hid hown; have HB4 := Lib.hid hb4; have HK := Lib.hid hK
    clear hch hmk hown hrB hK hb4
    refine wpIn_wide.2 ?_
    go_wp2_with fail
    have hs1 := HSZ.out
    have hs7 := HSZ7.out
    have hg2 := HG.out.2
    have hk2 := HK.out
    have hcell : (W.putObj D (.deferred none)).cell? ⟨w.heap.size + 1 + 1 + 1, 0, none⟩ = some (.bool false) := cell_kept HB4.out.cell (grownBy_putObj' _ D (.deferred none)) (fun r e => by cases e; exact ⟨_, hk2, rfl⟩)
    have hch2 : Chg (fun k => k = g ∨ k = w.heap.size + 1 + 1 + 1 ∨ k = D) w7 (W.putObj D (.deferred none)) :=
      Chg.grown (A := w7) ⟨HCH.out.os, HCH.out.tape, HCH.out.output, HCH.out.size, fun q hq hn => HCH.out.block q hq (fun e => hn (by rcases e with e | e; exact .inl e; exact .inr (.inl e)))⟩ (grownBy_putObj' _ D _) (fun k e => by cases e; exact .inr (.inr rfl))
    have hfin : Marks w Bs g M (bk, false) (.returned (.bool false)) (W.putObj D (.deferred none)) := by
      refine ⟨rfl, ?_, hch2.os.trans T7.out.os, hch2.tape.trans T7.out.tape, hch2.output.trans T7.out.output, Nat.le_trans T7.out.size hch2.size, fun k hk hn => (hch2.block k (Nat.lt_of_lt_of_le hk T7.out.size) (fun e => ?_)).trans (T7.out.block k hk)⟩
      · exact HOW.out.chg (S := fun k => k = D) ((Chg.refl _ _).grown (grownBy_putObj' _ D _) (fun k e => by cases e; rfl)) (by show ¬ g = D; omega)
      · rcases e with rfl | rfl | rfl
        · exact hn rfl
        · omega
        · have := T7.out.size; omega
    rw [HMK.out]
    refine ⟨by simp, .inl ⟨_, _, rfl, run_takeDeferred hk2, ?_⟩⟩
    exact ⟨_, by simp [results, Try.results41, go_sem, hcell], hfin⟩

theorem bool_info : (Try.prog.info? 4).map (fun i => (i.zero, i.size, i.bytes)) = some (some (.bool false), 1, 1) := by kernel_rfl
theorem OwnBl.le {w : World} {B B' : Nat} {v : Value} {bs : List Bool} (h : OwnBl w B v bs) (hb : B' ≤ B) : OwnBl w B' v bs := Go.Joins.ownsRow_le h hb
/-- make([]bool, n) as a step of a region that draws its order. -/
theorem step_zerosB {w : World} {ops : Array Oper} {o : Oper} {a : Act} {K : Act → World → Prop} {Q : Exit → Act → World → Prop} {E : Prop} (hgd : o.guard = none) (l c : Operand) (ho : o.op = Op.makeSlice 61 l c)
    (n : Nat) (hl : a.eval l = .int .i64 (n : Int)) (hc : a.eval c = .int .i64 (n : Int)) (h40 : n ≤ 1099511627776)
    (h : ∀ w', OwnBl w' w.heap.size (.slice (some ⟨w.heap.size, 0, none⟩) n n) (List.replicate n false) → Below w.heap.size w w' → K (a.put o.dst (.slice (some ⟨w.heap.size, 0, none⟩) n n)) w') :
    if Region.wanted o (yielded ops a.tmps) = true then Oper.wp Try.prog o a w K Q else E := by
  have hw : Region.wanted o (yielded ops a.tmps) = true := by simp [Region.wanted, hgd]
  rw [if_pos hw]
  obtain ⟨i0, hi0, hz0, hz1, hz2⟩ := info_parts bool_info
  obtain ⟨w', hrun, r1, r2⟩ := run_make_full (P := Try.prog) w w.heap.size 61 4 i0 _ 1 Try.underlying61 hi0 hz0 hz1 .i64 .i64 n (by rw [hz2]; omega) (by unfold maxLen; omega) (Nat.le_refl _)
  unfold Oper.wp
  simp [execOp, ho, hl, hc, hrun, Result.andThen]
  refine h w' ?_ ((Below.refl _ _).grown r2 (Nat.le_refl _) (fun k hk => by cases hk))
  unfold OwnBl
  rw [List.length_replicate, List.map_replicate, ← toList_madeCells_one]
  have e : Value.cells (.bool false) = #[.bool false] := rfl
  rw [e] at r1
  simpa using r1
theorem el_some {w : World} {g : Nat} {u : Value} {xs : List Int} (h : El w none u xs) (hg : w.heap.size ≤ g) : El w (some g) u xs := by
  obtain ⟨A, c, e, e1, e2, e3, e4⟩ := h
  exact ⟨A, c, e, e1, e2, e3, fun j hj => by obtain ⟨ad, q1, q2, q3, q4⟩ := e4 j hj; exact ⟨ad, q1, q2, fun e => by injection e with e; omega, q4⟩⟩
theorem RdXs.some_ {w : World} {g Bl : Nat} {A : Option Addr} {n : Nat} {L : List Bx} (h : RdXs w none Bl A n L) (hg : w.heap.size ≤ g) : RdXs w (some g) Bl A n L :=
  ⟨h.1, fun k p hk => by
    obtain ⟨ad, u, v, ha, hl, hn, hc, hd, e1, e2, e3⟩ := h.2 k p hk
    exact ⟨ad, u, v, ha, hl, fun e => by injection e with e; omega, hc, hd, el_some e1 hg, el_some e2 hg, e3⟩⟩

set_option maxHeartbeats 8000000 in
theorem exact_any (A S : Option Addr) (n c m d M Bl : Nat) (s : List Int) (L : List Bx) (w : World) (hs : Rd w S n s) (hl : RdXs w none Bl A m L) (hn : n ≤ 16) (hn1 : 1 ≤ n) (hm : m ≤ 1048576) (hchk : chkE s = 0) (hcel : celN s = (M : Int)) (hss : ∀ x ∈ strL s, 0 ≤ x ∧ x ≤ 65536) (hsl : (strL s).length = n)
    (hr : ∀ p ∈ L, rgtB p.1 p.2 = true ∧ p.1.length = n ∧ (∀ (k : Nat) h m, p.2[k]? = some h → s[k]? = some m → h ≤ m) ∧ ∀ x ∈ rngs p.1 p.2, 0 ≤ dotL (strL s) x ∧ dotL (strL s) x < M) :
    Calls Try.prog 23 #[.slice S n c, .slice A m d] w (Says w (exL (strL s) (List.replicate M false) L)) := by
  have hM : M ≤ 65536 := by have := cel_range s; omega
  have P1 := fun W h => Lib.hid (hchk ▸ check_any S n c s W (by unfold maxLen; omega) h)
  have P2 := fun W h => Lib.hid (hcel ▸ cells_any S n c s W (by unfold maxLen; omega) h)
  have P3 := fun W h => Lib.hid (strides_any S n c s W (by unfold maxLen; omega) h)
  obtain ⟨r, hrr⟩ : ∃ r, r = exL (strL s) (List.replicate M false) L := ⟨_, rfl⟩
  rw [← hrr]
  have HRR := Lib.hid hrr
  have HS1 := Lib.hid hs; have HL := Lib.hid hl; have HR := Lib.hid hr; have HSS := Lib.hid hss; have HSL := Lib.hid hsl
  obtain ⟨w1, rfl⟩ : ∃ w1, w1 = w := ⟨_, rfl⟩
  have HSB := Lib.hid (show ∀ ad, S = some ad → ad.block < w1.heap.size from fun ad e => by obtain ⟨ad', e', h', _⟩ := hs.2 0 (by omega); rw [e] at e'; injection e' with e'; subst e'; exact h')
  clear hs hl hr hss hsl hchk hcel hrr
  go_enter Try.func23, Try.ntmps23
  go_wp2_with fail
  refine (P1 _ HS1.out).out.mono ?_
  rintro e w2 ⟨rfl, rfl⟩
  go_wp2_with fail
  refine wp_region_noPanic ?_
  refine wp_region_held_drew (S := fun _ => True) (by kernel_rfl) trivial (fun hHeld => ?_)
  refine wpAnyH_take (i := 0) (oi := ⟨some 12, _, _, _, _, _⟩) (v := ?_) rfl (by kernel_rfl) (by kernel_rfl) (by kernel_rfl) (fun _ _ _ h => h) (Or.inl ⟨by rfl, ?_⟩) (by assumption) ?_
  rotate_left
  · (intro w hSw; (try dsimp only at hSw); first | (go_simp; done) | (go_simp; with_reducible rfl))
  try simp only [Act.put, List.setIfInBounds_toArray, List.set_cons_zero, List.set_cons_succ]
  refine wpAnyH_take (i := 3) (oi := ⟨some 15, _, _, _, _, _⟩) (v := ?_) rfl (by kernel_rfl) (by kernel_rfl) (by kernel_rfl) (fun _ _ _ h => h) (Or.inl ⟨by rfl, ?_⟩) (by assumption) ?_
  rotate_left
  · (intro w hSw; (try dsimp only at hSw); first | (go_simp; done) | (go_simp; with_reducible rfl))
  try simp only [Act.put, List.setIfInBounds_toArray, List.set_cons_zero, List.set_cons_succ]
  refine wpAnyH_ready (rs := [1]) (by kernel_rfl) (by simp) ?_
  refine (AllReadyH.cons (o := ⟨some 13, _, _, _, _, _⟩) rfl (fun K hK => ?_) AllReadyH.nil)
  go_simp
  go_at_call 38
  refine (P2 _ (HS1.out.below (Below.drew (Below.refl _ _)))).out.mono ?_
  rintro e w2 ⟨rfl, rfl⟩
  refine hK.out _ _ ?_ (fun hHeld => ?_)
  · trivial
  clear hK K
  try simp only [Act.put, List.setIfInBounds_toArray, List.set_cons_zero, List.set_cons_succ]
  refine wpAnyH_ready (rs := [2, 4]) (by kernel_rfl) (by simp) ?_
  refine (AllReadyH.cons (o := ⟨some 14, _, _, _, _, _⟩) rfl (fun K hK => ?_) (AllReadyH.cons (o := ⟨some 16, _, _, _, _, _⟩) rfl (fun K hK => ?_) AllReadyH.nil))
  refine step_zerosB (by rfl) _ _ (by rfl) M (by rfl) (by rfl) (by omega) ?_
  intro w4 ho4 hb4
  have HO4 := Lib.hid ho4; have HB4 := Lib.hid hb4
  refine hK.out _ _ ?_ (fun hHeld => ?_)
  · trivial
  clear hK K
  try simp only [Act.put, List.setIfInBounds_toArray, List.set_cons_zero, List.set_cons_succ]
  refine wpAnyH_ready (rs := [4]) (by kernel_rfl) (by simp) ?_
  refine (AllReadyH.cons (o := ⟨some 16, _, _, _, _, _⟩) rfl (fun K hK => ?_) AllReadyH.nil)
  go_simp
  go_at_call 39
  refine (P3 _ ((HS1.out.below (Below.drew (Below.refl _ _))).below HB4.out)).out.mono ?_
  intro e wz hm
  obtain ⟨X, x, rfl, ho5, hb5, _, _, _⟩ := hm.out
  clear hm
  have HG := Lib.hid (show ∃ g, (some ⟨w1.drew.heap.size, 0, none⟩ : Option Addr) = some ⟨g, 0, none⟩ ∧ w1.heap.size ≤ g ∧ OwnBl wz w1.heap.size (.slice (some ⟨g, 0, none⟩) M M) (List.replicate M false) ∧ Rd wz X (strL s).length (strL s) ∧ (∀ ad, X = some ad → (strL s).length ≠ 0 → ad.block ≠ g) ∧ Below w1.heap.size w1 wz from ⟨_, rfl, Nat.le_refl _, HO4.out.below hb5, ho5.rd, fun ad e h0 => by have h1 := (World.ownsRow.lt ho5 ad.block (by rw [e]; rfl)).1; have h2 := HO4.out.lt.2; omega, (show Below w1.heap.size w1 w4 from (Below.drew (Below.refl w1.heap.size w1)).trans HB4.out).trans (hb5.mono (show w1.heap.size ≤ w4.heap.size from HB4.out.size))⟩)
  clear ho5 hb5
  refine hK.out _ _ ?_ (fun hHeld => ?_)
  · trivial
  clear hK K
  try simp only [Act.put, List.setIfInBounds_toArray, List.set_cons_zero, List.set_cons_succ]
  rotate_left
  go_simp
  go_at_call 39
  refine (P3 _ (HS1.out.below (Below.drew (Below.refl _ _)))).out.mono ?_
  intro e w5 hm
  obtain ⟨X, x, rfl, ho5, hb5, _, _, _⟩ := hm.out
  clear hm
  have HO5 := Lib.hid ho5; have HB5 := Lib.hid hb5
  clear ho5 hb5
  refine hK.out _ _ ?_ (fun hHeld => ?_)
  · trivial
  clear hK K
  try simp only [Act.put, List.setIfInBounds_toArray, List.set_cons_zero, List.set_cons_succ]
  refine wpAnyH_ready (rs := [2]) (by kernel_rfl) (by simp) ?_
  refine (AllReadyH.cons (o := ⟨some 14, _, _, _, _, _⟩) rfl (fun K hK => ?_) AllReadyH.nil)
  refine step_zerosB (by rfl) _ _ (by rfl) M (by rfl) (by rfl) (by omega) ?_
  intro wz ho4 hb4
  have HG := Lib.hid (show ∃ g, (some ⟨w5.heap.size, 0, none⟩ : Option Addr) = some ⟨g, 0, none⟩ ∧ w1.heap.size ≤ g ∧ OwnBl wz w1.heap.size (.slice (some ⟨g, 0, none⟩) M M) (List.replicate M false) ∧ Rd wz X (strL s).length (strL s) ∧ (∀ ad, X = some ad → (strL s).length ≠ 0 → ad.block ≠ g) ∧ Below w1.heap.size w1 wz from ⟨_, rfl, HB5.out.size, ho4.le HB5.out.size, (HO5.out.below hb4).rd, fun ad e h0 => by have h1 := (World.ownsRow.lt HO5.out ad.block (by rw [e]; rfl)).2; omega, (show Below w1.heap.size w1 w5 from (Below.drew (Below.refl w1.heap.size w1)).trans HB5.out).trans (hb4.mono (show w1.heap.size ≤ w5.heap.size from HB5.out.size))⟩)
  clear ho4 hb4
  refine hK.out _ _ ?_ (fun hHeld => ?_)
  · trivial
  clear hK K
  try simp only [Act.put, List.setIfInBounds_toArray, List.set_cons_zero, List.set_cons_succ]
  all_goals
    refine wpAnyH_take (i := 5) (oi := ⟨some 5, _, _, _, _, _⟩) (v := ?_) rfl (by kernel_rfl) (by kernel_rfl) (by kernel_rfl) (fun _ _ _ h => h) (Or.inl ⟨by rfl, ?_⟩) (by assumption) ?_
    rotate_left
    · (intro w hSw; (try dsimp only at hSw); first | (go_simp; done) | (go_simp; with_reducible rfl))
    try simp only [Act.put, List.setIfInBounds_toArray, List.set_cons_zero, List.set_cons_succ]
    refine wpAnyH_take (i := 6) (oi := ⟨some 6, _, _, _, _, _⟩) (v := ?_) rfl (by kernel_rfl) (by kernel_rfl) (by kernel_rfl) (fun _ _ _ h => h) (Or.inl ⟨by rfl, ?_⟩) (by assumption) ?_
    rotate_left
    · (intro w hSw; (try dsimp only at hSw); first | (go_simp; done) | (go_simp; with_reducible rfl))
    try simp only [Act.put, List.setIfInBounds_toArray, List.set_cons_zero, List.set_cons_succ]
    refine wpAnyH_done (by kernel_rfl) ?_ _
    refine NoPanic.normal ?_
  all_goals
    obtain ⟨g, hg, hge, hO, hX, hap, hB⟩ := HG.out
    injection hg with hg
    injection hg with hg
    have hg1 : w1.drew.heap.size = w1.heap.size := rfl
    first
      | (rw [hg1] at hg; rw [hg])
      | rw [hg]
    clear hg hg1
    rw [HSL.out] at hX hap
    have HLZ := Lib.hid ((HL.out.some_ (g := g) hge).below hB)
    have HO := Lib.hid hO; have HX := Lib.hid hX; have HB := Lib.hid hB; have HGE := Lib.hid hge
    have HAP := Lib.hid (fun ad e => hap ad e (by omega))
    have HST := Lib.hid (show r = exL (strL s) (List.replicate M false) (L.drop 0) by rw [List.drop_zero]; exact HRR.out)
    have HSX := Lib.hid (show Rd wz S n s from HS1.out.below hB)
    clear HG hge hO hX hap hB
    rw [HSL.out]
    go_wp2_with fail
    go_loopw [19] (fun i wr => ∃ k : Nat, k ≤ m ∧ i = .int .i64 k ∧ ∃ bk, Hid (r = exL (strL s) bk (L.drop k)) ∧ Hid (OwnBl wr w1.heap.size (.slice (some ⟨g, 0, none⟩) M M) bk) ∧ Hid (wz.grownBy wr (some g))) (fun i _ => m - (intOf i).toNat)
    case atStart => exact ⟨0, Nat.zero_le _, rfl, _, HST, HO, Lib.hid (World.grownBy.refl _ _)⟩
    case round =>
      obtain ⟨k, hk, rfl, bk, HE, HOB, HG⟩ := hrel
      by_cases hlt : k < m
      · obtain ⟨p, hp⟩ : ∃ p, L[k]? = some p := ⟨_, List.getElem?_eq_getElem (by rw [HL.out.1]; exact hlt)⟩
        obtain ⟨ad, P, l1, c1, Q, l2, c2, rfl, hal, hc1, hd2, hr1, hr2, hm1, hm2, hz1, hz2⟩ := (HLZ.out.grown HG.out (.inl rfl)).at_ hp
        obtain ⟨hrt, hpl, hin, hdt⟩ := HR.out p (mem_at hp)
        obtain ⟨q1, q2, q3⟩ := rgt_out hrt
        obtain rfl : l1 = n := by rw [← hr1.1, hpl]
        obtain rfl : l2 = l1 := by rw [← hr2.1, ← q1, hpl]
        have hc2' := cell_one hd2
        have hbx := one_below wr #[.slice P l2 c1, .slice Q l2 c2] 27
        have hsw : Rd wr S l2 s := rd_grown HSX.out HG.out (fun a e => by
          have h1 := HSB.out a e
          have h2 := HGE.out
          intro e'; injection e' with e'; omega)
        have hxw : Rd wr X l2 (strL s) := rd_grown HX.out HG.out (fun a e => by
          have h1 := HAP.out a e
          intro e'; injection e' with e'; exact h1 e')
        have PI := Lib.hid (in_yes P Q S l2 c1 c2 c p.1 p.2 s _ hrt (hr1.below hbx) (hr2.below hbx) (hsw.below hbx) hin)
        have PM := Lib.hid (show ∀ V, Below (wr.alloc (.cells #[.slice P l2 c1, .slice Q l2 c2] 27)).heap.size (wr.alloc (.cells #[.slice P l2 c1, .slice Q l2 c2] 27)) V → Hid (Calls Try.prog 41 #[.slice (some ⟨g, 0, none⟩) M M, .slice X l2 x, .agg #[.slice P l2 c1, .slice Q l2 c2]] V (Marks V w1.heap.size g M (markL (strL s) bk (rngs p.1 p.2)))) from fun V hb =>
          Lib.hid (mark_any P Q X l2 c1 c2 x g M w1.heap.size p.1 p.2 (strL s) bk V hrt ((hr1.below hbx).below hb) ((hr2.below hbx).below hb) hz1 hz2 ((hxw.below hbx).below hb) ((HOB.out.below hbx).below hb) HSS.out hdt hM HAP.out))
        have HK := Lib.hid (box2_new wr (.slice P l2 c1) (.slice Q l2 c2) 27)
        have HBX := Lib.hid hbx
        have HLP := Lib.hid (show L.drop k = p :: L.drop (k + 1) from drop_at hp)
        obtain ⟨res, hres⟩ : ∃ res, res = markL (strL s) bk (rngs p.1 p.2) := ⟨_, rfl⟩
        rw [← hres] at PM
        obtain ⟨b2, ok⟩ := res
        have HRES := Lib.hid hres
        have hi1 : (k : Int) < (m : Int) := by omega
        clear hp hd2 hr1 hr2 hrt hpl hin hdt q1 q2 q3 hz1 hz2 hbx hsw hxw hres
        go_wp2_with fail
        refine PI.out.mono ?_
        rintro e V1 ⟨rfl, hb1⟩
        have PM1 := PM.out V1 hb1
        obtain ⟨j1, j2, _⟩ := HK.out.below hb1
        have HV1 := Lib.hid hb1
        clear hb1 hc1 hc2' PI
        go_wp2_with fail
        refine PM1.out.mono ?_
        rintro e V2 ⟨rfl, hO2, hG2⟩
        have HO2 := Lib.hid hO2
        have HG2 := Lib.hid (show wz.grownBy V2 (some g) from grown_two (grown_later (grown_later HG.out HBX.out) HV1.out) hG2 (.inl rfl))
        clear hO2 hG2 j1 j2 PM1
        cases ok
        · have HF := Lib.hid (show r = false by rw [HE.out, HLP.out]; simp only [exL, ← HRES.out]; simp)
          go_wp2_with fail
          go_ret
          exact ⟨ret_bool HF.out.symm, HB.out.grown HG2.out HB.out.size (fun q e => by injection e with e; rw [← e]; exact HGE.out)⟩
        · have HE2 := Lib.hid (show r = exL (strL s) b2 (L.drop (k + 1)) by rw [HE.out, HLP.out]; simp only [exL, ← HRES.out]; simp)
          go_wp2_with fail
          go_roundw
          case rel => exact ⟨k + 1, by omega, by go_num, b2, HE2, HO2, HG2⟩
          case measure => first | (simp [intOf]; done) | (simp [intOf]; omega)
      · obtain rfl : k = m := by omega
        have HF := Lib.hid (show r = bk.all id by rw [HE.out, List.drop_of_length_le (by rw [HL.out.1]; omega)]; rfl)
        have PC := Lib.hid (contains_bool g M M bk wr w1.heap.size hM HOB.out)
        rw [← HF.out] at PC
        go_wp2_with fail
        refine PC.out.mono ?_
        rintro e V2 ⟨rfl, rfl⟩
        go_wp2_with fail
        go_ret
        exact ⟨ret_bool (by simp), HB.out.grown HG.out HB.out.size (fun q e => by injection e with e; rw [← e]; exact HGE.out)⟩
end Go.Proofs.Ytaegkiangjnmdaa.bx
