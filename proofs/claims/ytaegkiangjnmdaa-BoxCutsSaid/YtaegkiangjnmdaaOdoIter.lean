/- The iterator of package odometer has its contract: the indices of its range in lexicographic order, each in memory of its own. -/
import Derived.Test.YtaegkiangjnmdaaOdoCalls
import Derived.Test.YtaegkiangjnmdaaIter
import Derived.Deep.LoopGhost
namespace Go.Proofs.Ytaegkiangjnmdaa.odo
open Go.ChangeShapes Go.WideShapes Go.ChangeAt Go.RowKit Go.Proofs.Ytaegkiangjnmdaa.mem Go.Proofs.Ytaegkiangjnmdaa.prod Go.Proofs.Ytaegkiangjnmdaa.shp Go.Proofs.Ytaegkiangjnmdaa.strd Go.Proofs.Ytaegkiangjnmdaa.gam Go.Proofs.Ytaegkiangjnmdaa.sml Go.Proofs.Ytaegkiangjnmdaa.all Go.Proofs.Ytaegkiangjnmdaa.iter
set_option linter.unusedVariables false
attribute [local go_sem] Oper.semAt_some

theorem own_put {W W' : World} {B : Nat} {v : Value} {x : List Int} {l : Nat} (h : mem.Own W B v x) (hg : W.grownBy W' (some l)) (hl : l < B) : mem.Own W' B v x :=
  World.ownsRow.kept (row := some l) h hg (by
    cases hv : v.ownBlock with
    | none => exact .inl rfl
    | some k => have := (World.ownsRow.lt h k hv).1; exact .inr (by simp; omega))
theorem rd_kept {W W' : World} {A : Option Addr} {n : Nat} {xs : List Int} (h : Rd W A n xs) (hs : W.heap.size ≤ W'.heap.size) (ha : ∀ ad, A = some ad → W'.heap[ad.block]? = W.heap[ad.block]?) : Rd W' A n xs :=
  ⟨h.1, fun k hk => by
    obtain ⟨ad, e, hl, hc⟩ := h.2 k hk
    exact ⟨ad, e, Nat.lt_of_lt_of_le hl hs, (World.cell?_of_block (by rw [blk_add]; exact ha ad e)).trans hc⟩⟩
/-- What lies in the iterator's blocks lies as it lay. -/
structure Kept (Bi Be : Nat) (W wr : World) : Prop where
  size : W.heap.size ≤ wr.heap.size
  same : ∀ k, Bi ≤ k → k < Be → wr.heap[k]? = W.heap[k]?
theorem Kept.refl (Bi Be : Nat) (W : World) : Kept Bi Be W W := ⟨Nat.le_refl _, fun _ _ _ => rfl⟩
theorem Kept.below {Bi Be : Nat} {W a b : World} (h : Kept Bi Be W a) (hb : Below a.heap.size a b) (hBe : Be ≤ W.heap.size) : Kept Bi Be W b :=
  ⟨Nat.le_trans h.size hb.size, fun k h1 h2 => (hb.block k (by have := h.size; omega)).trans (h.same k h1 h2)⟩
theorem Kept.spares {Bi Be : Nat} {r : Option Nat} {W a b : World} (h : Kept Bi Be W a) (hs : Spares Bi Be r a b) : Kept Bi Be W b :=
  ⟨Nat.le_trans h.size hs.size, fun k h1 h2 => (hs.kept k h1 h2).trans (h.same k h1 h2)⟩
theorem Kept.grown {Bi Be : Nat} {row : Option Nat} {W a b : World} (h : Kept Bi Be W a) (hg : a.grownBy b row) (hBe : Be ≤ W.heap.size) (hr : ∀ k, row = some k → Be ≤ k) : Kept Bi Be W b :=
  ⟨Nat.le_trans h.size hg.size, fun k h1 h2 => (hg.block k (by have := h.size; omega) (fun e => by have := hr k e.symm; omega)).trans (h.same k h1 h2)⟩

/-- How the iterator stands at the head of a round: cnt indices are to come. -/
def AtHead (L : List (List Int)) (r : Option Nat) (J : Option Nat → List (List Int) → World → Prop) (Bi Be : Nat) (W : World) (v : Value) (more : Value) (wr : World) (cnt : Nat) : Prop :=
  ∃ pre rest, L = pre ++ rest ∧ rest.length = cnt ∧ more = .bool (!rest.isEmpty) ∧ J r pre wr ∧ Kept Bi Be W wr ∧ ∀ x t, rest = x :: t → mem.Own wr W.heap.size v x

theorem own_kept {a b : World} {B : Nat} {v : Value} {x : List Int} (h : mem.Own a B v x) (hs : a.heap.size ≤ b.heap.size) (hk : ∀ k, v.ownBlock = some k → b.heap[k]? = a.heap[k]?) : mem.Own b B v x := by
  refine ⟨h.1, ?_⟩
  rcases h.2 with e | ⟨g, cap, cur, rfl, hb, hg, rest⟩
  · exact .inl e
  · exact .inr ⟨g, cap, cur, rfl, hb, (hk g rfl).trans hg, rest⟩
theorem ins_bound {M : Int} : ∀ {lo hi xs : List Int}, insB lo hi xs = true → (∀ x ∈ lo, -M ≤ x ∧ x ≤ M) → (∀ x ∈ hi, -M ≤ x ∧ x ≤ M) → ∀ x ∈ xs, -M ≤ x ∧ x ≤ M
  | [], [], [], _, _, _, x, hx => by simp at hx
  | a :: la, b :: lb, x :: xs, h, h1, h2, z, hz => by
    simp only [insB, Bool.and_eq_true, decide_eq_true_eq] at h
    rcases List.mem_cons.1 hz with rfl | hz
    · have := h1 a (by simp); have := h2 b (by simp); omega
    · exact ins_bound h.2 (fun u hu => h1 u (by simp [hu])) (fun u hu => h2 u (by simp [hu])) z hz
  | [], [], _ :: _, h, _, _, _, _ => by simp [insB] at h
  | [], _ :: _, _, h, _, _, _, _ => by simp [insB] at h
  | _ :: _, [], _, h, _, _, _, _ => by simp [insB] at h
  | _ :: _, _ :: _, [], h, _, _, _, _ => by simp [insB] at h
theorem call_wide {n : Nat} {P : Program} {f : FuncId} {args : Array Value} {w : World} {R R' : Ending → World → Prop} (h : Calls P f args w R) (hr : ∀ e w', R e w' → R' e w') :
    Fence.wide.fn f ∧ (Fence.wide.depth.isSome = true → 1 ≤ n) ∧ CallsIn Fence.wide (n - 1) P f args w R' := ⟨trivial, (fun h => by cases h), (callsIn_wide.2 h).mono hr⟩

set_option maxHeartbeats 4000000 in
theorem between_seq (n b N : Nat) (v1 v2 : Value) (lo hi : List Int) (w' : World) (hb : b + 2 ≤ w'.heap.size) (hc1 : w'.cell? ⟨b, 0, none⟩ = some v1) (hc2 : w'.cell? ⟨b + 1, 0, none⟩ = some v2) (ho1 : mem.Own w' b v1 lo) (ho2 : mem.Own w' b v2 hi)
    (hN1 : lo.length = N) (hN2 : hi.length = N) (hN : N ≤ 65536) (hla : ∀ x ∈ lo, -4294967296 ≤ x ∧ x ≤ 4294967296) (hlb : ∀ x ∈ hi, -4294967296 ≤ x ∧ x ≤ 4294967296) :
    ISeq Fence.wide n Try.prog 51 #[.pointer (some ⟨b, 0, none⟩), .pointer (some ⟨b + 1, 0, none⟩)] b w'.heap.size mem.Own (rngs lo hi) w' := by
  intro l J Jx W hW hJ hJx h0 hY
  have hcW1 := (Below.cell (p := ⟨b, 0, none⟩) hW (by simp; omega)).trans hc1
  have hcW2 := (Below.cell (p := ⟨b + 1, 0, none⟩) hW (by simp; omega)).trans hc2
  have hoW1 := ho1.below hW
  have hoW2 := ho2.below hW
  have hlt1 := World.ownsRow.lt ho1
  have hlt2 := World.ownsRow.lt ho2
  obtain ⟨A1, c1, e1, hlc1, hcm1, hA1⟩ := ho1.form
  obtain ⟨A2, c2, e2, hlc2, hcm2, hA2⟩ := ho2.form
  rw [hN1] at e1
  rw [hN2] at e2
  subst e1 e2
  have PC := Lib.hid (clone_any A1 N c1 lo W (by omega) hoW1.rd hA1)
  have PI := fun W1 h1 h2 => Lib.hid (inside_any A1 A2 A1 N c1 N c2 N c1 lo hi lo W1 (by unfold maxLen; omega) (by unfold maxLen; omega) (by unfold maxLen; omega) h1 h2 h1)
  have HBe := Lib.hid (hW.size)
  have HW1 := Lib.hid hcW1; have HW2 := Lib.hid hcW2; have HR1 := Lib.hid hoW1.rd; have HR2 := Lib.hid hoW2.rd
  have HSZ1 := Lib.hid (show b < W.heap.size by have := hW.size; omega)
  have HSZ2 := Lib.hid (show b + 1 < W.heap.size by have := hW.size; omega)
  have HLT1 := Lib.hid hlt1; have HLT2 := Lib.hid hlt2
  have HJ := Lib.hid hJ; have HJX := Lib.hid hJx; have H0 := Lib.hid h0; have HY := Lib.hid hY
  have HN1 := Lib.hid hN1; have HN2 := Lib.hid hN2; have HLA := Lib.hid hla; have HLB := Lib.hid hlb
  have HB2 := Lib.hid hb
  clear hb hc1 hc2 ho1 ho2 hN1 hN2 hla hlb hcW2 hoW1 hoW2 hlt1 hlt2 hJ hJx h0 hY hW hlc1 hcm1 hlc2 hcm2 hA1 hA2
  refine callsIn_of_wp Try.func51 rfl trivial ?_ rfl
  simp only [Try.ntmps51, List.size_toArray, List.length_cons, List.length_nil, Nat.reduceAdd, Nat.reduceSub, Array.replicate_succ, Array.replicate_zero, List.push_toArray, List.append_toArray, List.nil_append, List.cons_append]
  gi_wp2_with fail
  refine call_wide PC.out ?_
  intro e w1 hm
  obtain ⟨A0, k0, rfl, ho0, hb0, _, _, hA0⟩ := hm.out
  clear hm hcW1
  have hc1 := (Below.cell (p := ⟨b, 0, none⟩) hb0 HSZ1.out).trans HW1.out
  have hc2 := (Below.cell (p := ⟨b + 1, 0, none⟩) hb0 HSZ2.out).trans HW2.out
  rw [HN1.out] at ho0
  simp only [HN1.out]
  have HO0 := Lib.hid ho0; have HB0 := Lib.hid hb0; have HA0 := Lib.hid hA0
  clear ho0 hb0 hA0
  gi_wp2_with fail
  refine call_wide (PI _ (HR1.out.below HB0.out) (HR2.out.below HB0.out)).out ?_
  rintro e w2 ⟨rfl, rfl⟩
  clear hc1 hc2
  have PX : ∀ W1 xs, Rd W1 A0 N xs → Hid (Calls Try.prog 36 #[.slice A0 N k0] W1 (Makes W1 xs)) := fun W1 xs h => Lib.hid (clone_any A0 N k0 xs W1 (by omega) h HA0.out)
  have hr0 : ∀ k, (Value.slice A0 N k0).ownBlock = some k → W.heap.size ≤ k ∧ k < w1.heap.size := World.ownsRow.lt HO0.out
  have PA : ∀ W1 xs, Rd W1 A1 N lo → Rd W1 A2 N hi → mem.Own W1 W.heap.size (.slice A0 N k0) xs → (∀ x ∈ xs, -4294967296 ≤ x ∧ x ≤ 4294967296) →
      Hid (Calls Try.prog 52 #[.slice A1 N c1, .slice A2 N c2, .slice A0 N k0] W1 (Steps W1 W.heap.size (.slice A0 N k0) (advL lo hi xs).1 (advL lo hi xs).2)) := by
    intro W1 xs h1 h2 h3 h4
    rcases Nat.eq_zero_or_pos N with rfl | hN0
    · have e1 : lo = [] := List.eq_nil_of_length_eq_zero HN1.out
      have e3 : xs = [] := List.eq_nil_of_length_eq_zero h3.rd.1
      subst e1 e3
      refine Lib.hid ((advance_none A1 A2 A0 c1 c2 k0 W1).mono ?_)
      rintro e w2 ⟨rfl, rfl⟩
      exact ⟨rfl, h3, World.grownBy.refl _ _⟩
    · obtain ⟨g, cap, e, hge, _⟩ := World.ownsRow.form h3 (by rw [h3.rd.1]; exact hN0)
      obtain rfl : A0 = some ⟨g, 0, none⟩ := by injection e
      refine Lib.hid (advance_some A1 A2 N c1 c2 g k0 W.heap.size lo hi xs W1 hN h1 h2 h3 (fun ad e => ?_) (fun ad e => ?_) h4)
      · have h5 := (HLT1.out ad.block (by rw [e]; rfl)).2
        have h6 := HBe.out
        intro e6; injection e6; omega
      · have h5 := (HLT2.out ad.block (by rw [e]; rfl)).2
        have h6 := HBe.out
        intro e6; injection e6; omega
  have hll : lo.length = hi.length := by rw [HN1.out, HN2.out]
  have hstart : ∃ cnt, AtHead (rngs lo hi) (Value.slice A0 N k0).ownBlock J b w'.heap.size W (.slice A0 N k0) (.bool (insB lo hi lo)) w1 cnt := by
    refine ⟨_, [], rngs lo hi, rfl, rfl, ?_, HJ.out.later (H0.out _ fun k hk => (hr0 k hk).1) HB0.out, (Kept.refl _ _ W).below HB0.out HBe.out, fun x t e => ?_⟩
    · cases hi0 : insB lo hi lo
      · rw [(rng_first hll).2 hi0]; rfl
      · have := (rng_first hll).1 hi0
        cases hr : rngs lo hi with
        | nil => rw [hr] at this; simp at this
        | cons y ys => rfl
    · cases hi0 : insB lo hi lo
      · rw [(rng_first hll).2 hi0] at e; cases e
      · have := (rng_first hll).1 hi0
        rw [e] at this
        simp at this
        rw [this]
        exact HO0.out
  have HST := Lib.hid hstart
  have HR0 := Lib.hid hr0; have HPA := Lib.hid PA; have HPX := Lib.hid PX; have HLL := Lib.hid hll
  clear hstart hr0 PA PX hll
  gi_wp2_with fail
  gi_loopw [5] (fun m wr => ∃ cnt, AtHead (rngs lo hi) (Value.slice A0 N k0).ownBlock J b w'.heap.size W (.slice A0 N k0) m wr cnt) (fun m wr => leastOf fun cnt => AtHead (rngs lo hi) (Value.slice A0 N k0).ownBlock J b w'.heap.size W (.slice A0 N k0) m wr cnt)
  case atStart => exact HST.out
  case round =>
    obtain ⟨pre, rest, hL, hcnt, hmore, hJr, hK, hO⟩ := (leastOf_spec hrel).1
    cases rest with
    | nil =>
      obtain rfl : u5 = .bool false := hmore
      have HF := Lib.hid (show J (Value.slice A0 N k0).ownBlock (rngs lo hi) wr by rw [hL, List.append_nil]; exact hJr)
      clear hrel hL hcnt hJr hK hO
      gi_wp2_with fail
      go_end0
      exact ⟨⟨_, rfl⟩, .inl ⟨_, HF.out⟩⟩
    | cons x t =>
      obtain rfl : u5 = .bool true := hmore
      have HM := Lib.hid hcnt
      have hown := hO x t rfl
      have hx : (rngs lo hi)[pre.length]? = some x := by rw [hL]; simp
      have hnx := rng_next HLL.out _ x hx
      have hxb := ins_bound hnx.2.2 HLA.out HLB.out
      have hadv : (advL lo hi x).2 = !t.isEmpty ∧ (∀ y t', t = y :: t' → (advL lo hi x).1 = y) := by
        cases t with
        | nil =>
          rw [hnx.2.1 (by rw [hL]; simp)]
          exact ⟨rfl, fun y t' e => by cases e⟩
        | cons y t' =>
          rw [hnx.1 y (by rw [hL]; simp)]
          exact ⟨rfl, fun y2 t2 e => by injection e⟩
      have hpre : pre ++ [x] <+: rngs lo hi := ⟨t, by rw [hL]; simp⟩
      have HPX2 := HPX.out wr x hown.rd
      have HRR := Lib.hid (show ∀ k, (Value.slice A0 N k0).ownBlock = some k → W.heap.size ≤ k ∧ k < wr.heap.size from World.ownsRow.lt hown)
      have HOWN := Lib.hid hown; have HADV := Lib.hid hadv; have HXB := Lib.hid hxb; have HPRE := Lib.hid hpre; have HJR := Lib.hid hJr; have HK := Lib.hid hK
      have HLX := Lib.hid (show rngs lo hi = (pre ++ [x]) ++ t by rw [hL]; simp)
      clear hrel hL hcnt hJr hK hO hown hx hnx hxb hadv hpre
      gi_wp2_with fail
      refine call_wide HPX2.out ?_
      intro e w3 hm
      obtain ⟨A3, k3, rfl, ho3, hb3, _, _, _⟩ := hm.out
      have HO3 := Lib.hid ho3; have HB3 := Lib.hid hb3
      clear hm ho3 hb3
      obtain ⟨fn, tmps, assign, body, hy, hR⟩ := HY.out _ pre x _ wr w3 HRR.out HJR.out HPRE.out HK.out.size HB3.out HO3.out
      have HRN := Lib.hid hR
      clear hR
      gi_wp2_with fail
      refine ⟨(fun h => by cases h), HRN.out.mono ?_⟩
      rintro e w4 (⟨rfl, hJ4, hs4⟩ | ⟨rfl, hJx4⟩)
      · have hk4 := (HK.out.below HB3.out HBe.out).spares hs4
        have ho4 := own_kept (HOWN.out.below HB3.out) hs4.size hs4.own
        have hc1 := (World.cell?_of_block (a := ⟨b, 0, none⟩) (hk4.same b (Nat.le_refl _) (by have := HB2.out; omega))).trans HW1.out
        have hc2 := (World.cell?_of_block (a := ⟨b + 1, 0, none⟩) (hk4.same (b + 1) (by omega) (by have := HB2.out; omega))).trans HW2.out
        have hrd1 := rd_kept HR1.out hk4.size fun ad e => hk4.same _ (HLT1.out ad.block (by rw [e]; rfl)).1 (HLT1.out ad.block (by rw [e]; rfl)).2
        have hrd2 := rd_kept HR2.out hk4.size fun ad e => hk4.same _ (HLT2.out ad.block (by rw [e]; rfl)).1 (HLT2.out ad.block (by rw [e]; rfl)).2
        have HP := HPA.out w4 x hrd1 hrd2 ho4 HXB.out
        have HJ4 := Lib.hid hJ4; have HK4 := Lib.hid hk4
        clear hJ4 hs4 hk4 ho4 hrd1 hrd2 HRN hy
        gi_wp2_with fail
        refine call_wide HP.out ?_
        rintro e w5 ⟨rfl, ho5, hg5⟩
        have HO5 := Lib.hid ho5; have HG5 := Lib.hid hg5
        clear ho5 hg5 hc1 hc2
        have hnew : ∃ m, m = Value.bool (advL lo hi x).2 ∧ AtHead (rngs lo hi) (Value.slice A0 N k0).ownBlock J b w'.heap.size W (.slice A0 N k0) m w5 t.length := by
          refine ⟨_, rfl, pre ++ [x], t, HLX.out, rfl, by rw [HADV.out.1], ?_, ?_, fun y t' e => ?_⟩
          · exact HJ.out _ _ w4 w5 _ HJ4.out HG5.out fun k e => ⟨(HRR.out k e).1, .inl e⟩
          · exact HK4.out.grown HG5.out HBe.out fun k e => by have := (HRR.out k e).1; have := HBe.out; omega
          · have := HO5.out
            rwa [HADV.out.2 y t' e] at this
        obtain ⟨m, hm, hat⟩ := hnew
        rw [← hm]
        have HAT := Lib.hid hat
        have HMM := Lib.hid hm
        clear hm hat
        gi_wp2_with fail
        go_roundw
        case rel => exact ⟨_, HAT.out⟩
        case measure =>
          have h1 := (leastOf_spec ⟨_, HAT.out⟩).2 _ HAT.out
          have h2 := HM.out
          exact Nat.lt_of_le_of_lt h1 (Nat.lt_of_lt_of_le (Nat.lt_succ_self _) (Nat.le_of_eq h2))
      · have HX4 := Lib.hid hJx4
        clear hJx4 HRN hy
        gi_wp2_with fail
        refine bodyPost_ret (results_none rfl _ _ _) rfl ?_
        exact ⟨⟨_, rfl⟩, .inr ⟨_, _, HPRE.out, HX4.out⟩⟩
end Go.Proofs.Ytaegkiangjnmdaa.odo
