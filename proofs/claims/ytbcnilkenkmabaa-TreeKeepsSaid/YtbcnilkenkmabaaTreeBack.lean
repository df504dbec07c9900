/- Package tree: the kids from the last to the first (slices.Backward). -/
import Derived.Test.YtbcnilkenkmabaaSeq
import Derived.Test.YtbcnilkenkmabaaTreeSteps
import Derived.Deep.LoopGhost
namespace Go.Proofs.Ytbcnilkenkmabaa.tr
open Go.ChangeShapes Go.WideShapes Go.ChangeAt Go.RowKit Go.Proofs.Ytbcnilkenkmabaa.mem Go.Proofs.Ytbcnilkenkmabaa.sq
set_option linter.unusedVariables false
attribute [local go_sem] Oper.semAt_some

theorem yield_wide {m m' : Nat} {P : Program} {l : Nat} {args : Array Value} {W : World} {R : Ending → World → Prop} (h : YieldAt Fence.wide m P l args W R) : YieldAt Fence.wide m' P l args W R := by
  obtain ⟨fn, tmps, assign, body, h1, h2⟩ := h
  exact ⟨fn, tmps, assign, body, h1, h2.1, fun c cs _ => h2.2 c cs (fun d hd => by cases hd)⟩
theorem call_wide {n : Nat} {P : Program} {f : FuncId} {args : Array Value} {w : World} {R R' : Ending → World → Prop} (h : Calls P f args w R) (hr : ∀ e w', R e w' → R' e w') :
    Fence.wide.fn f ∧ (Fence.wide.depth.isSome = true → 1 ≤ n) ∧ CallsIn Fence.wide (n - 1) P f args w R' := ⟨trivial, (fun h => by cases h), (callsIn_wide.2 h).mono hr⟩
theorem RdQ.carry {Q : Nat → Prop} {w w' : World} {T : Tr} {v : Value} (h : RdQ Q w T v) (hs : w.heap.size ≤ w'.heap.size) (hc : ∀ k, Q k → w'.heap[k]? = w.heap[k]?) : RdQ Q w' T v :=
  h.keep hs (fun a hq _ => World.cell?_of_block (hc _ hq)) (fun _ h => h)
theorem RdQL.carry {Q : Nat → Prop} {w w' : World} {l : List Tr} {B : Option Addr} {i : Nat} (h : RdQL Q w l B i) (hs : w.heap.size ≤ w'.heap.size) (hc : ∀ k, Q k → w'.heap[k]? = w.heap[k]?) : RdQL Q w' l B i :=
  h.keep hs (fun a hq _ => World.cell?_of_block (hc _ hq)) (fun _ h => h)

/-- What Backward hands out: a place, and a tree that is read through blocks of Keep. -/
def HandK (Keep : Nat → Prop) (W : World) (T : Tr) (vs : Array Value) : Prop := ∃ (i : Int) (v : Value), vs = #[.int .i64 i, v] ∧ RdQ Keep W T v

/-- How the iterator stands at the head of a round: k kids are to come. -/
def BackAt (Keep : Nat → Prop) (ks : List Tr) (J : (Nat → Prop) → List Tr → World → Prop) (W : World) (k : Nat) (wr : World) : Prop :=
  ∃ pre rest, ks.reverse = pre ++ rest ∧ rest.length = k ∧ J (fun _ => False) pre wr ∧ W.heap.size ≤ wr.heap.size ∧ ∀ q, Keep q → wr.heap[q]? = W.heap[q]?

set_option maxHeartbeats 4000000 in
theorem back_seq (n b : Nat) (B : Option Addr) (m d : Nat) (ks : List Tr) (KT Keep : Nat → Prop) (w : World) (hc : w.cell? ⟨b, 0, none⟩ = some (.slice B m d)) (hkb : Keep b) (hsub : ∀ k, KT k → Keep k) (hr : RdQL KT w ks B 0) (hl : ks.length = m) (hm : m ≤ 17592186044416) (hK : ∀ k, Keep k → k < w.heap.size) :
    ISeq Fence.wide n Try.prog 57 #[.pointer (some ⟨b, 0, none⟩)] Keep (HandK KT) ks.reverse w := by
  intro l J Jx W hW hJ hJx h0 hY
  have hKW : ∀ k, Keep k → W.heap[k]? = w.heap[k]? := fun k hk => hW.block k (hK k hk)
  have hcW := (World.cell?_of_block (a := ⟨b, 0, none⟩) (hKW b hkb)).trans hc
  have hrW := hr.carry hW.size (fun k hk => hKW k (hsub k hk))
  have HC := Lib.hid hcW; have HKB := Lib.hid hkb; have HR := Lib.hid hrW; have HL := Lib.hid hl
  have HSUB := Lib.hid hsub; have HJ := Lib.hid hJ; have HY := Lib.hid hY
  have HST := Lib.hid (show BackAt Keep ks J W m W from ⟨[], ks.reverse, rfl, by rw [List.length_reverse]; exact hl, h0, Nat.le_refl _, fun _ _ => rfl⟩)
  have hm2 : (m : Int) ≤ 17592186044416 := by omega
  clear hKW hsub hc hkb hr hl hJ hJx hY h0 hW hrW hK hm
  refine callsIn_of_wp Try.func57 rfl trivial ?_ rfl
  simp only [Try.ntmps57, List.size_toArray, List.length_cons, List.length_nil, Nat.reduceAdd, Nat.reduceSub, Array.replicate_succ, Array.replicate_zero, List.push_toArray, List.append_toArray, List.nil_append, List.cons_append]
  gi_wp2_with fail
  gi_loopw [3] (fun i wr => ∃ (k : Nat) (j : Int), k ≤ m ∧ i = .int .i64 j ∧ -1 ≤ j ∧ j ≤ 17592186044416 ∧ Hid (j = (k : Int) - 1) ∧ Hid (BackAt Keep ks J W k wr)) (fun i _ => (intOf i + 1).toNat)
  case atStart => exact ⟨m, _, Nat.le_refl _, rfl, by omega, by omega, Lib.hid rfl, HST⟩
  case round =>
    obtain ⟨k, j, hk, rfl, hj1, hj2, Hj, Hat⟩ := hrel
    cases k with
    | zero =>
      obtain rfl : j = -1 := by have := Hj.out; omega
      have HF : Hid (J (fun _ => False) ks.reverse wr) := Lib.hid (by
        obtain ⟨pre, rest, h1, h2, h3, _⟩ := Hat.out
        rw [List.eq_nil_of_length_eq_zero h2, List.append_nil] at h1
        rw [h1]; exact h3)
      clear hcW Hj Hat hk hj1 hj2
      gi_wp2_with fail
      go_end0
      exact ⟨⟨_, rfl⟩, .inl ⟨_, HF.out⟩⟩
    | succ k =>
      obtain rfl : j = (k : Int) := by have := Hj.out; omega
      obtain ⟨pre, rest, h1, h2, h3, h4, h5⟩ := Hat.out
      cases rest with
      | nil => simp at h2
      | cons x t =>
        have hx : ks[k]? = some x := by
          have h6 : ks.reverse[pre.length]? = some x := by rw [h1]; simp
          have h7 : ks.reverse.length = pre.length + (k + 1) := by rw [h1, List.length_append, h2]
          rw [List.length_reverse] at h7
          rw [List.getElem?_reverse (by omega)] at h6
          rw [show ks.length - 1 - pre.length = k by omega] at h6
          exact h6
        have hrr := HR.out.carry h4 (fun q hq => h5 q (HSUB.out q hq))
        obtain ⟨ad, c0, c1, c2, c3, c4, c5, rfl, hlt, q0, q1, q2, q3, q4, q5, hT⟩ := hrr.kid hx
        have hcr := (World.cell?_of_block (a := ⟨b, 0, none⟩) (h5 b HKB.out)).trans HC.out
        have hpre : pre ++ [x] <+: ks.reverse := ⟨t, by rw [h1]; simp⟩
        obtain ⟨fn, tmps, assign, body, hy, hR⟩ := HY.out (fun _ => False) pre x #[.int .i64 (k : Int), .agg #[c0, c1, c2, c3, c4, c5]] wr (fun _ h => h.elim) h4 h3 hpre ⟨_, _, rfl, hT⟩
        have HRN := Lib.hid hR; have HPRE := Lib.hid hpre
        have HX := Lib.hid (show ks.reverse = (pre ++ [x]) ++ t by rw [h1]; simp)
        have HT := Lib.hid (show t.length = k by simpa using h2)
        have HB4 := Lib.hid h4; have HB5 := Lib.hid h5
        have hkm : (k : Int) < (m : Int) := by omega
        have hk0 : (0 : Int) ≤ (k : Int) := by omega
        clear hcW Hj Hat h1 h2 h3 h4 h5 hx hrr hR hpre hT hlt
        gi_wp2_with fail
        refine ⟨(fun h => by cases h), HRN.out.mono ?_⟩
        rintro e w4 ⟨hJ4 | hJ4, hs4⟩
        · obtain ⟨rfl, hJ4⟩ := hJ4
          have HN : Hid (BackAt Keep ks J W k w4) := Lib.hid ⟨pre ++ [x], t, HX.out, HT.out, hJ4, Nat.le_trans HB4.out hs4.size, fun q hq => (hs4.kept q hq).trans (HB5.out q hq)⟩
          clear hJ4 hs4 HRN hy hcr q0 q1 q2 q3 q4 q5
          gi_wp2_with fail
          go_roundw
          case rel => exact ⟨k, (k : Int) - 1, by omega, rfl, by omega, by omega, Lib.hid rfl, HN⟩
          case measure => first | (simp [intOf]; done) | (simp [intOf]; omega)
        · obtain ⟨rfl, hJ4⟩ := hJ4
          have HX4 := Lib.hid hJ4
          clear hJ4 hs4 HRN hy hcr q0 q1 q2 q3 q4 q5
          gi_wp2_with fail
          refine bodyPost_ret (results_none rfl _ _ _) rfl ?_
          exact ⟨⟨_, rfl⟩, .inr ⟨_, _, HPRE.out, HX4.out⟩⟩
/-- Backward's answer: a function value over a box that holds the slice. -/
theorem backward_any (B : Option Addr) (m d : Nat) (w : World) :
    Calls Try.prog 49 #[.slice B m d] w fun e w' => e = .returned (.func (.func 57) #[] #[.pointer (some ⟨w.heap.size, 0, none⟩)]) ∧ Below w.heap.size w w' ∧ w'.heap.size = w.heap.size + 1 ∧ w'.cell? ⟨w.heap.size, 0, none⟩ = some (.slice B m d) := by
  go_enter Try.func49, Try.ntmps49
  go_wp2_with fail
  go_ret
  exact ⟨rfl, (Below.refl _ _).alloc (Nat.le_refl _) _, by simp, by simp⟩
end Go.Proofs.Ytbcnilkenkmabaa.tr
