/- TreeRight: package tree's Right against the reference. -/
import Derived.Test.YtbcnilkenkmabaaTreeAwake
namespace Go.Proofs.Ytbcnilkenkmabaa.tr
open Go.ChangeShapes Go.WideShapes Go.ChangeAt Go.RowKit Go.Proofs.Ytbcnilkenkmabaa.mem Go.Proofs.Ytbcnilkenkmabaa.sq
set_option linter.unusedVariables false

theorem few_out {T : Tr} {m : Int} (h : fewT T m = true) (h0 : 0 ≤ m) : deepT T ≤ 150 ∧ (sizeT T : Int) ≤ m ∧ (numsT T : Int) ≤ 10 * m := by
  obtain ⟨h1, h2, h3⟩ := few_in h
  omega
set_option maxHeartbeats 4000000 in
theorem walk_TreeRight (T : Tr) (v : Value) (w : World) (hT : RdT w T v) : Calls Try.prog 3 #[v] w fun e w' => e = .returned (.bool true) ∧ Below w.heap.size w w' := by
  obtain ⟨k, f, a, s, ns, ks⟩ := T
  obtain ⟨Aa, na, ca, B, mm, d, rfl, -⟩ := rdT_node.1 hT
  obtain ⟨W, hW⟩ : ∃ W, W = w.alloc (.cells #[.int .i64 k, .int .i64 f, .int .i64 a, .string s, .slice Aa na ca, .slice B mm d] 25) := ⟨_, rfl⟩
  obtain ⟨hb, hs, KC⟩ := one_box6 hW
  have HT := Lib.hid (hT.below hb); have HB := Lib.hid hb; have HKC := Lib.hid KC; have HW := Lib.hid hW; have HS := Lib.hid hs
  clear hT hb KC hW hs
  obtain ⟨Tn, hTn⟩ : ∃ Tn, Tn = Tr.node k f a s ns ks := ⟨_, rfl⟩
  rw [← hTn] at HT
  clear hTn
  rcases hf : fewT Tn 2000 with _ | _
  · have HF := Lib.hid hf
    clear hf
    go_enter Try.func3, Try.ntmps3
    go_upto_region 1 with fail
    rw [← HW.out]
    go_wp2_with fail
    refine (awake_true _).mono ?_
    rintro e w1 ⟨rfl, h1⟩
    obtain ⟨k0, k1, k2, k3, k4, k5⟩ := HKC.out w1 h1
    have A1 := Lib.hid (later HB.out h1)
    have P := Lib.hid (refFew_any Tn _ w1 2000 (HT.out.below h1) (by omega) (by omega))
    rw [HF.out] at P
    clear h1
    go_wp2_with fail
    refine P.out.mono ?_
    rintro e w2 ⟨rfl, h2⟩
    have A2 := Lib.hid (later A1.out h2)
    clear h2
    go_wp2_with fail
    refine (awake_true _).mono ?_
    rintro e w3 ⟨rfl, h3⟩
    have A3 := Lib.hid (later A2.out h3)
    clear h3
    go_wp2_with fail
    go_ret
    exact ⟨rfl, A3.out⟩
  · obtain ⟨hd, hz, -⟩ := few_out hf (by omega)
    have HF := Lib.hid hf; have HD := Lib.hid hd; have HZ := Lib.hid hz
    clear hf hd hz
    go_enter Try.func3, Try.ntmps3
    go_upto_region 1 with fail
    rw [← HW.out]
    go_wp2_with fail
    refine (awake_true _).mono ?_
    rintro e w1 ⟨rfl, h1⟩
    obtain ⟨k0, k1, k2, k3, k4, k5⟩ := HKC.out w1 h1
    have A1 := Lib.hid (later HB.out h1)
    have P := Lib.hid (refFew_any Tn _ w1 2000 (HT.out.below h1) (by omega) (by omega))
    rw [HF.out] at P
    have HT1 := Lib.hid (HT.out.below h1); have HK1 := Lib.hid (fun V (h : Below w1.heap.size w1 V) => HKC.out V (later h1 h))
    clear h1
    go_wp2_with fail
    refine P.out.mono ?_
    rintro e w2 ⟨rfl, h2⟩
    have A2 := Lib.hid (later A1.out h2)
    have HT2 := Lib.hid (HT1.out.below h2); have HK2 := Lib.hid (fun V (h : Below w2.heap.size w2 V) => HK1.out V (later h2 h))
    clear h2 k0 k1 k2 k3 k4 k5 P HT1 HK1 A1 HKC HT
    obtain ⟨k0, k1, k2, k3, k4, k5⟩ := HK2.out w2 (Below.refl _ _)
    have HB0 := Lib.hid (Below.refl w2.heap.size w2)
    have PA : ∀ V, Hid (Below w2.heap.size w2 V) → Hid (Calls Try.prog 10 #[.agg #[.int .i64 k, .int .i64 f, .int .i64 a, .string s, .slice Aa na ca, .slice B mm d]] V fun e V' => e = .returned (.bool (rightT Tn)) ∧ Hid (Below w2.heap.size w2 V')) := fun V h =>
      Lib.hid ((right_any Tn _ V (HT2.out.below h.out) (by have := HD.out; omega) (by have := HZ.out; omega)).mono fun e V' ⟨he, hb⟩ => ⟨he, Lib.hid (later h.out hb)⟩)
    have PB : ∀ V, Hid (Below w2.heap.size w2 V) → Hid (Calls Try.prog 11 #[.agg #[.int .i64 k, .int .i64 f, .int .i64 a, .string s, .slice Aa na ca, .slice B mm d]] V fun e V' => e = .returned (.bool (rightT Tn)) ∧ Hid (Below w2.heap.size w2 V')) := fun V h =>
      Lib.hid ((refRight_any Tn _ V (HT2.out.below h.out) (by have := HZ.out; omega)).mono fun e V' ⟨he, hb⟩ => ⟨he, Lib.hid (later h.out hb)⟩)
    go_wp2_with fail
    go_region_held3 (fun w' => w'.cell? ⟨w.heap.size, 0, none⟩ = some (.int .i64 k) ∧ w'.cell? ⟨w.heap.size, 1, none⟩ = some (.int .i64 f) ∧ w'.cell? ⟨w.heap.size, 2, none⟩ = some (.int .i64 a) ∧ w'.cell? ⟨w.heap.size, 3, none⟩ = some (.string s) ∧ w'.cell? ⟨w.heap.size, 4, none⟩ = some (.slice Aa na ca) ∧ w'.cell? ⟨w.heap.size, 5, none⟩ = some (.slice B mm d)) (go_keep)
      (first
      | (go_at_call 10; refine (PA _ (by first | assumption | exact Lib.hid (Below.drew HB0.out) | exact Lib.hid (Below.drew HBB.out))).out.mono ?_
         rintro e v1 ⟨rfl, HBA⟩
         obtain ⟨ka0, ka1, ka2, ka3, ka4, ka5⟩ := HK2.out _ HBA.out)
      | (go_at_call 11; refine (PB _ (by first | assumption | exact Lib.hid (Below.drew HB0.out) | exact Lib.hid (Below.drew HBA.out))).out.mono ?_
         rintro e v2 ⟨rfl, HBB⟩
         obtain ⟨kb0, kb1, kb2, kb3, kb4, kb5⟩ := HK2.out _ HBB.out))
    all_goals
      go_wp2_with fail
      go_ret
      exact ⟨by simp, by first | exact later A2.out HBA.out | exact later A2.out HBB.out⟩
end Go.Proofs.Ytbcnilkenkmabaa.tr
