/- The walks of the five laws of layer 1. -/
import Derived.Test.YtledmpldchpidaaAwake
namespace Go.Proofs.Ytledmpldchpidaa.fold
open Go.ChangeShapes Go.WideShapes Go.ChangeAt Go.RowKit Go.Proofs.Ytledmpldchpidaa.nums
set_option linter.unusedVariables false

theorem Rd.below {w w' : World} {A : Option Addr} {n : Nat} {xs : List Int} (h : Rd w A n xs) (hb : Below w.heap.size w w') : Rd w' A n xs :=
  ⟨h.1, fun k hk => by
    obtain ⟨ad, ha, hlt, hc⟩ := h.2 k hk
    exact ⟨ad, ha, Nat.lt_of_lt_of_le hlt hb.size, (hb.cell (by unfold Addr.add; split <;> exact hlt)).trans hc⟩⟩

set_option maxHeartbeats 1000000 in
theorem walk_SizeMuls (a b l : Int) (wa : (Lit.int .i64 a).wf = true) (wb : (Lit.int .i64 b).wf = true) (wl : (Lit.int .i64 l).wf = true) (w : World) :
    Calls Try.prog 5 #[.int .i64 a, .int .i64 b, .int .i64 l] w fun e w' => e = .returned (.bool true) ∧ Grown w w' := by
  have ba := Go.bounds_i64 wa
  have bb := Go.bounds_i64 wb
  have bl := Go.bounds_i64 wl
  clear wa wb wl
  by_cases h : a < 0 ∨ b < 0 ∨ l < a ∨ l < b
  · have M1 := fun w' => Lib.hid (mul_at a b l 0 false w' (by omega) (by unfold mulN; rw [if_pos (by omega)]) (by unfold mulB; exact decide_eq_false (by omega)))
    have M2 := fun w' => Lib.hid (mul_at b a l 0 false w' (by omega) (by unfold mulN; rw [if_pos (by omega)]) (by unfold mulB; exact decide_eq_false (by omega)))
    have h' : a < 0 ∨ (0 ≤ a ∧ b < 0) ∨ (0 ≤ a ∧ 0 ≤ b ∧ l < a) ∨ (0 ≤ a ∧ 0 ≤ b ∧ a ≤ l ∧ l < b) := by omega
    clear h
    rcases h' with h | ⟨h1, h⟩ | ⟨h1, h2, h⟩ | ⟨h1, h2, h3, h⟩
    all_goals
      go_enter Try.func5, Try.ntmps5
      go_wp2_with fail
      refine (awake_true _).mono ?_
      rintro e w1 ⟨rfl, hg, _⟩
      go_wp2_with fail
      refine (M1 _).out.mono ?_
      rintro e w' ⟨rfl, rfl⟩
      go_wp2_with fail
      refine (M2 _).out.mono ?_
      rintro e w' ⟨rfl, rfl⟩
      go_wp2_with fail
      go_ret
      exact ⟨rfl, hg⟩
  by_cases z : a = 0 ∨ b = 0
  · have ep : a * b = 0 := by rcases z with z | z <;> rw [z] <;> simp
    have ep' : b * a = 0 := by rw [Int.mul_comm]; exact ep
    have M1 := fun w' => Lib.hid (mul_at a b l 0 true w' (by omega) (by unfold mulN; rw [ep]; split <;> omega) (by unfold mulB; exact decide_eq_true (by omega)))
    have M2 := fun w' => Lib.hid (mul_at b a l 0 true w' (by omega) (by unfold mulN; rw [ep']; split <;> omega) (by unfold mulB; exact decide_eq_true (by omega)))
    clear ep ep'
    have h1 : 0 ≤ a := by omega
    have h2 : 0 ≤ b := by omega
    have h3 : a ≤ l := by omega
    have h4 : b ≤ l := by omega
    clear h
    have z' : (a == 0) = true ∨ ((a == 0) = false ∧ (b == 0) = true) := by
      by_cases y : a = 0
      · exact .inl (by simpa using y)
      · exact .inr ⟨beq_eq_false_iff_ne.2 y, by simpa using (z.resolve_left y)⟩
    clear z
    rcases z' with z' | ⟨z1, z'⟩
    all_goals
      go_enter Try.func5, Try.ntmps5
      go_wp2_with fail
      refine (awake_true _).mono ?_
      rintro e w1 ⟨rfl, hg, _⟩
      go_wp2_with fail
      refine (M1 _).out.mono ?_
      rintro e w' ⟨rfl, rfl⟩
      go_wp2_with fail
      refine (M2 _).out.mono ?_
      rintro e w' ⟨rfl, rfl⟩
      go_wp2_with fail
      go_ret
      exact ⟨rfl, hg⟩
  have h1 : 1 ≤ a := by omega
  have h2 : 1 ≤ b := by omega
  have h3 : a ≤ l := by omega
  have h4 : b ≤ l := by omega
  clear h
  have z1 : (a == 0) = false := beq_eq_false_iff_ne.2 (by omega)
  have z2 : (b == 0) = false := beq_eq_false_iff_ne.2 (by omega)
  clear z
  have hp0 : 0 ≤ a * b := Int.mul_nonneg (by omega) (by omega)
  by_cases hg : l / a < b
  · have hlt : l < a * b := by
      have := Int.lt_mul_of_ediv_lt (by omega : 0 < a) hg
      rwa [Int.mul_comm] at this
    have hlt' : l < b * a := by rwa [Int.mul_comm]
    have M1 := fun w' => Lib.hid (mul_at a b l 0 false w' (by omega) (by unfold mulN; rw [if_pos (by omega)]) (by unfold mulB; exact decide_eq_false (by omega)))
    have M2 := fun w' => Lib.hid (mul_at b a l 0 false w' (by omega) (by unfold mulN; rw [if_pos (by omega)]) (by unfold mulB; exact decide_eq_false (by omega)))
    clear hp0 hlt hlt'
    go_enter Try.func5, Try.ntmps5
    go_wp2_with fail
    refine (awake_true _).mono ?_
    rintro e w1 ⟨rfl, hg, _⟩
    go_wp2_with fail
    refine (M1 _).out.mono ?_
    rintro e w' ⟨rfl, rfl⟩
    go_wp2_with fail
    refine (M2 _).out.mono ?_
    rintro e w' ⟨rfl, rfl⟩
    go_wp2_with fail
    go_ret
    exact ⟨rfl, hg⟩
  · have hle : a * b ≤ l := by
      have := Int.mul_le_of_le_ediv (by omega : 0 < a) (by omega : b ≤ l / a)
      rwa [Int.mul_comm] at this
    have hle' : b * a ≤ l := by rwa [Int.mul_comm]
    have hp0' : 0 ≤ b * a := by rwa [Int.mul_comm]
    have M1 := fun w' => Lib.hid (mul_at a b l (a * b) true w' (by omega) (by unfold mulN; rw [if_neg (by omega)]) (by unfold mulB; exact decide_eq_true (by omega)))
    have M2 := fun w' => Lib.hid (mul_at b a l (a * b) true w' (by omega) (by unfold mulN; rw [if_neg (by omega), Int.mul_comm]) (by unfold mulB; exact decide_eq_true (by omega)))
    have d1 : a * b / a = b := by rw [Int.mul_ediv_cancel_left b (by omega)]
    have d2 : a * b % a = 0 := Int.mul_emod_right a b
    generalize a * b = p at *
    have d1 : (p / a == b) = true := by simpa using d1
    have d2 : (p % a == 0) = true := by simpa using d2
    rename_i d1' d2'; clear d1' d2' hle' hp0'
    go_enter Try.func5, Try.ntmps5
    go_wp2_with fail
    refine (awake_true _).mono ?_
    rintro e w1 ⟨rfl, hg, _⟩
    go_wp2_with fail
    refine (M1 _).out.mono ?_
    rintro e w' ⟨rfl, rfl⟩
    go_wp2_with fail
    refine (M2 _).out.mono ?_
    rintro e w' ⟨rfl, rfl⟩
    go_wp2_with fail
    go_ret
    exact ⟨rfl, hg⟩

theorem walk_SizeNumbers (v : Int) (wv : (Lit.int .i64 v).wf = true) (w : World) :
    Calls Try.prog 6 #[.int .i64 v] w fun e w' => e = .returned (.bool true) ∧ Grown w w' := by
  obtain ⟨b1, b2⟩ := Go.bounds_i64 wv
  clear wv
  have D1 := fun w' => Lib.hid (dimension_any (v := v) w' b1 b2)
  have D2 := fun w' => Lib.hid (refDimension_any (v := v) w' b1 b2)
  have D3 := fun w' => Lib.hid (magnitude_any (v := v) w' b1 b2)
  have D4 := fun w' => Lib.hid (refMagnitude_any (v := v) w' b1 b2)
  generalize dimN v = x1 at *
  generalize dimE v = x2 at *
  generalize magN v = x3 at *
  generalize magE v = x4 at *
  go_enter Try.func6, Try.ntmps6
  go_wp2_with fail
  refine (awake_true _).mono ?_
  rintro e w1 ⟨rfl, hg, _⟩
  go_wp2_with fail
  refine (D1 _).out.mono ?_
  rintro e w' ⟨rfl, rfl⟩
  go_wp2_with fail
  refine (D2 _).out.mono ?_
  rintro e w' ⟨rfl, rfl⟩
  go_wp2_with fail
  refine (D3 _).out.mono ?_
  rintro e w' ⟨rfl, rfl⟩
  go_wp2_with fail
  refine (D4 _).out.mono ?_
  rintro e w' ⟨rfl, rfl⟩
  go_wp2_with fail
  go_ret
  exact ⟨rfl, hg⟩

theorem walk_SizeProducts (A : Option Addr) (n c : Nat) (xs : List Int) (w : World) (hn : n ≤ maxLen) (hc : Rd w A n xs) :
    Calls Try.prog 3 #[.slice A n c] w fun e w' => e = .returned (.bool true) ∧ Below w.heap.size w w' := by
  have HC := Lib.hid hc; clear hc
  by_cases hl : 1000 < n
  · go_enter Try.func3, Try.ntmps3
    go_wp2_with fail
    refine (awake_true _).mono ?_
    rintro e w1 ⟨rfl, _, hb⟩
    go_wp2_with fail
    refine (awake_true _).mono ?_
    rintro e w2 ⟨rfl, _, hb2⟩
    go_wp2_with fail
    go_ret
    exact ⟨rfl, hb.trans (hb2.mono hb.size)⟩
  · have P1 := fun w' h => Lib.hid (prod_any A n c xs w' hn h)
    have P2 := fun w' h => Lib.hid (refProduct_any A n c xs w' hn h)
    generalize totN prodStep 1 xs = x1 at *
    generalize totE prodStep 1 xs = x2 at *
    go_enter Try.func3, Try.ntmps3
    go_wp2_with fail
    refine (awake_true _).mono ?_
    rintro e w1 ⟨rfl, _, hb⟩
    have HC1 := Lib.hid (HC.out.below hb)
    go_wp2_with fail
    refine (P1 _ HC1.out).out.mono ?_
    rintro e w' ⟨rfl, rfl⟩
    go_wp2_with fail
    refine (P2 _ HC1.out).out.mono ?_
    rintro e w' ⟨rfl, rfl⟩
    go_wp2_with fail
    go_ret
    exact ⟨rfl, hb⟩

theorem walk_SizeSums (A : Option Addr) (n c : Nat) (xs : List Int) (w : World) (hn : n ≤ maxLen) (hc : Rd w A n xs) (hr : ∀ x ∈ xs, x ≤ 9223372036854775807) :
    Calls Try.prog 4 #[.slice A n c] w fun e w' => e = .returned (.bool true) ∧ Below w.heap.size w w' := by
  have HC := Lib.hid hc; clear hc
  have HR := Lib.hid hr; clear hr
  by_cases hl : 1000 < n
  · go_enter Try.func4, Try.ntmps4
    go_wp2_with fail
    refine (awake_true _).mono ?_
    rintro e w1 ⟨rfl, _, hb⟩
    go_wp2_with fail
    refine (awake_true _).mono ?_
    rintro e w2 ⟨rfl, _, hb2⟩
    go_wp2_with fail
    go_ret
    exact ⟨rfl, hb.trans (hb2.mono hb.size)⟩
  · have P1 := fun w' h => Lib.hid (sum_any A n c xs w' hn h)
    have P2 := fun w' h => Lib.hid (refSum_any A n c xs w' hn h HR.out)
    generalize totN sumStep 0 xs = x1 at *
    generalize totE sumStep 0 xs = x2 at *
    go_enter Try.func4, Try.ntmps4
    go_wp2_with fail
    refine (awake_true _).mono ?_
    rintro e w1 ⟨rfl, _, hb⟩
    have HC1 := Lib.hid (HC.out.below hb)
    go_wp2_with fail
    refine (P1 _ HC1.out).out.mono ?_
    rintro e w' ⟨rfl, rfl⟩
    go_wp2_with fail
    refine (P2 _ HC1.out).out.mono ?_
    rintro e w' ⟨rfl, rfl⟩
    go_wp2_with fail
    go_ret
    exact ⟨rfl, hb⟩

set_option maxHeartbeats 1000000 in
theorem mods_great (k n t r : Int) (k1 : -9223372036854775808 ≤ k) (k2 : k ≤ 9223372036854775807) (hN : n ≤ 9223372036854775807) (hn : 0 < n) (hr : r = k % n) (hb : 1099511627776 < k ∨ k < -1099511627776 ∨ 1048576 < n)
    (r1 : 0 ≤ r) (r2 : r < n)
    (hs : (0 ≤ k ∧ 0 ≤ k - r ∧ ((k - r) % n != 0) = false) ∨ (k < 0 ∧ 0 ≤ k + (n - r)) ∨ (k < 0 ∧ k + (n - r) < 0 ∧ ((k + (n - r)).tmod n != 0) = false)) (w : World) :
    Calls Try.prog 7 #[.int .i64 k, .int .i64 n, .int .i16 t] w fun e w' => e = .returned (.bool true) ∧ Grown w w' := by
  have M1 := fun w' => Lib.hid (mod_some (k := k) (n := n) w' hn hN k1 k2)
  rw [← hr] at M1
  clear hr
  have hb : 1099511627776 < k ∨ (k ≤ 1099511627776 ∧ k < -1099511627776) ∨ (k ≤ 1099511627776 ∧ -1099511627776 ≤ k ∧ 1048576 < n) := by omega
  rcases hs with ⟨s1, s2, s3⟩ | ⟨s1, s2⟩ | ⟨s1, s2, s3⟩ <;> rcases hb with b1 | ⟨b1, b2⟩ | ⟨b1, b2, b3⟩
  all_goals first | (exfalso; omega) | skip
  all_goals
    go_enter Try.func7, Try.ntmps7
    go_wp2_with fail
    refine (awake_true _).mono ?_
    rintro e w1 ⟨rfl, hg, _⟩
    go_wp2_with fail
    refine (M1 _).out.mono ?_
    rintro e w' ⟨rfl, rfl⟩
    go_wp2_with fail
    go_ret
    exact ⟨rfl, hg⟩

set_option maxHeartbeats 1000000 in
theorem mods_small (k n t r : Int) (k1 : -1099511627776 ≤ k) (k2 : k ≤ 1099511627776) (hN : n ≤ 1048576) (hn : 0 < n) (t1 : -32768 ≤ t) (t2 : t ≤ 32767) (hr : r = k % n)
    (r1 : 0 ≤ r) (r2 : r < n)
    (hs : (0 ≤ k ∧ 0 ≤ k - r ∧ ((k - r) % n != 0) = false) ∨ (k < 0 ∧ 0 ≤ k + (n - r)) ∨ (k < 0 ∧ k + (n - r) < 0 ∧ ((k + (n - r)).tmod n != 0) = false)) (w : World) :
    Calls Try.prog 7 #[.int .i64 k, .int .i64 n, .int .i16 t] w fun e w' => e = .returned (.bool true) ∧ Grown w w' := by
  have p1 : t * n ≤ 34359738368 := by
    have := Int.mul_le_mul_of_nonneg_right t2 (by omega : 0 ≤ n); omega
  have p2 : -34359738368 ≤ t * n := by
    have := Int.mul_le_mul_of_nonneg_right t1 (by omega : 0 ≤ n); omega
  have M1 := fun w' => Lib.hid (mod_some (k := k) (n := n) w' hn (by omega) (by omega) (by omega))
  have M2 := fun w' => Lib.hid (mod_some (k := k + t * n) (n := n) w' hn (by omega) (by omega) (by omega))
  have e : (k + t * n) % n = k % n := Int.add_mul_emod_self_right k t n
  rw [e] at M2
  have M3 := fun w' (a : -100000 ≤ k) (b : k ≤ 100000) => Lib.hid (refMod_some (k := k) (n := n) w' hn hN a b)
  rw [← hr] at M1 M2 M3
  clear hr e
  have hb : 100000 < k ∨ (k ≤ 100000 ∧ k < -100000) ∨ (k ≤ 100000 ∧ -100000 ≤ k) := by omega
  rcases hs with ⟨s1, s2, s3⟩ | ⟨s1, s2⟩ | ⟨s1, s2, s3⟩ <;> rcases hb with b1 | ⟨b1, b2⟩ | ⟨b1, b2⟩
  all_goals first | (exfalso; omega) | skip
  all_goals
    go_enter Try.func7, Try.ntmps7
    go_wp2_with fail
    refine (awake_true _).mono ?_
    rintro e w1 ⟨rfl, hg, _⟩
    go_wp2_with fail
    refine (M1 _).out.mono ?_
    rintro e w' ⟨rfl, rfl⟩
    go_wp2_with fail
    refine (M2 _).out.mono ?_
    rintro e w' ⟨rfl, rfl⟩
    go_wp2_with fail
    first
      | (go_ret
         exact ⟨rfl, hg⟩)
      | (refine (M3 _ (by omega) (by omega)).out.mono ?_
         rintro e w' ⟨rfl, rfl⟩
         go_wp2_with fail
         go_ret
         exact ⟨rfl, hg⟩)

theorem mods_some (k n t r : Int) (bk : -9223372036854775808 ≤ k ∧ k ≤ 9223372036854775807) (hN : n ≤ 9223372036854775807) (bt : -32768 ≤ t ∧ t ≤ 32767) (hn : 0 < n) (hr : r = k % n) (w : World) :
    Calls Try.prog 7 #[.int .i64 k, .int .i64 n, .int .i16 t] w fun e w' => e = .returned (.bool true) ∧ Grown w w' := by
  have r1 : 0 ≤ r := by rw [hr]; exact Int.emod_nonneg _ (by omega)
  have r2 : r < n := by rw [hr]; exact Int.emod_lt_of_pos _ hn
  have e0 := Int.emod_add_mul_ediv k n
  have dv : n ∣ k - r := ⟨k / n, by rw [hr]; omega⟩
  have dv2 : n ∣ k + (n - r) := by
    have : k + (n - r) = (k - r) + n := by omega
    rw [this]; exact Int.dvd_add dv (Int.dvd_refl n)
  have hs : (0 ≤ k ∧ 0 ≤ k - r ∧ ((k - r) % n != 0) = false) ∨ (k < 0 ∧ 0 ≤ k + (n - r)) ∨ (k < 0 ∧ k + (n - r) < 0 ∧ ((k + (n - r)).tmod n != 0) = false) := by
    by_cases hk : 0 ≤ k
    · refine .inl ⟨hk, ?_, by simpa using Int.emod_eq_zero_of_dvd dv⟩
      have : 0 ≤ n * (k / n) := Int.mul_nonneg (by omega) (Int.ediv_nonneg hk (by omega))
      rw [hr]; omega
    · by_cases hq : k + (n - r) < 0
      · exact .inr (.inr ⟨by omega, hq, by simpa using Int.tmod_eq_zero_of_dvd dv2⟩)
      · exact .inr (.inl ⟨by omega, by omega⟩)
  by_cases hb : 1099511627776 < k ∨ k < -1099511627776 ∨ 1048576 < n
  · exact mods_great k n t r bk.1 bk.2 hN hn hr hb r1 r2 hs w
  · exact mods_small k n t r (by omega) (by omega) (by omega) hn bt.1 bt.2 hr r1 r2 hs w

theorem walk_SizeMods (k n t : Int) (wk : (Lit.int .i64 k).wf = true) (wn : (Lit.int .i64 n).wf = true) (wt : (Lit.int .i16 t).wf = true) (w : World) :
    Calls Try.prog 7 #[.int .i64 k, .int .i64 n, .int .i16 t] w fun e w' => e = .returned (.bool true) ∧ Grown w w' := by
  have bk := Go.bounds_i64 wk
  have bn := Go.bounds_i64 wn
  have bt : -32768 ≤ t ∧ t ≤ 32767 := by
    simp [Lit.wf, IntKind.min, IntKind.max, IntKind.signed, IntKind.bits] at wt
    omega
  clear wk wn wt
  by_cases hn : n ≤ 0
  · have M1 := fun w' => Lib.hid (mod_none (k := k) (n := n) w' hn)
    go_enter Try.func7, Try.ntmps7
    go_wp2_with fail
    refine (awake_true _).mono ?_
    rintro e w1 ⟨rfl, hg, _⟩
    go_wp2_with fail
    refine (M1 _).out.mono ?_
    rintro e w' ⟨rfl, rfl⟩
    go_wp2_with fail
    go_ret
    exact ⟨rfl, hg⟩
  · exact mods_some k n t _ bk bn.2 bt (by omega) rfl w
end Go.Proofs.Ytledmpldchpidaa.fold
