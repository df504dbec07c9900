/- Contracts of fold, total, Product and Sum of package size, over a slice that reads as a list of integers. -/
import Derived.Test.YtledmpldchpidaaNums2
namespace Go.Proofs.Ytledmpldchpidaa.fold
open Go.ChangeShapes Go.WideShapes Go.ChangeAt Go.RowKit Go.Proofs.Ytledmpldchpidaa.nums
set_option linter.unusedVariables false

theorem ret_bool {a b : Bool} (h : a = b) : Ending.returned (.bool a) = .returned (.bool b) := by rw [h]

/-- The slice value reads as the list of integers (below any block that the call makes). -/
def Rd (w : World) (A : Option Addr) (n : Nat) (xs : List Int) : Prop :=
  xs.length = n ∧ ∀ k, k < n → ∃ ad, A = some ad ∧ ad.block < w.heap.size ∧ w.cell? (ad.add k) = some (.int .i64 (xs.getD k 0))

def anyNeg (so : Bool) (n : Int) : Bool := so || decide (n < 0)
def anyBig (so : Bool) (n : Int) : Bool := so || decide (65536 < n)
def prodStep (so n : Int) : Int := if n = 0 then 0 else if mulB so n 65536 then mulN so n 65536 else 65537
def sumStep (so n : Int) : Int := if so + n ≤ 65537 then so + n else 65537

theorem neg_step (so : Bool) (x : Int) (w : World) :
    Calls Try.prog 24 #[.bool so, .int .i64 x] w fun e w' => e = .returned (.bool (anyNeg so x)) ∧ w = w' := by
  unfold anyNeg
  cases so
  all_goals
    go_enter Try.func24, Try.ntmps24
    go_wp2
    go_ret
    exact ⟨by simp, rfl⟩

theorem big_step (so : Bool) (x : Int) (w : World) :
    Calls Try.prog 25 #[.bool so, .int .i64 x] w fun e w' => e = .returned (.bool (anyBig so x)) ∧ w = w' := by
  unfold anyBig
  cases so
  all_goals
    go_enter Try.func25, Try.ntmps25
    go_wp2
    go_ret
    exact ⟨by simp, rfl⟩

theorem sum_step (so x : Int) (w : World) (h1 : 0 ≤ so) (h2 : so ≤ 65537) (h3 : 0 ≤ x) (h4 : x ≤ 65536) :
    Calls Try.prog 22 #[.int .i64 so, .int .i64 x] w fun e w' => e = .returned (.int .i64 (sumStep so x)) ∧ w = w' := by
  by_cases c : so + x ≤ 65537
  · have e : sumStep so x = so + x := by unfold sumStep; rw [if_pos c]
    rw [e]; clear e
    go_enter Try.func22, Try.ntmps22
    go_wp2
    all_goals
      go_ret
      exact ⟨ret_int (by omega), rfl⟩
  · have e : sumStep so x = 65537 := by unfold sumStep; rw [if_neg c]
    rw [e]; clear e
    go_enter Try.func22, Try.ntmps22
    go_wp2
    all_goals
      go_ret
      exact ⟨ret_int (by omega), rfl⟩

theorem prod_step (so x : Int) (w : World) (h1 : 0 ≤ so) (h2 : so ≤ 65537) (h3 : 0 ≤ x) (h4 : x ≤ 65536) :
    Calls Try.prog 21 #[.int .i64 so, .int .i64 x] w fun e w' => e = .returned (.int .i64 (prodStep so x)) ∧ w = w' := by
  by_cases c : x = 0
  · subst c
    have e : prodStep so 0 = 0 := by unfold prodStep; rw [if_pos rfl]
    rw [e]; clear e
    go_enter Try.func21, Try.ntmps21
    go_wp2
    go_ret
    exact ⟨rfl, rfl⟩
  · have c1 : (x == 0) = false := beq_eq_false_iff_ne.2 c
    have e : prodStep so x = if mulB so x 65536 then mulN so x 65536 else 65537 := by unfold prodStep; rw [if_neg c]
    cases hb : mulB so x 65536
    · have e : prodStep so x = 65537 := by rw [e, hb]; rfl
      rw [e]; clear e
      have hm := mul_any (a := so) (b := x) (l := 65536) w (by omega)
      rw [hb] at hm
      have HM := Lib.hid hm; clear hm hb
      go_enter Try.func21, Try.ntmps21
      go_wp2_with fail
      refine HM.out.mono ?_
      rintro e w' ⟨rfl, rfl⟩
      go_wp2_with fail
      go_ret
      exact ⟨rfl, rfl⟩
    · have e : prodStep so x = mulN so x 65536 := by rw [e, hb]; rfl
      rw [e]; clear e
      have hm := mul_any (a := so) (b := x) (l := 65536) w (by omega)
      rw [hb] at hm
      have HM := Lib.hid hm; clear hm hb
      go_enter Try.func21, Try.ntmps21
      go_wp2_with fail
      refine HM.out.mono ?_
      rintro e w' ⟨rfl, rfl⟩
      go_wp2_with fail
      go_ret
      exact ⟨rfl, rfl⟩

theorem take_foldl {α β : Type} (f : β → α → β) (s : β) (xs : List α) (k : Nat) (d : α) (h : k < xs.length) : (xs.take (k + 1)).foldl f s = f ((xs.take k).foldl f s) (xs.getD k d) := by
  rw [List.take_succ_eq_append_getElem h, List.foldl_append]
  simp [List.getD, List.getElem?_eq_getElem h]

theorem step_range (f : Int → Int → Int) (hf : ∀ s x, 0 ≤ s → s ≤ 65537 → 0 ≤ x → x ≤ 65536 → 0 ≤ f s x ∧ f s x ≤ 65537) : ∀ (xs : List Int) (s : Int), 0 ≤ s → s ≤ 65537 → (∀ x ∈ xs, 0 ≤ x ∧ x ≤ 65536) → 0 ≤ xs.foldl f s ∧ xs.foldl f s ≤ 65537
  | [], s, h1, h2, _ => ⟨h1, h2⟩
  | x :: xs, s, h1, h2, h => by
    have hx := h x (by simp)
    have := hf s x h1 h2 hx.1 hx.2
    exact step_range f hf xs (f s x) this.1 this.2 (fun y hy => h y (by simp [hy]))

theorem sum_range (s x : Int) (h1 : 0 ≤ s) (h2 : s ≤ 65537) (h3 : 0 ≤ x) (h4 : x ≤ 65536) : 0 ≤ sumStep s x ∧ sumStep s x ≤ 65537 := by
  unfold sumStep; split <;> omega
theorem prod_range (s x : Int) (h1 : 0 ≤ s) (h2 : s ≤ 65537) (h3 : 0 ≤ x) (h4 : x ≤ 65536) : 0 ≤ prodStep s x ∧ prodStep s x ≤ 65537 := by
  unfold prodStep mulB mulN
  split
  · omega
  · split
    · rename_i h
      have h := of_decide_eq_true h
      rw [if_neg (by omega)]
      exact ⟨Int.mul_nonneg h1 h3, by omega⟩
    · omega

theorem fold_neg (A : Option Addr) (n c : Nat) (xs : List Int) (start : Bool) (w : World) (hn : n ≤ maxLen) (hc : Rd w A n xs) :
    Calls Try.prog 23 #[.slice A n c, .bool start, .func (.func 24) #[] #[]] w fun e w' => e = .returned (.bool (xs.foldl anyNeg start)) ∧ w = w' := by
  unfold maxLen at hn
  have HL := Lib.hid hc.1
  have HC := Lib.hid hc.2; clear hc
  go_enter Try.func23, Try.ntmps23
  go_wp2
  go_loop [7, 13] (fun so i => ∃ k : Nat, k ≤ n ∧ i = .int .i64 k ∧ ∃ s : Bool, so = .bool s ∧ Hid (s = (xs.take k).foldl anyNeg start)) (fun _ i => n - (intOf i).toNat)
  case atStart => exact ⟨0, Nat.zero_le _, rfl, start, rfl, Lib.hid rfl⟩
  case round =>
    obtain ⟨k, hk, rfl, s, rfl, Hs⟩ := hrel
    by_cases hlt : k < n
    · obtain ⟨ad, rfl, _, hx⟩ := HC.out k hlt
      go_wp2_with fail
      refine (neg_step _ _ _).mono ?_
      rintro e w' ⟨rfl, rfl⟩
      go_wp2_with fail
      go_round
      case rel => exact ⟨k + 1, by omega, by go_num, _, rfl, Lib.hid (by rw [Hs.out, take_foldl _ _ _ _ 0 (by rw [HL.out]; omega)]; rfl)⟩
      case measure => simp [intOf]; omega
    · go_wp2_with fail
      go_ret
      exact ⟨ret_bool (by rw [Hs.out, List.take_of_length_le (by rw [HL.out]; omega)]), rfl⟩

theorem fold_big (A : Option Addr) (n c : Nat) (xs : List Int) (start : Bool) (w : World) (hn : n ≤ maxLen) (hc : Rd w A n xs) :
    Calls Try.prog 23 #[.slice A n c, .bool start, .func (.func 25) #[] #[]] w fun e w' => e = .returned (.bool (xs.foldl anyBig start)) ∧ w = w' := by
  unfold maxLen at hn
  have HL := Lib.hid hc.1
  have HC := Lib.hid hc.2; clear hc
  go_enter Try.func23, Try.ntmps23
  go_wp2
  go_loop [7, 13] (fun so i => ∃ k : Nat, k ≤ n ∧ i = .int .i64 k ∧ ∃ s : Bool, so = .bool s ∧ Hid (s = (xs.take k).foldl anyBig start)) (fun _ i => n - (intOf i).toNat)
  case atStart => exact ⟨0, Nat.zero_le _, rfl, start, rfl, Lib.hid rfl⟩
  case round =>
    obtain ⟨k, hk, rfl, s, rfl, Hs⟩ := hrel
    by_cases hlt : k < n
    · obtain ⟨ad, rfl, _, hx⟩ := HC.out k hlt
      go_wp2_with fail
      refine (big_step _ _ _).mono ?_
      rintro e w' ⟨rfl, rfl⟩
      go_wp2_with fail
      go_round
      case rel => exact ⟨k + 1, by omega, by go_num, _, rfl, Lib.hid (by rw [Hs.out, take_foldl _ _ _ _ 0 (by rw [HL.out]; omega)]; rfl)⟩
      case measure => simp [intOf]; omega
    · go_wp2_with fail
      go_ret
      exact ⟨ret_bool (by rw [Hs.out, List.take_of_length_le (by rw [HL.out]; omega)]), rfl⟩

theorem fold_sum (A : Option Addr) (n c : Nat) (xs : List Int) (start : Int) (w : World) (hn : n ≤ maxLen) (hc : Rd w A n xs) (h0 : 0 ≤ start) (h1 : start ≤ 65537) (hr : ∀ x ∈ xs, 0 ≤ x ∧ x ≤ 65536) :
    Calls Try.prog 26 #[.slice A n c, .int .i64 start, .func (.func 22) #[] #[]] w fun e w' => e = .returned (.int .i64 (xs.foldl sumStep start)) ∧ w = w' := by
  unfold maxLen at hn
  have HL := Lib.hid hc.1
  have HC := Lib.hid hc.2; clear hc
  have HR := Lib.hid hr; clear hr
  go_enter Try.func26, Try.ntmps26
  go_wp2
  go_loop [7, 13] (fun so i => ∃ k : Nat, k ≤ n ∧ i = .int .i64 k ∧ ∃ s : Int, so = .int .i64 s ∧ Hid (s = (xs.take k).foldl sumStep start)) (fun _ i => n - (intOf i).toNat)
  case atStart => exact ⟨0, Nat.zero_le _, rfl, start, rfl, Lib.hid rfl⟩
  case round =>
    obtain ⟨k, hk, rfl, s, rfl, Hs⟩ := hrel
    by_cases hlt : k < n
    · obtain ⟨ad, rfl, _, hx⟩ := HC.out k hlt
      have hs := step_range sumStep sum_range (xs.take k) start h0 h1 (fun x hx => HR.out x (List.mem_of_mem_take hx))
      rw [← Hs.out] at hs
      have hy := HR.out (xs.getD k 0) (by rw [List.getD, List.getElem?_eq_getElem (by rw [HL.out]; omega)]; exact List.getElem_mem _)
      have HS := Lib.hid hs; have HY := Lib.hid hy; clear hs hy
      go_wp2_with fail
      refine (sum_step _ _ _ HS.out.1 HS.out.2 HY.out.1 HY.out.2).mono ?_
      rintro e w' ⟨rfl, rfl⟩
      go_wp2_with fail
      go_round
      case rel => exact ⟨k + 1, by omega, by go_num, _, rfl, Lib.hid (by rw [Hs.out, take_foldl _ _ _ _ 0 (by rw [HL.out]; omega)]; rfl)⟩
      case measure => simp [intOf]; omega
    · go_wp2_with fail
      go_ret
      exact ⟨ret_int (by rw [Hs.out, List.take_of_length_le (by rw [HL.out]; omega)]), rfl⟩

theorem fold_prod (A : Option Addr) (n c : Nat) (xs : List Int) (start : Int) (w : World) (hn : n ≤ maxLen) (hc : Rd w A n xs) (h0 : 0 ≤ start) (h1 : start ≤ 65537) (hr : ∀ x ∈ xs, 0 ≤ x ∧ x ≤ 65536) :
    Calls Try.prog 26 #[.slice A n c, .int .i64 start, .func (.func 21) #[] #[]] w fun e w' => e = .returned (.int .i64 (xs.foldl prodStep start)) ∧ w = w' := by
  unfold maxLen at hn
  have HL := Lib.hid hc.1
  have HC := Lib.hid hc.2; clear hc
  have HR := Lib.hid hr; clear hr
  go_enter Try.func26, Try.ntmps26
  go_wp2
  go_loop [7, 13] (fun so i => ∃ k : Nat, k ≤ n ∧ i = .int .i64 k ∧ ∃ s : Int, so = .int .i64 s ∧ Hid (s = (xs.take k).foldl prodStep start)) (fun _ i => n - (intOf i).toNat)
  case atStart => exact ⟨0, Nat.zero_le _, rfl, start, rfl, Lib.hid rfl⟩
  case round =>
    obtain ⟨k, hk, rfl, s, rfl, Hs⟩ := hrel
    by_cases hlt : k < n
    · obtain ⟨ad, rfl, _, hx⟩ := HC.out k hlt
      have hs := step_range prodStep prod_range (xs.take k) start h0 h1 (fun x hx => HR.out x (List.mem_of_mem_take hx))
      rw [← Hs.out] at hs
      have hy := HR.out (xs.getD k 0) (by rw [List.getD, List.getElem?_eq_getElem (by rw [HL.out]; omega)]; exact List.getElem_mem _)
      have HS := Lib.hid hs; have HY := Lib.hid hy; clear hs hy
      go_wp2_with fail
      refine (prod_step _ _ _ HS.out.1 HS.out.2 HY.out.1 HY.out.2).mono ?_
      rintro e w' ⟨rfl, rfl⟩
      go_wp2_with fail
      go_round
      case rel => exact ⟨k + 1, by omega, by go_num, _, rfl, Lib.hid (by rw [Hs.out, take_foldl _ _ _ _ 0 (by rw [HL.out]; omega)]; rfl)⟩
      case measure => simp [intOf]; omega
    · go_wp2_with fail
      go_ret
      exact ⟨ret_int (by rw [Hs.out, List.take_of_length_le (by rw [HL.out]; omega)]), rfl⟩

end Go.Proofs.Ytledmpldchpidaa.fold
