/- Contracts of fold, total and Product of package size, over a slice that reads as a list of integers, and of its reference. -/
import Derived.Test.YtaegkiangjnmdaaMul
namespace Go.Proofs.Ytaegkiangjnmdaa.prod
open Go.ChangeShapes Go.WideShapes Go.ChangeAt Go.RowKit Go.Proofs.Ytaegkiangjnmdaa.mem Go.Proofs.Ytaegkiangjnmdaa.mul
set_option linter.unusedVariables false


def anyNeg (so : Bool) (n : Int) : Bool := so || decide (n < 0)
def anyBig (so : Bool) (n : Int) : Bool := so || decide (65536 < n)
def prodStep (so n : Int) : Int := if n = 0 then 0 else if mulB so n 65536 then mulN so n 65536 else 65537
theorem neg_step (so : Bool) (x : Int) (w : World) :
    Calls Try.prog 57 #[.bool so, .int .i64 x] w fun e w' => e = .returned (.bool (anyNeg so x)) ∧ w = w' := by
  unfold anyNeg
  cases so
  all_goals
    go_enter Try.func57, Try.ntmps57
    go_wp2
    go_ret
    exact ⟨by simp, rfl⟩

theorem big_step (so : Bool) (x : Int) (w : World) :
    Calls Try.prog 58 #[.bool so, .int .i64 x] w fun e w' => e = .returned (.bool (anyBig so x)) ∧ w = w' := by
  unfold anyBig
  cases so
  all_goals
    go_enter Try.func58, Try.ntmps58
    go_wp2
    go_ret
    exact ⟨by simp, rfl⟩

theorem prod_step (so x : Int) (w : World) (h1 : 0 ≤ so) (h2 : so ≤ 65537) (h3 : 0 ≤ x) (h4 : x ≤ 65536) :
    Calls Try.prog 54 #[.int .i64 so, .int .i64 x] w fun e w' => e = .returned (.int .i64 (prodStep so x)) ∧ w = w' := by
  by_cases c : x = 0
  · subst c
    have e : prodStep so 0 = 0 := by unfold prodStep; rw [if_pos rfl]
    rw [e]; clear e
    go_enter Try.func54, Try.ntmps54
    go_wp2
    go_ret
    exact ⟨rfl, rfl⟩
  · have c1 : (x == 0) = false := beq_eq_false_iff_ne.2 c
    have e : prodStep so x = if mulB so x 65536 then mulN so x 65536 else 65537 := by unfold prodStep; rw [if_neg c]
    cases hb : mulB so x 65536
    · have e : prodStep so x = 65537 := by rw [e, hb]; rfl
      rw [e]; clear e
      have hm := mul_any (a := so) (b := x) (l := 65536) w (by omega)
      rw [hb] at hm
      have HM := Lib.hid hm; clear hm hb
      go_enter Try.func54, Try.ntmps54
      go_wp2_with fail
      refine HM.out.mono ?_
      rintro e w' ⟨rfl, rfl⟩
      go_wp2_with fail
      go_ret
      exact ⟨rfl, rfl⟩
    · have e : prodStep so x = mulN so x 65536 := by rw [e, hb]; rfl
      rw [e]; clear e
      have hm := mul_any (a := so) (b := x) (l := 65536) w (by omega)
      rw [hb] at hm
      have HM := Lib.hid hm; clear hm hb
      go_enter Try.func54, Try.ntmps54
      go_wp2_with fail
      refine HM.out.mono ?_
      rintro e w' ⟨rfl, rfl⟩
      go_wp2_with fail
      go_ret
      exact ⟨rfl, rfl⟩

theorem take_foldl {α β : Type} (f : β → α → β) (s : β) (xs : List α) (k : Nat) (d : α) (h : k < xs.length) : (xs.take (k + 1)).foldl f s = f ((xs.take k).foldl f s) (xs.getD k d) := by
  rw [List.take_succ_eq_append_getElem h, List.foldl_append]
  simp [List.getD, List.getElem?_eq_getElem h]

theorem step_range (f : Int → Int → Int) (hf : ∀ s x, 0 ≤ s → s ≤ 65537 → 0 ≤ x → x ≤ 65536 → 0 ≤ f s x ∧ f s x ≤ 65537) : ∀ (xs : List Int) (s : Int), 0 ≤ s → s ≤ 65537 → (∀ x ∈ xs, 0 ≤ x ∧ x ≤ 65536) → 0 ≤ xs.foldl f s ∧ xs.foldl f s ≤ 65537
  | [], s, h1, h2, _ => ⟨h1, h2⟩
  | x :: xs, s, h1, h2, h => by
    have hx := h x (by simp)
    have := hf s x h1 h2 hx.1 hx.2
    exact step_range f hf xs (f s x) this.1 this.2 (fun y hy => h y (by simp [hy]))

theorem prod_range (s x : Int) (h1 : 0 ≤ s) (h2 : s ≤ 65537) (h3 : 0 ≤ x) (h4 : x ≤ 65536) : 0 ≤ prodStep s x ∧ prodStep s x ≤ 65537 := by
  unfold prodStep mulB mulN
  split
  · omega
  · split
    · rename_i h
      have h := of_decide_eq_true h
      rw [if_neg (by omega)]
      exact ⟨Int.mul_nonneg h1 h3, by omega⟩
    · omega

theorem fold_neg (A : Option Addr) (n c : Nat) (xs : List Int) (start : Bool) (w : World) (hn : n ≤ maxLen) (hc : Rd w A n xs) :
    Calls Try.prog 56 #[.slice A n c, .bool start, .func (.func 57) #[] #[]] w fun e w' => e = .returned (.bool (xs.foldl anyNeg start)) ∧ w = w' := by
  unfold maxLen at hn
  have HL := Lib.hid hc.1
  have HC := Lib.hid hc.2; clear hc
  go_enter Try.func56, Try.ntmps56
  go_wp2
  go_loop [7, 13] (fun so i => ∃ k : Nat, k ≤ n ∧ i = .int .i64 k ∧ ∃ s : Bool, so = .bool s ∧ Hid (s = (xs.take k).foldl anyNeg start)) (fun _ i => n - (intOf i).toNat)
  case atStart => exact ⟨0, Nat.zero_le _, rfl, start, rfl, Lib.hid rfl⟩
  case round =>
    obtain ⟨k, hk, rfl, s, rfl, Hs⟩ := hrel
    by_cases hlt : k < n
    · obtain ⟨ad, rfl, _, hx⟩ := HC.out k hlt
      go_wp2_with fail
      refine (neg_step _ _ _).mono ?_
      rintro e w' ⟨rfl, rfl⟩
      go_wp2_with fail
      go_round
      case rel => exact ⟨k + 1, by omega, by go_num, _, rfl, Lib.hid (by rw [Hs.out, take_foldl _ _ _ _ 0 (by rw [HL.out]; omega)]; rfl)⟩
      case measure => simp [intOf]; omega
    · go_wp2_with fail
      go_ret
      exact ⟨ret_bool (by rw [Hs.out, List.take_of_length_le (by rw [HL.out]; omega)]), rfl⟩

theorem fold_big (A : Option Addr) (n c : Nat) (xs : List Int) (start : Bool) (w : World) (hn : n ≤ maxLen) (hc : Rd w A n xs) :
    Calls Try.prog 56 #[.slice A n c, .bool start, .func (.func 58) #[] #[]] w fun e w' => e = .returned (.bool (xs.foldl anyBig start)) ∧ w = w' := by
  unfold maxLen at hn
  have HL := Lib.hid hc.1
  have HC := Lib.hid hc.2; clear hc
  go_enter Try.func56, Try.ntmps56
  go_wp2
  go_loop [7, 13] (fun so i => ∃ k : Nat, k ≤ n ∧ i = .int .i64 k ∧ ∃ s : Bool, so = .bool s ∧ Hid (s = (xs.take k).foldl anyBig start)) (fun _ i => n - (intOf i).toNat)
  case atStart => exact ⟨0, Nat.zero_le _, rfl, start, rfl, Lib.hid rfl⟩
  case round =>
    obtain ⟨k, hk, rfl, s, rfl, Hs⟩ := hrel
    by_cases hlt : k < n
    · obtain ⟨ad, rfl, _, hx⟩ := HC.out k hlt
      go_wp2_with fail
      refine (big_step _ _ _).mono ?_
      rintro e w' ⟨rfl, rfl⟩
      go_wp2_with fail
      go_round
      case rel => exact ⟨k + 1, by omega, by go_num, _, rfl, Lib.hid (by rw [Hs.out, take_foldl _ _ _ _ 0 (by rw [HL.out]; omega)]; rfl)⟩
      case measure => simp [intOf]; omega
    · go_wp2_with fail
      go_ret
      exact ⟨ret_bool (by rw [Hs.out, List.take_of_length_le (by rw [HL.out]; omega)]), rfl⟩

theorem fold_prod (A : Option Addr) (n c : Nat) (xs : List Int) (start : Int) (w : World) (hn : n ≤ maxLen) (hc : Rd w A n xs) (h0 : 0 ≤ start) (h1 : start ≤ 65537) (hr : ∀ x ∈ xs, 0 ≤ x ∧ x ≤ 65536) :
    Calls Try.prog 59 #[.slice A n c, .int .i64 start, .func (.func 54) #[] #[]] w fun e w' => e = .returned (.int .i64 (xs.foldl prodStep start)) ∧ w = w' := by
  unfold maxLen at hn
  have HL := Lib.hid hc.1
  have HC := Lib.hid hc.2; clear hc
  have HR := Lib.hid hr; clear hr
  go_enter Try.func59, Try.ntmps59
  go_wp2
  go_loop [7, 13] (fun so i => ∃ k : Nat, k ≤ n ∧ i = .int .i64 k ∧ ∃ s : Int, so = .int .i64 s ∧ Hid (s = (xs.take k).foldl prodStep start)) (fun _ i => n - (intOf i).toNat)
  case atStart => exact ⟨0, Nat.zero_le _, rfl, start, rfl, Lib.hid rfl⟩
  case round =>
    obtain ⟨k, hk, rfl, s, rfl, Hs⟩ := hrel
    by_cases hlt : k < n
    · obtain ⟨ad, rfl, _, hx⟩ := HC.out k hlt
      have hs := step_range prodStep prod_range (xs.take k) start h0 h1 (fun x hx => HR.out x (List.mem_of_mem_take hx))
      rw [← Hs.out] at hs
      have hy := HR.out (xs.getD k 0) (by rw [List.getD, List.getElem?_eq_getElem (by rw [HL.out]; omega)]; exact List.getElem_mem _)
      have HS := Lib.hid hs; have HY := Lib.hid hy; clear hs hy
      go_wp2_with fail
      refine (prod_step _ _ _ HS.out.1 HS.out.2 HY.out.1 HY.out.2).mono ?_
      rintro e w' ⟨rfl, rfl⟩
      go_wp2_with fail
      go_round
      case rel => exact ⟨k + 1, by omega, by go_num, _, rfl, Lib.hid (by rw [Hs.out, take_foldl _ _ _ _ 0 (by rw [HL.out]; omega)]; rfl)⟩
      case measure => simp [intOf]; omega
    · go_wp2_with fail
      go_ret
      exact ⟨ret_int (by rw [Hs.out, List.take_of_length_le (by rw [HL.out]; omega)]), rfl⟩


/-- What Product (f = prodStep, start 1) and Sum (f = sumStep, start 0) answer. -/
def totN (f : Int → Int → Int) (start : Int) (xs : List Int) : Int :=
  if xs.foldl anyNeg false || xs.foldl anyBig false then 0 else if 65536 < xs.foldl f start then 0 else xs.foldl f start
def totE (f : Int → Int → Int) (start : Int) (xs : List Int) : Int :=
  if xs.foldl anyNeg false then 6 else if xs.foldl anyBig false then 7 else if 65536 < xs.foldl f start then 7 else 0

theorem foldl_or (p : Int → Bool) (s : Bool) (xs : List Int) : xs.foldl (fun so n => so || p n) s = (s || xs.any p) := by
  induction xs generalizing s with
  | nil => simp
  | cons x xs ih => rw [List.foldl_cons, ih]; simp [Bool.or_assoc]
theorem neg_any (xs : List Int) : xs.foldl anyNeg false = xs.any (fun n => decide (n < 0)) := by
  show xs.foldl (fun so n => so || decide (n < 0)) false = _
  rw [foldl_or]; simp
theorem big_any (xs : List Int) : xs.foldl anyBig false = xs.any (fun n => decide (65536 < n)) := by
  show xs.foldl (fun so n => so || decide (65536 < n)) false = _
  rw [foldl_or]; simp
theorem in_range {xs : List Int} (h1 : xs.foldl anyNeg false = false) (h2 : xs.foldl anyBig false = false) : ∀ x ∈ xs, 0 ≤ x ∧ x ≤ 65536 := by
  rw [neg_any] at h1; rw [big_any] at h2
  intro x hx
  have a := List.any_eq_false.1 h1 x hx
  have b := List.any_eq_false.1 h2 x hx
  simp at a b
  omega

theorem prod_total (A : Option Addr) (n c : Nat) (xs : List Int) (w : World) (hn : n ≤ maxLen) (hc : Rd w A n xs) :
    Calls Try.prog 53 #[.slice A n c, .int .i64 1, .func (.func 54) #[] #[]] w fun e w' => e = .returned (.tuple #[.int .i64 (totN prodStep 1 xs), .int .i64 (totE prodStep 1 xs)]) ∧ w = w' := by
  have HC := Lib.hid hc; clear hc
  cases hN : xs.foldl anyNeg false
  · have c1 := fold_neg A n c xs false w hn HC.out
    rw [hN] at c1
    have C1 := Lib.hid c1; clear c1
    have c2 := fold_big A n c xs false w hn HC.out
    cases hB : xs.foldl anyBig false
    · rw [hB] at c2
      have C2 := Lib.hid c2; clear c2
      have hr := in_range hN hB
      have hs := step_range prodStep prod_range xs 1 (by omega) (by omega) hr
      have C3 := Lib.hid (fold_prod A n c xs 1 w hn HC.out (by omega) (by omega) hr)
      obtain ⟨r, hr⟩ : ∃ r, r = xs.foldl prodStep 1 := ⟨_, rfl⟩
      rw [← hr] at hs C3
      have HN := Lib.hid hN; have HB := Lib.hid hB; have HR := Lib.hid hr; clear hN hB hr
      by_cases hg : 65536 < r
      all_goals
        go_enter Try.func53, Try.ntmps53
        go_wp2_with fail
        refine C1.out.mono ?_
        rintro e w' ⟨rfl, rfl⟩
        go_wp2_with fail
        refine C2.out.mono ?_
        rintro e w' ⟨rfl, rfl⟩
        go_wp2_with fail
        refine C3.out.mono ?_
        rintro e w' ⟨rfl, rfl⟩
        go_wp2_with fail
        go_ret2
      · exact ⟨ret_two (by unfold totN; rw [HN.out, HB.out, ← HR.out]; simp [hg]) (by unfold totE; rw [HN.out, HB.out, ← HR.out]; simp [hg]), rfl⟩
      · exact ⟨ret_two (by unfold totN; rw [HN.out, HB.out, ← HR.out]; simp; omega) (by unfold totE; rw [HN.out, HB.out, ← HR.out]; simp; omega), rfl⟩
    · rw [hB] at c2
      have C2 := Lib.hid c2; clear c2
      have HN := Lib.hid hN; have HB := Lib.hid hB; clear hN hB
      go_enter Try.func53, Try.ntmps53
      go_wp2_with fail
      refine C1.out.mono ?_
      rintro e w' ⟨rfl, rfl⟩
      go_wp2_with fail
      refine C2.out.mono ?_
      rintro e w' ⟨rfl, rfl⟩
      go_wp2_with fail
      go_ret2
      exact ⟨ret_two (by unfold totN; rw [HN.out, HB.out]; simp) (by unfold totE; rw [HN.out, HB.out]; simp), rfl⟩
  · have c1 := fold_neg A n c xs false w hn HC.out
    rw [hN] at c1
    have C1 := Lib.hid c1; clear c1
    have HN := Lib.hid hN; clear hN
    go_enter Try.func53, Try.ntmps53
    go_wp2_with fail
    refine C1.out.mono ?_
    rintro e w' ⟨rfl, rfl⟩
    go_wp2_with fail
    go_ret2
    exact ⟨ret_two (by unfold totN; rw [HN.out]; simp) (by unfold totE; rw [HN.out]; simp), rfl⟩

theorem prod_any (A : Option Addr) (n c : Nat) (xs : List Int) (w : World) (hn : n ≤ maxLen) (hc : Rd w A n xs) :
    Calls Try.prog 50 #[.slice A n c] w fun e w' => e = .returned (.tuple #[.int .i64 (totN prodStep 1 xs), .int .i64 (totE prodStep 1 xs)]) ∧ w = w' := by
  have C1 := Lib.hid (prod_total A n c xs w hn hc)
  clear hc
  obtain ⟨a, ha⟩ : ∃ a, a = totN prodStep 1 xs := ⟨_, rfl⟩
  obtain ⟨b, hb⟩ : ∃ b, b = totE prodStep 1 xs := ⟨_, rfl⟩
  rw [← ha, ← hb] at C1 ⊢
  clear ha hb
  go_enter Try.func50, Try.ntmps50
  go_wp2_with fail
  refine C1.out.mono ?_
  rintro e w' ⟨rfl, rfl⟩
  go_wp2_with fail
  go_ret2
  exact ⟨rfl, rfl⟩


theorem neg_answers {f : Int → Int → Int} {s : Int} {xs : List Int} {x : Int} (hx : x ∈ xs) (h : x < 0) : totN f s xs = 0 ∧ totE f s xs = 6 := by
  have e : xs.foldl anyNeg false = true := by rw [neg_any]; exact List.any_eq_true.2 ⟨x, hx, by simpa using h⟩
  unfold totN totE; rw [e]; simp
theorem neg_not {xs : List Int} (h : ∀ x ∈ xs, 0 ≤ x) : xs.foldl anyNeg false = false := by
  rw [neg_any, List.any_eq_false]; intro x hx; have := h x hx; simp; omega
theorem big_not {xs : List Int} (h : ∀ x ∈ xs, x ≤ 65536) : xs.foldl anyBig false = false := by
  rw [big_any, List.any_eq_false]; intro x hx; have := h x hx; simp; omega
theorem big_answers {f : Int → Int → Int} {s : Int} {xs : List Int} {x : Int} (hp : ∀ x ∈ xs, 0 ≤ x) (hx : x ∈ xs) (h : 65536 < x) : totN f s xs = 0 ∧ totE f s xs = 7 := by
  have e : xs.foldl anyBig false = true := by rw [big_any]; exact List.any_eq_true.2 ⟨x, hx, by simpa using h⟩
  unfold totN totE; rw [e, neg_not hp]; simp
theorem all_answers {f : Int → Int → Int} {s : Int} {xs : List Int} (hp : ∀ x ∈ xs, 0 ≤ x ∧ x ≤ 65536) (h : xs.foldl f s ≤ 65536) : totN f s xs = xs.foldl f s ∧ totE f s xs = 0 := by
  unfold totN totE; rw [neg_not fun x hx => (hp x hx).1, big_not fun x hx => (hp x hx).2]; simp; omega
theorem over_answers {f : Int → Int → Int} {s : Int} {xs : List Int} (hp : ∀ x ∈ xs, 0 ≤ x ∧ x ≤ 65536) (h : 65536 < xs.foldl f s) : totN f s xs = 0 ∧ totE f s xs = 7 := by
  unfold totN totE; rw [neg_not fun x hx => (hp x hx).1, big_not fun x hx => (hp x hx).2]; simp [h]

theorem prod_zero : ∀ (xs : List Int) (s : Int), 0 ∈ xs → (∀ x ∈ xs, 0 ≤ x ∧ x ≤ 65536) → 0 ≤ s → xs.foldl prodStep s = 0 := by
  have z : ∀ (xs : List Int), (∀ x ∈ xs, 0 ≤ x ∧ x ≤ 65536) → xs.foldl prodStep 0 = 0 := by
    intro xs
    induction xs with
    | nil => intro _; rfl
    | cons x xs ih =>
      intro h
      have hx := h x (by simp)
      have e : prodStep 0 x = 0 := by
        unfold prodStep mulB mulN
        split
        · rfl
        · rw [if_pos (decide_eq_true (by omega)), if_neg (by omega)]; omega
      rw [List.foldl_cons, e]
      exact ih fun y hy => h y (by simp [hy])
  intro xs
  induction xs with
  | nil => intro s h; simp at h
  | cons x xs ih =>
    intro s hm h hs
    rw [List.foldl_cons]
    by_cases e : x = 0
    · have e1 : prodStep s x = 0 := by unfold prodStep; rw [if_pos e]
      rw [e1]; exact z xs fun y hy => h y (by simp [hy])
    · have hx := h x (by simp)
      refine ih _ ?_ (fun y hy => h y (by simp [hy])) ?_
      · rcases List.mem_cons.1 hm with h0 | h0
        · exact absurd h0.symm e
        · exact h0
      · unfold prodStep mulB mulN
        rw [if_neg e]
        split
        · split
          · omega
          · exact Int.mul_nonneg hs hx.1
        · omega
theorem prod_stays : ∀ (xs : List Int), (∀ x ∈ xs, 1 ≤ x ∧ x ≤ 65536) → xs.foldl prodStep 65537 = 65537
  | [], _ => rfl
  | x :: xs, h => by
    have hx := h x (by simp)
    have e : prodStep 65537 x = 65537 := by
      unfold prodStep mulB
      rw [if_neg (by omega), if_neg]
      simp
    rw [List.foldl_cons, e]
    exact prod_stays xs fun y hy => h y (by simp [hy])
theorem foldl_split {α β : Type} (f : β → α → β) (s : β) (xs : List α) (k : Nat) (x : α) (h : xs[k]? = some x) : xs.foldl f s = (xs.drop (k + 1)).foldl f (f ((xs.take k).foldl f s) x) := by
  have e : xs = xs.take k ++ x :: xs.drop (k + 1) := by
    obtain ⟨hk, rfl⟩ := List.getElem?_eq_some_iff.1 h
    rw [← List.drop_eq_getElem_cons hk, List.take_append_drop]
  conv => lhs; rw [e]
  rw [List.foldl_append, List.foldl_cons]
theorem prod_over {xs : List Int} {k : Nat} {x : Int} (h : xs[k]? = some x) (hp : ∀ y ∈ xs, 1 ≤ y ∧ y ≤ 65536) (hs1 : 1 ≤ (xs.take k).foldl prodStep 1) (hs : (xs.take k).foldl prodStep 1 ≤ 65536) (hg : 65536 < (xs.take k).foldl prodStep 1 * x) :
    totN prodStep 1 xs = 0 ∧ totE prodStep 1 xs = 7 := by
  have hx := hp x (mem_at h)
  refine over_answers (fun y hy => ⟨by have := hp y hy; omega, (hp y hy).2⟩) ?_
  have e : prodStep ((xs.take k).foldl prodStep 1) x = 65537 := by
    generalize (xs.take k).foldl prodStep 1 = s at *
    unfold prodStep mulB
    rw [if_neg (by omega), if_neg]
    simp; omega
  rw [foldl_split _ _ _ k x h, e, prod_stays _ fun y hy => hp y (List.mem_of_mem_drop hy)]
  omega
theorem prod_next {s x : Int} (h1 : 1 ≤ s) (h2 : 1 ≤ x) (h3 : s ≤ 65536) (h4 : x ≤ 65536) (h : s * x ≤ 65536) : prodStep s x = s * x := by
  have : 0 ≤ s * x := Int.mul_nonneg (by omega) (by omega)
  unfold prodStep mulB mulN
  rw [if_neg (by omega), if_pos (decide_eq_true (by omega)), if_neg (by omega)]
theorem mul_bound {s x : Int} (h1 : 1 ≤ s) (h2 : 1 ≤ x) (h3 : s ≤ 65536) (h4 : x ≤ 65536) : 1 ≤ s * x ∧ s * x ≤ 4294967296 := by
  refine ⟨?_, ?_⟩
  · have := Int.mul_le_mul h1 h2 (by omega) (by omega); omega
  · have := Int.mul_le_mul h3 h4 (by omega) (by omega); omega


end Go.Proofs.Ytaegkiangjnmdaa.prod
