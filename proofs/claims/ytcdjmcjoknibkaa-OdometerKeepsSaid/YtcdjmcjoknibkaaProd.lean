/- Contracts of fold, total and Product of package size, over a slice that reads as a list of integers, and of its reference. -/
import Derived.Test.YtcdjmcjoknibkaaMul
namespace Go.Proofs.Ytcdjmcjoknibkaa.prod
open Go.ChangeShapes Go.WideShapes Go.ChangeAt Go.RowKit Go.Proofs.Ytcdjmcjoknibkaa.mem Go.Proofs.Ytcdjmcjoknibkaa.mul
set_option linter.unusedVariables false


def anyNeg (so : Bool) (n : Int) : Bool := so || decide (n < 0)
def anyBig (so : Bool) (n : Int) : Bool := so || decide (65536 < n)
def prodStep (so n : Int) : Int := if n = 0 then 0 else if mulB so n 65536 then mulN so n 65536 else 65537

theorem take_foldl {α β : Type} (f : β → α → β) (s : β) (xs : List α) (k : Nat) (d : α) (h : k < xs.length) : (xs.take (k + 1)).foldl f s = f ((xs.take k).foldl f s) (xs.getD k d) := by
  rw [List.take_succ_eq_append_getElem h, List.foldl_append]
  simp [List.getD, List.getElem?_eq_getElem h]

theorem step_range (f : Int → Int → Int) (hf : ∀ s x, 0 ≤ s → s ≤ 65537 → 0 ≤ x → x ≤ 65536 → 0 ≤ f s x ∧ f s x ≤ 65537) : ∀ (xs : List Int) (s : Int), 0 ≤ s → s ≤ 65537 → (∀ x ∈ xs, 0 ≤ x ∧ x ≤ 65536) → 0 ≤ xs.foldl f s ∧ xs.foldl f s ≤ 65537
  | [], s, h1, h2, _ => ⟨h1, h2⟩
  | x :: xs, s, h1, h2, h => by
    have hx := h x (by simp)
    have := hf s x h1 h2 hx.1 hx.2
    exact step_range f hf xs (f s x) this.1 this.2 (fun y hy => h y (by simp [hy]))

theorem prod_range (s x : Int) (h1 : 0 ≤ s) (h2 : s ≤ 65537) (h3 : 0 ≤ x) (h4 : x ≤ 65536) : 0 ≤ prodStep s x ∧ prodStep s x ≤ 65537 := by
  unfold prodStep mulB mulN
  split
  · omega
  · split
    · rename_i h
      have h := of_decide_eq_true h
      rw [if_neg (by omega)]
      exact ⟨Int.mul_nonneg h1 h3, by omega⟩
    · omega



/-- What Product (f = prodStep, start 1) and Sum (f = sumStep, start 0) answer. -/
def totN (f : Int → Int → Int) (start : Int) (xs : List Int) : Int :=
  if xs.foldl anyNeg false || xs.foldl anyBig false then 0 else if 65536 < xs.foldl f start then 0 else xs.foldl f start
def totE (f : Int → Int → Int) (start : Int) (xs : List Int) : Int :=
  if xs.foldl anyNeg false then 6 else if xs.foldl anyBig false then 7 else if 65536 < xs.foldl f start then 7 else 0

theorem foldl_or (p : Int → Bool) (s : Bool) (xs : List Int) : xs.foldl (fun so n => so || p n) s = (s || xs.any p) := by
  induction xs generalizing s with
  | nil => simp
  | cons x xs ih => rw [List.foldl_cons, ih]; simp [Bool.or_assoc]
theorem neg_any (xs : List Int) : xs.foldl anyNeg false = xs.any (fun n => decide (n < 0)) := by
  show xs.foldl (fun so n => so || decide (n < 0)) false = _
  rw [foldl_or]; simp
theorem big_any (xs : List Int) : xs.foldl anyBig false = xs.any (fun n => decide (65536 < n)) := by
  show xs.foldl (fun so n => so || decide (65536 < n)) false = _
  rw [foldl_or]; simp
theorem in_range {xs : List Int} (h1 : xs.foldl anyNeg false = false) (h2 : xs.foldl anyBig false = false) : ∀ x ∈ xs, 0 ≤ x ∧ x ≤ 65536 := by
  rw [neg_any] at h1; rw [big_any] at h2
  intro x hx
  have a := List.any_eq_false.1 h1 x hx
  have b := List.any_eq_false.1 h2 x hx
  simp at a b
  omega



theorem neg_answers {f : Int → Int → Int} {s : Int} {xs : List Int} {x : Int} (hx : x ∈ xs) (h : x < 0) : totN f s xs = 0 ∧ totE f s xs = 6 := by
  have e : xs.foldl anyNeg false = true := by rw [neg_any]; exact List.any_eq_true.2 ⟨x, hx, by simpa using h⟩
  unfold totN totE; rw [e]; simp
theorem neg_not {xs : List Int} (h : ∀ x ∈ xs, 0 ≤ x) : xs.foldl anyNeg false = false := by
  rw [neg_any, List.any_eq_false]; intro x hx; have := h x hx; simp; omega
theorem big_not {xs : List Int} (h : ∀ x ∈ xs, x ≤ 65536) : xs.foldl anyBig false = false := by
  rw [big_any, List.any_eq_false]; intro x hx; have := h x hx; simp; omega
theorem big_answers {f : Int → Int → Int} {s : Int} {xs : List Int} {x : Int} (hp : ∀ x ∈ xs, 0 ≤ x) (hx : x ∈ xs) (h : 65536 < x) : totN f s xs = 0 ∧ totE f s xs = 7 := by
  have e : xs.foldl anyBig false = true := by rw [big_any]; exact List.any_eq_true.2 ⟨x, hx, by simpa using h⟩
  unfold totN totE; rw [e, neg_not hp]; simp
theorem all_answers {f : Int → Int → Int} {s : Int} {xs : List Int} (hp : ∀ x ∈ xs, 0 ≤ x ∧ x ≤ 65536) (h : xs.foldl f s ≤ 65536) : totN f s xs = xs.foldl f s ∧ totE f s xs = 0 := by
  unfold totN totE; rw [neg_not fun x hx => (hp x hx).1, big_not fun x hx => (hp x hx).2]; simp; omega
theorem over_answers {f : Int → Int → Int} {s : Int} {xs : List Int} (hp : ∀ x ∈ xs, 0 ≤ x ∧ x ≤ 65536) (h : 65536 < xs.foldl f s) : totN f s xs = 0 ∧ totE f s xs = 7 := by
  unfold totN totE; rw [neg_not fun x hx => (hp x hx).1, big_not fun x hx => (hp x hx).2]; simp [h]

theorem prod_zero : ∀ (xs : List Int) (s : Int), 0 ∈ xs → (∀ x ∈ xs, 0 ≤ x ∧ x ≤ 65536) → 0 ≤ s → xs.foldl prodStep s = 0 := by
  have z : ∀ (xs : List Int), (∀ x ∈ xs, 0 ≤ x ∧ x ≤ 65536) → xs.foldl prodStep 0 = 0 := by
    intro xs
    induction xs with
    | nil => intro _; rfl
    | cons x xs ih =>
      intro h
      have hx := h x (by simp)
      have e : prodStep 0 x = 0 := by
        unfold prodStep mulB mulN
        split
        · rfl
        · rw [if_pos (decide_eq_true (by omega)), if_neg (by omega)]; omega
      rw [List.foldl_cons, e]
      exact ih fun y hy => h y (by simp [hy])
  intro xs
  induction xs with
  | nil => intro s h; simp at h
  | cons x xs ih =>
    intro s hm h hs
    rw [List.foldl_cons]
    by_cases e : x = 0
    · have e1 : prodStep s x = 0 := by unfold prodStep; rw [if_pos e]
      rw [e1]; exact z xs fun y hy => h y (by simp [hy])
    · have hx := h x (by simp)
      refine ih _ ?_ (fun y hy => h y (by simp [hy])) ?_
      · rcases List.mem_cons.1 hm with h0 | h0
        · exact absurd h0.symm e
        · exact h0
      · unfold prodStep mulB mulN
        rw [if_neg e]
        split
        · split
          · omega
          · exact Int.mul_nonneg hs hx.1
        · omega
theorem prod_stays : ∀ (xs : List Int), (∀ x ∈ xs, 1 ≤ x ∧ x ≤ 65536) → xs.foldl prodStep 65537 = 65537
  | [], _ => rfl
  | x :: xs, h => by
    have hx := h x (by simp)
    have e : prodStep 65537 x = 65537 := by
      unfold prodStep mulB
      rw [if_neg (by omega), if_neg]
      simp
    rw [List.foldl_cons, e]
    exact prod_stays xs fun y hy => h y (by simp [hy])
theorem foldl_split {α β : Type} (f : β → α → β) (s : β) (xs : List α) (k : Nat) (x : α) (h : xs[k]? = some x) : xs.foldl f s = (xs.drop (k + 1)).foldl f (f ((xs.take k).foldl f s) x) := by
  have e : xs = xs.take k ++ x :: xs.drop (k + 1) := by
    obtain ⟨hk, rfl⟩ := List.getElem?_eq_some_iff.1 h
    rw [← List.drop_eq_getElem_cons hk, List.take_append_drop]
  conv => lhs; rw [e]
  rw [List.foldl_append, List.foldl_cons]
theorem prod_over {xs : List Int} {k : Nat} {x : Int} (h : xs[k]? = some x) (hp : ∀ y ∈ xs, 1 ≤ y ∧ y ≤ 65536) (hs1 : 1 ≤ (xs.take k).foldl prodStep 1) (hs : (xs.take k).foldl prodStep 1 ≤ 65536) (hg : 65536 < (xs.take k).foldl prodStep 1 * x) :
    totN prodStep 1 xs = 0 ∧ totE prodStep 1 xs = 7 := by
  have hx := hp x (mem_at h)
  refine over_answers (fun y hy => ⟨by have := hp y hy; omega, (hp y hy).2⟩) ?_
  have e : prodStep ((xs.take k).foldl prodStep 1) x = 65537 := by
    generalize (xs.take k).foldl prodStep 1 = s at *
    unfold prodStep mulB
    rw [if_neg (by omega), if_neg]
    simp; omega
  rw [foldl_split _ _ _ k x h, e, prod_stays _ fun y hy => hp y (List.mem_of_mem_drop hy)]
  omega
theorem prod_next {s x : Int} (h1 : 1 ≤ s) (h2 : 1 ≤ x) (h3 : s ≤ 65536) (h4 : x ≤ 65536) (h : s * x ≤ 65536) : prodStep s x = s * x := by
  have : 0 ≤ s * x := Int.mul_nonneg (by omega) (by omega)
  unfold prodStep mulB mulN
  rw [if_neg (by omega), if_pos (decide_eq_true (by omega)), if_neg (by omega)]
theorem mul_bound {s x : Int} (h1 : 1 ≤ s) (h2 : 1 ≤ x) (h3 : s ≤ 65536) (h4 : x ≤ 65536) : 1 ≤ s * x ∧ s * x ≤ 4294967296 := by
  refine ⟨?_, ?_⟩
  · have := Int.mul_le_mul h1 h2 (by omega) (by omega); omega
  · have := Int.mul_le_mul h3 h4 (by omega) (by omega); omega

theorem refProduct_any (A : Option Addr) (n c : Nat) (xs : List Int) (w : World) (hn : n ≤ maxLen) (hc : Rd w A n xs) :
    Calls Try.prog 28 #[.slice A n c] w fun e w' => e = .returned (.tuple #[.int .i64 (totN prodStep 1 xs), .int .i64 (totE prodStep 1 xs)]) ∧ w = w' := by
  unfold maxLen at hn
  have HL := Lib.hid hc.1
  have HC := Lib.hid hc; clear hc
  obtain ⟨tn, htn⟩ : ∃ a, a = totN prodStep 1 xs := ⟨_, rfl⟩
  obtain ⟨te, hte⟩ : ∃ b, b = totE prodStep 1 xs := ⟨_, rfl⟩
  rw [← htn, ← hte]
  have HT := Lib.hid (And.intro htn hte); clear htn hte
  go_enter Try.func28, Try.ntmps28
  go_wp2
  go_loop [4, 5] (fun z i => ∃ k : Nat, k ≤ n ∧ i = .int .i64 k ∧ ∃ b : Bool, z = .bool b ∧ Hid ((∀ y ∈ xs.take k, 0 ≤ y) ∧ (b = false → ∀ y ∈ xs.take k, 1 ≤ y) ∧ (b = true → 0 ∈ xs))) (fun _ i => n - (intOf i).toNat)
  case atStart => exact ⟨0, Nat.zero_le _, rfl, false, rfl, Lib.hid ⟨by simp, by simp, by simp⟩⟩
  case round =>
    obtain ⟨k, hk, rfl, b, rfl, Hs⟩ := hrel
    by_cases hlt : k < n
    · obtain ⟨ad, x, rfl, hx, hcell⟩ := HC.out.at_ hlt
      have HX := Lib.hid hx; clear hx
      by_cases hneg : x < 0
      · go_wp2_with fail
        go_ret2
        exact ⟨ret_two (by rw [HT.out.1]; exact (neg_answers (mem_at HX.out) hneg).1.symm) (by rw [HT.out.2]; exact (neg_answers (mem_at HX.out) hneg).2.symm), rfl⟩
      · by_cases hz : x = 0
        · have hz' : (x == 0) = true := by simpa using hz
          have HZ := Lib.hid hz; clear hz
          cases b
          all_goals
            go_wp2_with fail
            go_round
            case rel => exact ⟨k + 1, by omega, by go_num, true, rfl, Lib.hid ⟨all_snoc HX.out Hs.out.1 (by omega), by simp, fun _ => HZ.out ▸ mem_at HX.out⟩⟩
            case measure => simp [intOf]; omega
        · have hz' : (x == 0) = false := beq_eq_false_iff_ne.2 hz
          cases b
          all_goals
            go_wp2_with fail
            go_round
            case rel => exact ⟨k + 1, by omega, by go_num, _, rfl, Lib.hid ⟨all_snoc HX.out Hs.out.1 (by omega), fun hb => all_snoc HX.out (Hs.out.2.1 hb) (by omega), Hs.out.2.2⟩⟩
            case measure => simp [intOf]; omega
    · have HP := Lib.hid (all_take HL.out hlt Hs.out.1)
      go_wp2_with fail
      go_loop [6] (fun i => ∃ k : Nat, k ≤ n ∧ i = .int .i64 k ∧ Hid (∀ y ∈ xs.take k, y ≤ 65536)) (fun i => n - (intOf i).toNat)
      case atStart => exact ⟨0, Nat.zero_le _, rfl, Lib.hid (by simp)⟩
      case round =>
        obtain ⟨j, hj, rfl, Hj⟩ := hrel
        by_cases hlt2 : j < n
        · obtain ⟨ad, x, rfl, hx, hcell⟩ := HC.out.at_ hlt2
          have HX := Lib.hid hx; clear hx
          by_cases hbig : 65536 < x
          · go_wp2_with fail
            go_ret2
            exact ⟨ret_two (by rw [HT.out.1]; exact (big_answers HP.out (mem_at HX.out) hbig).1.symm) (by rw [HT.out.2]; exact (big_answers HP.out (mem_at HX.out) hbig).2.symm), rfl⟩
          · go_wp2_with fail
            go_round
            case rel => exact ⟨j + 1, by omega, by go_num, Lib.hid (all_snoc HX.out Hj.out (by omega))⟩
            case measure => simp [intOf]; omega
        · have HB := Lib.hid (all_take HL.out hlt2 Hj.out)
          have HPB : Hid (∀ y ∈ xs, 0 ≤ y ∧ y ≤ 65536) := Lib.hid fun y hy => ⟨HP.out y hy, HB.out y hy⟩
          cases b
          · have HO : Hid (∀ y ∈ xs, 1 ≤ y ∧ y ≤ 65536) := Lib.hid fun y hy => ⟨all_take HL.out hlt (Hs.out.2.1 rfl) y hy, HB.out y hy⟩
            go_wp2_with fail
            go_loop [7, 8] (fun s i => ∃ k : Nat, k ≤ n ∧ i = .int .i64 k ∧ ∃ m : Int, s = .int .i64 m ∧ 1 ≤ m ∧ m ≤ 65536 ∧ Hid (m = (xs.take k).foldl prodStep 1)) (fun _ i => n - (intOf i).toNat)
            case atStart => exact ⟨0, Nat.zero_le _, rfl, 1, rfl, by omega, by omega, Lib.hid (by simp)⟩
            case round =>
              obtain ⟨i, hi, rfl, m, rfl, m1, m2, Hm⟩ := hrel
              by_cases hlt3 : i < n
              · obtain ⟨ad, x, rfl, hx, hcell⟩ := HC.out.at_ hlt3
                have HX := Lib.hid hx; clear hx
                obtain ⟨x1, x2⟩ := HO.out x (mem_at HX.out)
                obtain ⟨p1, p2⟩ := mul_bound m1 x1 m2 x2
                by_cases hbig : 65536 < m * x
                · go_wp2_with fail
                  go_ret2
                  have hh := prod_over HX.out HO.out (by rw [← Hm.out]; exact m1) (by rw [← Hm.out]; exact m2) (by rw [← Hm.out]; exact hbig)
                  exact ⟨ret_two (by rw [HT.out.1]; exact hh.1.symm) (by rw [HT.out.2]; exact hh.2.symm), rfl⟩
                · go_wp2_with fail
                  go_round
                  case rel => exact ⟨i + 1, by omega, by go_num, _, rfl, by omega, by omega, Lib.hid (by rw [take_snoc HX.out, List.foldl_append, ← Hm.out]; exact (prod_next m1 x1 m2 x2 (by omega)).symm)⟩
                  case measure => simp [intOf]; omega
              · go_wp2_with fail
                go_ret2
                have e : m = xs.foldl prodStep 1 := by rw [Hm.out, List.take_of_length_le (by rw [HL.out]; omega)]
                have hh := all_answers HPB.out (f := prodStep) (s := 1) (by omega)
                exact ⟨ret_two (by rw [HT.out.1, hh.1, e]) (by rw [HT.out.2, hh.2]), rfl⟩
          · go_wp2_with fail
            go_ret2
            have e := prod_zero xs 1 (Hs.out.2.2 (by simp)) HPB.out (by omega)
            have hh := all_answers HPB.out (f := prodStep) (s := 1) (by omega)
            exact ⟨ret_two (by rw [HT.out.1, hh.1, e]) (by rw [HT.out.2, hh.2]), rfl⟩

end Go.Proofs.Ytcdjmcjoknibkaa.prod
