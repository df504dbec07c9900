/- The reference's Insert and Remove: what they make. -/
import Derived.Test.YtbjfflflegbfaaaDoorMem
namespace Go.Proofs.YtbjfflflegbfaaaDoor.redit
open Go.ChangeShapes Go.WideShapes Go.ChangeAt Go.RowKit Go.Proofs.YtbjfflflegbfaaaDoor.mem
set_option linter.unusedVariables false

def insUpto (xs : List Int) (a : Nat) (x : Int) (k : Nat) : List Int := if k ≤ a then xs.take k else xs.take a ++ [x] ++ (xs.drop a).take (k - a)
theorem ins_keep {xs : List Int} {a k : Nat} {x y : Int} (h : xs[k]? = some y) (hk : k < a) : insUpto xs a x (k + 1) = insUpto xs a x k ++ [y] := by
  unfold insUpto; rw [if_pos (by omega), if_pos (by omega), take_snoc h]
theorem ins_new {xs : List Int} {a : Nat} {x y : Int} (h : xs[a]? = some y) : insUpto xs a x (a + 1) = insUpto xs a x a ++ [x] ++ [y] := by
  obtain ⟨hk, rfl⟩ := List.getElem?_eq_some_iff.1 h
  unfold insUpto; rw [if_neg (by omega), if_pos (by omega), List.drop_eq_getElem_cons hk, show a + 1 - a = 0 + 1 from by omega, List.take_succ_cons]; simp
theorem ins_more {xs : List Int} {a k : Nat} {x y : Int} (h : xs[k]? = some y) (hk : a < k) : insUpto xs a x (k + 1) = insUpto xs a x k ++ [y] := by
  unfold insUpto; rw [if_neg (by omega), if_neg (by omega), show k + 1 - a = (k - a) + 1 from by omega, take_snoc (xs := xs.drop a) (k := k - a) (x := y) (by rw [List.getElem?_drop]; rw [show a + (k - a) = k from by omega]; exact h)]
  simp
theorem ins_full {xs : List Int} {a n : Nat} {x : Int} (h : xs.length = n) (ha : a < n) : insUpto xs a x n = xs.take a ++ [x] ++ xs.drop a := by
  unfold insUpto; rw [if_neg (by omega), List.take_of_length_le (i := n - a) (by rw [List.length_drop]; omega)]
theorem ins_last {xs : List Int} {n : Nat} {x : Int} (h : xs.length = n) : insUpto xs n x n ++ [x] = xs.take n ++ [x] ++ xs.drop n := by
  unfold insUpto; rw [if_pos (Nat.le_refl _), List.drop_eq_nil_of_le (by omega)]; simp
theorem ins_len {xs : List Int} {a k n : Nat} {x : Int} (h : xs.length = n) : (insUpto xs a x k).length ≤ n + 1 := by
  unfold insUpto; split <;> simp <;> omega

set_option maxHeartbeats 1000000 in
theorem refInsert_any (A : Option Addr) (n c : Nat) (xs : List Int) (a : Nat) (x : Int) (w : World) (h30 : n ≤ 1073741824) (hx : Rd w A n xs) (ha : a ≤ n) :
    Calls Tryd.prog 21 #[.slice A n c, .int .i64 a, .int .i64 x] w (Makes w (xs.take a ++ [x] ++ xs.drop a)) := by
  have HX := Lib.hid hx; clear hx
  obtain ⟨L, hL⟩ : ∃ L, L = xs.take a ++ [x] ++ xs.drop a := ⟨_, rfl⟩
  rw [← hL]
  have HL := Lib.hid hL; clear hL
  go_enter Tryd.func21, Tryd.ntmps21
  go_wp2_with fail
  go_loopw [7, 8] (fun v i wr => ∃ k : Nat, k ≤ n + 1 ∧ i = .int .i64 k ∧ Own wr w.heap.size v (if k ≤ n then insUpto xs a x k else xs.take a ++ [x] ++ xs.drop a) ∧ Below w.heap.size w wr) (fun _ i _ => n + 1 - (intOf i).toNat)
  case atStart => exact ⟨0, Nat.zero_le _, rfl, by rw [if_pos (Nat.zero_le _)]; exact own_nil _ _, Below.refl _ _⟩
  case round =>
    obtain ⟨k, hk, rfl, hown, hbel⟩ := hrel
    by_cases hlt : k < n
    · obtain ⟨ad, y, rfl, hy, hcell⟩ := (HX.out.below hbel).at_ hlt
      rw [if_pos (by omega)] at hown
      have hlen := ins_len (a := a) (k := k) (x := x) HX.out.1
      have hkn : (k : Int) ≤ (n : Int) := by omega
      by_cases hka : k = a
      · subst hka
        have HY := Lib.hid hy; clear hy
        have HLn := Lib.hid hlen; clear hlen
        go_wp2_with (first
          | (at_builtin; refine wpList_push rfl (.tmp 18) (.tmp 20) rfl _ _ rfl hown hbel _ _ rfl (by have := HLn.out; omega) ?_; intro v1 w1 hown1 hbel1; have hcell1 := (HX.out.below hbel1).cell_ HY.out)
          | (at_builtin; refine wpList_push rfl (.tmp 26) (.tmp 31) rfl _ _ rfl hown1 hbel1 _ _ rfl (by have := HLn.out; simp; omega) ?_; intro v2 w2 hown2 hbel2))
        go_roundw
        case rel => exact ⟨k + 1, by omega, by go_num, by rw [if_pos (by omega), ins_new HY.out]; exact hown2, hbel2⟩
        case measure => first | (simp [intOf]; done) | (simp [intOf]; omega)
      · have HN : Hid (insUpto xs a x (k + 1) = insUpto xs a x k ++ [y]) := by
          rcases Nat.lt_or_ge k a with h | h
          · exact Lib.hid (ins_keep hy h)
          · exact Lib.hid (ins_more hy (by omega))
        have HY := Lib.hid hy; clear hy
        have HLn := Lib.hid hlen; clear hlen
        have hka' : ¬ (k : Int) = (a : Int) := by omega
        have hka2 : ((k : Int) == (a : Int)) = false := beq_eq_false_iff_ne.2 hka'
        go_wp2_with (at_builtin; refine wpList_push rfl (.tmp 26) (.tmp 31) rfl _ _ rfl hown hbel _ _ rfl (by have := HLn.out; omega) ?_; intro v2 w2 hown2 hbel2)
        go_roundw
        case rel => exact ⟨k + 1, by omega, by go_num, by rw [if_pos (by omega), HN.out]; exact hown2, hbel2⟩
        case measure => first | (simp [intOf]; done) | (simp [intOf]; omega)
    · by_cases hkn : k = n
      · subst hkn
        rw [if_pos (Nat.le_refl _)] at hown
        have hlen := ins_len (a := a) (k := k) (x := x) HX.out.1
        have HLn := Lib.hid hlen; clear hlen
        by_cases hka : k = a
        · subst hka
          go_wp2_with (at_builtin; refine wpList_push rfl (.tmp 18) (.tmp 20) rfl _ _ rfl hown hbel _ _ rfl (by have := HLn.out; omega) ?_; intro v2 w2 hown2 hbel2)
          go_roundw
          case rel => exact ⟨k + 1, by omega, by go_num, by rw [if_neg (by omega), ← ins_last HX.out.1]; exact hown2, hbel2⟩
          case measure => first | (simp [intOf]; done) | (simp [intOf]; omega)
        · rw [ins_full HX.out.1 (by omega)] at hown
          have hka' : ¬ (k : Int) = (a : Int) := by omega
          have hka2 : ((k : Int) == (a : Int)) = false := beq_eq_false_iff_ne.2 hka'
          go_wp2_with fail
          go_roundw
          case rel => exact ⟨k + 1, by omega, by go_num, by rw [if_neg (by omega)]; exact hown, hbel⟩
          case measure => first | (simp [intOf]; done) | (simp [intOf]; omega)
      · rw [if_neg (by omega)] at hown
        have hkn2 : ¬ (k : Int) ≤ (n : Int) := by omega
        rw [← HL.out] at hown
        go_wp2_with fail
        go_ret
        exact ⟨_, rfl, hown, hbel⟩
theorem rem_skip {xs : List Int} {a : Nat} {y : Int} (h : xs[a]? = some y) : (xs.take (a + 1)).eraseIdx a = (xs.take a).eraseIdx a := by
  obtain ⟨hk, rfl⟩ := List.getElem?_eq_some_iff.1 h
  rw [List.take_succ_eq_append_getElem hk, List.eraseIdx_append_of_length_le (by simp; omega), List.eraseIdx_of_length_le (l := xs.take a) (by simp; omega)]
  simp [List.length_take, Nat.min_eq_left (Nat.le_of_lt hk)]
theorem rem_keep {xs : List Int} {a k : Nat} {y : Int} (h : xs[k]? = some y) (hka : k ≠ a) : (xs.take (k + 1)).eraseIdx a = (xs.take k).eraseIdx a ++ [y] := by
  obtain ⟨hk, rfl⟩ := List.getElem?_eq_some_iff.1 h
  rw [List.take_succ_eq_append_getElem hk]
  rcases Nat.lt_or_ge a k with hlt | hge
  · rw [List.eraseIdx_append_of_lt_length (by simp; omega)]
  · rw [List.eraseIdx_append_of_length_le (by simp; omega), List.eraseIdx_of_length_le (l := xs.take k) (by simp; omega), List.eraseIdx_of_length_le (by simp; omega)]
theorem rem_len {xs : List Int} {a k n : Nat} (h : xs.length = n) : ((xs.take k).eraseIdx a).length ≤ n := by
  have := List.length_eraseIdx_le (xs.take k) a
  rw [List.length_take] at this
  omega
set_option maxHeartbeats 1000000 in
theorem refRemove_any (A : Option Addr) (n c : Nat) (xs : List Int) (a : Nat) (w : World) (h30 : n ≤ 1073741824) (hx : Rd w A n xs) :
    Calls Tryd.prog 22 #[.slice A n c, .int .i64 a] w (Makes w (xs.eraseIdx a)) := by
  have HX := Lib.hid hx; clear hx
  go_enter Tryd.func22, Tryd.ntmps22
  go_wp2_with fail
  go_loopw [5, 6] (fun v i wr => ∃ k : Nat, k ≤ n ∧ i = .int .i64 k ∧ Own wr w.heap.size v ((xs.take k).eraseIdx a) ∧ Below w.heap.size w wr) (fun _ i _ => n - (intOf i).toNat)
  case atStart => exact ⟨0, Nat.zero_le _, rfl, by simpa using own_nil _ _, Below.refl _ _⟩
  case round =>
    obtain ⟨k, hk, rfl, hown, hbel⟩ := hrel
    by_cases hlt : k < n
    · obtain ⟨ad, y, rfl, hy, hcell⟩ := (HX.out.below hbel).at_ hlt
      have hlen := rem_len (a := a) (k := k) HX.out.1
      by_cases hka : k = a
      · subst hka
        have HN := Lib.hid (rem_skip hy); clear hy
        have HLn := Lib.hid hlen; clear hlen
        go_wp2_with fail
        go_roundw
        case rel => exact ⟨k + 1, by omega, by go_num, by rw [HN.out]; exact hown, hbel⟩
        case measure => first | (simp [intOf]; done) | (simp [intOf]; omega)
      · have HN := Lib.hid (rem_keep hy hka); clear hy
        have HLn := Lib.hid hlen; clear hlen
        have hka' : ¬ (k : Int) = (a : Int) := by omega
        have hka2 : ((k : Int) != (a : Int)) = true := by simpa using hka'
        go_wp2_with (at_builtin; refine wpList_push rfl (.tmp 16) (.tmp 21) rfl _ _ rfl hown hbel _ _ rfl (by have := HLn.out; omega) ?_; intro v2 w2 hown2 hbel2)
        go_roundw
        case rel => exact ⟨k + 1, by omega, by go_num, by rw [HN.out]; exact hown2, hbel2⟩
        case measure => first | (simp [intOf]; done) | (simp [intOf]; omega)
    · have hk' : k = n := by omega
      subst hk'
      rw [List.take_of_length_le (by rw [HX.out.1]; omega)] at hown
      go_wp2_with fail
      go_ret
      exact ⟨_, rfl, hown, hbel⟩
end Go.Proofs.YtbjfflflegbfaaaDoor.redit
