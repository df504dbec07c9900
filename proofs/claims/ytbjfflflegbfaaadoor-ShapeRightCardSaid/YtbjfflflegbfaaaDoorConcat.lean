/- slices.Grow at nil and slices.Concat at integers: what they make. -/
import Derived.Test.YtbjfflflegbfaaaDoorMem
import Derived.Lib.AppendZeros
namespace Go.Proofs.YtbjfflflegbfaaaDoor.cat
open Go.ChangeShapes Go.WideShapes Go.ChangeAt Go.RowKit Go.Proofs.YtbjfflflegbfaaaDoor.mem
set_option linter.unusedVariables false

theorem grow_none (w : World) : Calls Tryd.prog 46 #[.slice none 0 0, .int .i64 0] w (Makes w []) := by
  go_enter Tryd.func46, Tryd.ntmps46
  go_wp2_with fail
  go_ret
  exact ⟨_, rfl, own_nil _ _, Below.refl _ _⟩

theorem grow_some (n : Nat) (w : World) (h0 : 0 < n) (h40 : n ≤ 1099511627776) : Calls Tryd.prog 46 #[.slice none 0 0, .int .i64 n] w (Makes w []) := by
  obtain ⟨i0, hi0, hz0, hz1, hz2⟩ := info_parts int_info
  have hr := fun W => Lib.run_append_nil_zeros (P := Tryd.prog) W 22 3 22 3 i0 _ .i64 .i64 Tryd.underlying22 Tryd.underlying3 hi0 hz0 n h0 (by omega) (by omega) (by rw [hz2]; omega)
  have HR := Lib.hid hr; clear hr
  have hcap := fun W => grownCap_ge W n 0 3
  have hmax := fun W => grownCap_le_maxLen W n 0 3 (by unfold maxLen; omega)
  have HC := Lib.hid (And.intro hcap hmax); clear hcap hmax
  obtain ⟨g, hg⟩ : ∃ g, g = grownCap w n 0 3 := ⟨_, rfl⟩
  have hge : n ≤ g := by rw [hg]; exact HC.out.1 w
  have hgm : g ≤ maxLen := by rw [hg]; exact HC.out.2 w
  have hr := HR.out w
  rw [← hg] at hr
  have HR := Lib.hid hr; clear hr
  have HG := Lib.hid hg; clear hg
  unfold maxLen at hgm
  go_enter Tryd.func46, Tryd.ntmps46
  go_wp2_with (at_builtin; refine Lib.wpList_append_run _ rfl _ _ _ _ rfl _ _ rfl rfl _ _ HR.out ?_)
  go_ret
  refine ⟨_, rfl, ⟨by simp, .inr ⟨_, g, _, rfl, Nat.le_refl _, heap_alloc_new w.drew _, Nat.zero_le _, by unfold maxLen; omega, ?_, by simp⟩⟩, ((Below.refl _ w).drew).alloc (Nat.le_refl _) _⟩
  simp only [Array.size_append, size_zeroCells]
  simp
  omega

/-- A slice of slices of integers that reads as a list of lists. -/
def RdL (w : World) (A : Option Addr) (n : Nat) (xss : List (List Int)) : Prop :=
  xss.length = n ∧ ∀ k xs, xss[k]? = some xs → ∃ ad B c, A = some ad ∧ ad.block < w.heap.size ∧ w.cell? (ad.add k) = some (.slice B xs.length c) ∧ Rd w B xs.length xs ∧ (B = none → c = 0)
theorem RdL.below {w w' : World} {A : Option Addr} {n : Nat} {xss : List (List Int)} (h : RdL w A n xss) (hb : Below w.heap.size w w') : RdL w' A n xss :=
  ⟨h.1, fun k xs hk => by
    obtain ⟨ad, B, c, ha, hlt, hc, hr, h0⟩ := h.2 k xs hk
    exact ⟨ad, B, c, ha, Nat.lt_of_lt_of_le hlt hb.size, (hb.cell (by rw [blk_add]; exact hlt)).trans hc, hr.below hb, h0⟩⟩
theorem RdL.at_ {w : World} {A : Option Addr} {n : Nat} {xss : List (List Int)} (h : RdL w A n xss) {k : Nat} (hk : k < n) :
    ∃ ad B c xs, A = some ad ∧ xss[k]? = some xs ∧ w.cell? (ad.add k) = some (.slice B xs.length c) ∧ Rd w B xs.length xs ∧ (B = none → c = 0) := by
  have hl : k < xss.length := by rw [h.1]; exact hk
  obtain ⟨ad, B, c, ha, _, hc, hr, h0⟩ := h.2 k _ (List.getElem?_eq_getElem hl)
  exact ⟨ad, B, c, _, ha, List.getElem?_eq_getElem hl, hc, hr, h0⟩
theorem flat_snoc {xss : List (List Int)} {k : Nat} {xs : List Int} (h : xss[k]? = some xs) : (xss.take (k + 1)).flatten = (xss.take k).flatten ++ xs := by
  rw [take_snoc h, List.flatten_append]; simp
theorem flat_le (xss : List (List Int)) (k : Nat) : (xss.take k).flatten.length ≤ xss.flatten.length := by
  conv => rhs; rw [← List.take_append_drop k xss]
  rw [List.flatten_append, List.length_append]; omega

theorem concat_any (A : Option Addr) (n c : Nat) (xss : List (List Int)) (w : World) (hn : n ≤ 1099511627776) (hx : RdL w A n xss) (h40 : xss.flatten.length ≤ 1099511627776) :
    Calls Tryd.prog 39 #[.slice A n c] w (Makes w xss.flatten) := by
  have HX := Lib.hid hx; clear hx
  go_enter Tryd.func39, Tryd.ntmps39
  go_wp2_with fail
  go_loop [3, 11] (fun s i => ∃ k : Nat, k ≤ n ∧ i = .int .i64 k ∧ ∃ t : Nat, s = .int .i64 t ∧ Hid (t = (xss.take k).flatten.length)) (fun _ i => n - (intOf i).toNat)
  case atStart => exact ⟨0, Nat.zero_le _, rfl, 0, rfl, Lib.hid (by simp)⟩
  case round =>
    obtain ⟨k, hk, rfl, t, rfl, Hs⟩ := hrel
    by_cases hlt : k < n
    · obtain ⟨ad, B, c', xs, rfl, hxs, hcell, _, _⟩ := HX.out.at_ hlt
      have hlen := flat_le xss (k + 1)
      rw [flat_snoc hxs, List.length_append, ← Hs.out] at hlen
      have HXS := Lib.hid hxs; clear hxs
      have hbig : t + xs.length ≤ 1099511627776 := by omega
      clear hlen
      obtain ⟨l, hl⟩ : ∃ l, l = xs.length := ⟨_, rfl⟩
      rw [← hl] at hcell hbig
      have HL := Lib.hid hl; clear hl
      have hnn : ¬ ((t : Int) + (l : Int) < 0) := by omega
      go_wp2_with fail
      go_round
      case rel => exact ⟨k + 1, by omega, by go_num, t + l, by go_num, Lib.hid (by rw [flat_snoc HXS.out, List.length_append, ← Hs.out, HL.out])⟩
      case measure => simp [intOf]; omega
    · have hk' : k = n := by omega
      subst hk'
      have htl : t = xss.flatten.length := by rw [Hs.out, List.take_of_length_le (by rw [HX.out.1]; omega)]
      have ht40 : t ≤ 1099511627776 := by omega
      have HT := Lib.hid htl; clear htl
      have G : Hid (∀ W, Calls Tryd.prog 46 #[.slice none 0 0, .int .i64 t] W (Makes W [])) := Lib.hid (by
        intro W
        by_cases h0 : t = 0
        · subst h0; exact grow_none W
        · exact grow_some t W (by omega) ht40)
      go_wp2_with fail
      refine (G.out _).mono ?_
      rintro e w1 ⟨v, rfl, ho, hb⟩
      go_wp2_with fail
      go_loopw [6, 27] (fun v i wr => ∃ j : Nat, j ≤ k ∧ i = .int .i64 j ∧ Own wr w.heap.size v (xss.take j).flatten ∧ Below w.heap.size w wr) (fun _ i _ => k - (intOf i).toNat)
      case atStart => exact ⟨0, Nat.zero_le _, rfl, by simpa using ho, hb⟩
      case round =>
        obtain ⟨j, hj, rfl, hown, hbel⟩ := hrel
        by_cases hlt2 : j < k
        · obtain ⟨ad, B, c', xs, rfl, hxs, hcell, hrd, h0⟩ := (HX.out.below hbel).at_ hlt2
          have hfl := flat_snoc hxs
          have hlen := flat_le xss (j + 1)
          rw [hfl, List.length_append] at hlen
          have HF := Lib.hid hfl; clear hfl hxs
          have H0 := Lib.hid h0; clear h0
          go_wp2_with (at_builtin; refine wpList_append rfl _ _ rfl w.heap.size _ _ rfl hown _ _ _ _ rfl hrd H0.out (by omega) hbel.size ?_; intro v' w' hown' hgr _)
          have hbel' := Own.below_grown hbel hown hgr hbel.size
          go_roundw
          case rel => exact ⟨j + 1, by omega, by go_num, by rw [HF.out]; exact hown', hbel'⟩
          case measure => simp [intOf]; omega
        · have hj' : j = k := by omega
          subst hj'
          go_wp2_with fail
          go_ret
          exact ⟨_, rfl, by rw [List.take_of_length_le (by rw [HX.out.1]; omega)] at hown; exact hown, hbel⟩
end Go.Proofs.YtbjfflflegbfaaaDoor.cat
