/- Package odometer: slices.Clone at integers, inside, advance, Count. -/
import Derived.Test.YtaegkiangjnmdaaOdoMath
import Derived.Test.YtaegkiangjnmdaaMake
import Derived.Test.YtaegkiangjnmdaaGamma
import Derived.Lib.SliceRun
namespace Go.Proofs.Ytaegkiangjnmdaa.odo
open Go.ChangeShapes Go.WideShapes Go.ChangeAt Go.RowKit Go.Proofs.Ytaegkiangjnmdaa.mem Go.Proofs.Ytaegkiangjnmdaa.prod Go.Proofs.Ytaegkiangjnmdaa.shp Go.Proofs.Ytaegkiangjnmdaa.strd Go.Proofs.Ytaegkiangjnmdaa.gam Go.Proofs.Ytaegkiangjnmdaa.sml Go.Proofs.Ytaegkiangjnmdaa.all
set_option linter.unusedVariables false

theorem own_drewN {w : World} {B : Nat} {v : Value} {xs : List Int} (h : Own w B v xs) (q : Nat) : Own (w.drewN q) B v xs := h.below (below_drewN (Below.refl _ _) q)
theorem rd_drewN {w : World} {A : Option Addr} {n : Nat} {xs : List Int} (h : Rd w A n xs) (q : Nat) : Rd (w.drewN q) A n xs := h.below (below_drewN (Below.refl _ _) q)
/-- What reads apart from the one block that has turned reads on. -/
theorem rd_grown {w w' : World} {A : Option Addr} {n : Nat} {xs : List Int} {row : Option Nat} (h : Rd w A n xs) (hg : w.grownBy w' row) (ha : ∀ ad, A = some ad → some ad.block ≠ row) : Rd w' A n xs :=
  ⟨h.1, fun k hk => by
    obtain ⟨ad, e, hl, hc⟩ := h.2 k hk
    exact ⟨ad, e, Nat.lt_of_lt_of_le hl hg.size, hg.cell hc (by rw [blk_add]; exact ha ad e)⟩⟩
theorem grown_drewN {w w' : World} {row : Option Nat} (h : w.grownBy w' row) (q : Nat) : w.grownBy (w'.drewN q) row := ⟨h.os, h.tape, h.output, h.size, h.block⟩
theorem grown_set {w w' : World} {g j : Nat} {v : Value} (h : w.grownBy w' (some g)) : w.grownBy (w'.setCell ⟨g, j, none⟩ v) (some g) :=
  ⟨h.os, h.tape, h.output, by have := h.size; simpa [World.setCell] using this, fun k hk hn => (Below.heap_setCell _ _ _ k (fun e => hn (by rw [e]))).trans (h.block k hk hn)⟩

theorem clone_any (A : Option Addr) (n c : Nat) (xs : List Int) (w : World) (hn : n ≤ 1099511627776) (hx : Rd w A n xs) (hc : A = none → c = 0) :
    Calls Try.prog 36 #[.slice A n c] w (Makes w xs) := by
  have q22 : ∀ (w : World) (a : Option Addr) (n c n' c' : Nat), (binOp .eql 22 (.slice a n c) (.slice none n' c')).run Try.prog w = .ok (.bool a.isNone) w := fun w a n c n' c' => Lib.run_eql_slice_nil w _ _ a n c n' c' Try.underlying22
  cases A with
  | none =>
    have hxs : xs = [] := by
      cases n with
      | zero => exact List.eq_nil_of_length_eq_zero hx.1
      | succ n => obtain ⟨ad, e, _⟩ := hx.2 0 (by omega); cases e
    subst hxs
    clear hx hc
    go_enter Try.func36, Try.ntmps36
    go_wp2_with fail
    go_ret
    exact ⟨_, rfl, own_nil _ _, Below.refl _ _⟩
  | some ad =>
    have HX := Lib.hid (hx.below ((Below.refl w.heap.size w).alloc (Nat.le_refl _) (.cells #[] 3)))
    have HC := Lib.hid hc
    have HN := Lib.hid (show ([] : List Int).length + n ≤ 1099511627776 by simpa using hn)
    have HE := Lib.hid (own_empty w)
    have HS := Lib.hid (show w.heap.size ≤ (w.alloc (.cells #[] 3)).heap.size by simp)
    have HA := Lib.hid ((Below.refl w.heap.size w).alloc (Nat.le_refl _) (.cells #[] 3))
    clear hx hc hn
    go_enter Try.func36, Try.ntmps36
    go_wp2_with (at_builtin; refine wpList_append rfl (.tmp 5) (.tmp 6) rfl _ _ [] rfl HE.out _ _ _ xs rfl HX.out HC.out HN.out HS.out ?_; intro v4 w4 ho4 hg4 _)
    go_ret
    exact ⟨_, rfl, ho4, Own.below_grown HA.out HE.out hg4 HS.out⟩

theorem inside_any (A B C : Option Addr) (n c m d l e : Nat) (lo hi xs : List Int) (w : World) (hn : n ≤ maxLen) (hm : m ≤ maxLen) (hl : l ≤ maxLen) (ha : Rd w A n lo) (hb : Rd w B m hi) (hx : Rd w C l xs) :
    Calls Try.prog 43 #[.slice A n c, .slice B m d, .slice C l e] w fun e w' => e = .returned (.bool (insB lo hi xs)) ∧ w = w' := by
  unfold maxLen at hn hm hl
  have HA := Lib.hid ha; have HB := Lib.hid hb; have HX := Lib.hid hx; clear ha hb hx
  by_cases hnm : n = m
  · subst hnm
    by_cases hln : l = n
    · subst hln
      obtain ⟨r, hr⟩ : ∃ r, r = insB lo hi xs := ⟨_, rfl⟩
      rw [← hr]
      have HR := Lib.hid hr; clear hr
      go_enter Try.func43, Try.ntmps43
      go_wp2_with fail
      go_loop [23] (fun i => ∃ k : Nat, k ≤ l ∧ i = .int .i64 k ∧ Hid (insB lo hi xs = insB (lo.drop k) (hi.drop k) (xs.drop k))) (fun i => l - (intOf i).toNat)
      case atStart => exact ⟨0, Nat.zero_le _, rfl, Lib.hid rfl⟩
      case round =>
        obtain ⟨k, hk, rfl, Hs⟩ := hrel
        by_cases hlt : k < l
        · obtain ⟨ad1, a, rfl, ha, hc1⟩ := HA.out.at_ hlt
          obtain ⟨ad2, b, rfl, hb, hc2⟩ := HB.out.at_ hlt
          obtain ⟨ad3, x, rfl, hx, hc3⟩ := HX.out.at_ hlt
          have HS := Lib.hid (ins_step ha hb hx)
          clear ha hb hx
          by_cases hxa : x < a
          · go_wp2_with fail
            go_ret
            exact ⟨ret_bool (by rw [HR.out, Hs.out, HS.out, decide_eq_false (by omega)]; rfl), rfl⟩
          · by_cases hbx : b ≤ x
            · go_wp2_with fail
              go_ret
              exact ⟨ret_bool (by rw [HR.out, Hs.out, HS.out, decide_eq_false (by omega)]; rfl), rfl⟩
            · go_wp2_with fail
              go_round
              case rel => exact ⟨k + 1, by omega, by go_num, Lib.hid (by rw [Hs.out, HS.out, decide_eq_true (by omega), Bool.true_and])⟩
              case measure => simp [intOf]; omega
        · have HE := Lib.hid (HR.out.trans (Hs.out.trans (ins_end HA.out.1 HB.out.1 HX.out.1 hlt)))
          go_wp2_with fail
          go_ret
          exact ⟨ret_bool HE.out.symm, rfl⟩
    · have hr : insB lo hi xs = false := ins_ne (.inr (by rw [HA.out.1, HX.out.1]; exact hln))
      rw [hr]
      clear hr
      have hnm' : ¬ (l : Int) = (n : Int) := by omega
      go_enter Try.func43, Try.ntmps43
      go_wp2_with fail
      go_ret
      exact ⟨rfl, rfl⟩
  · have hr : insB lo hi xs = false := ins_ne (.inl (by rw [HA.out.1, HB.out.1]; exact hnm))
    rw [hr]
    clear hr
    have hnm' : ¬ (n : Int) = (m : Int) := by omega
    go_enter Try.func43, Try.ntmps43
    go_wp2_with fail
    go_ret
    exact ⟨rfl, rfl⟩

/-- What advance does: the index in its own block becomes the next one. -/
def Steps (w : World) (B : Nat) (v : Value) (xs : List Int) (b : Bool) (e : Ending) (w' : World) : Prop := e = .returned (.bool b) ∧ Own w' B v xs ∧ w.grownBy w' v.ownBlock
theorem advance_none (A B C : Option Addr) (c d e : Nat) (w : World) : Calls Try.prog 52 #[.slice A 0 c, .slice B 0 d, .slice C 0 e] w fun e w' => e = .returned (.bool false) ∧ w = w' := by
  go_enter Try.func52, Try.ntmps52
  go_wp2_with fail
  go_loop [7] (fun i => i = .int .i64 (-1)) (fun i => 0)
  case atStart => rfl
  case round =>
    subst hrel
    go_wp2_with fail
    go_ret
    exact ⟨rfl, rfl⟩
set_option maxHeartbeats 1000000 in
theorem advance_some (A B : Option Addr) (n c d g e Bs : Nat) (lo hi xs : List Int) (w : World) (hn : n ≤ 65536) (ha : Rd w A n lo) (hb : Rd w B n hi) (ho : Own w Bs (.slice (some ⟨g, 0, none⟩) n e) xs)
    (hA : ∀ ad, A = some ad → some ad.block ≠ some g) (hB : ∀ ad, B = some ad → some ad.block ≠ some g) (hx : ∀ x ∈ xs, -4294967296 ≤ x ∧ x ≤ 4294967296) :
    Calls Try.prog 52 #[.slice A n c, .slice B n d, .slice (some ⟨g, 0, none⟩) n e] w (Steps w Bs (.slice (some ⟨g, 0, none⟩) n e) (advL lo hi xs).1 (advL lo hi xs).2) := by
  have hl : xs.length = n := ho.rd.1
  obtain ⟨r, hr⟩ : ∃ r, r = advL lo hi xs := ⟨_, rfl⟩
  rw [← hr]
  have HR := Lib.hid hr
  have HA := Lib.hid ha; have HB := Lib.hid hb; have HO := Lib.hid ho; have HNA := Lib.hid hA; have HNB := Lib.hid hB; have HX := Lib.hid hx; have HL := Lib.hid hl
  clear hr ha hb ho hA hB hx hl
  go_enter Try.func52, Try.ntmps52
  go_wp2_with fail
  go_loopw [7] (fun i wr => ∃ k : Nat, k ≤ n ∧ ∃ j : Int, i = .int .i64 j ∧ -1 ≤ j ∧ j < 65536 ∧ Hid (j = (k : Int) - 1) ∧ Own wr Bs (.slice (some ⟨g, 0, none⟩) n e) (xs.take k ++ (advL (lo.drop k) (hi.drop k) (xs.drop k)).1) ∧ Hid ((advL (lo.drop k) (hi.drop k) (xs.drop k)).2 = false) ∧ Hid (w.grownBy wr (some g))) (fun i _ => (intOf i + 1).toNat)
  case atStart =>
    refine ⟨n, Nat.le_refl _, _, rfl, by omega, by omega, Lib.hid rfl, ?_, ?_, Lib.hid (World.grownBy.refl w _)⟩
    · rw [List.take_of_length_le (by rw [HL.out]; omega), List.drop_of_length_le (by rw [HA.out.1]; omega)]
      simpa [advL] using HO.out
    · rw [List.drop_of_length_le (l := lo) (by rw [HA.out.1]; omega)]
      exact Lib.hid (by simp [advL])
  case round =>
    obtain ⟨d', hd, j, rfl, hj1, hj2, Hj, hown, Hf, Hg⟩ := hrel
    rcases Nat.eq_zero_or_pos d' with rfl | hd0
    · obtain rfl : j = -1 := by have := Hj.out; omega
      have HE : Hid ((advL (lo.drop 0) (hi.drop 0) (xs.drop 0)) = r) := Lib.hid (by rw [HR.out]; simp)
      have HF : Hid (r.2 = false) := Lib.hid (by rw [← HE.out]; exact Hf.out)
      rw [HE.out] at hown
      have HO2 := Lib.hid hown
      clear hown
      go_wp2_with fail
      go_ret
      exact ⟨ret_bool HF.out.symm, by simpa using HO2.out, Hg.out⟩
    · obtain ⟨k, rfl⟩ : ∃ k, d' = k + 1 := ⟨d' - 1, by omega⟩
      obtain rfl : j = (k : Int) := by have := Hj.out; omega
      clear Hj
      have hkn : k < n := by omega
      obtain ⟨ad1, a, rfl, hka, _⟩ := HA.out.at_ hkn
      obtain ⟨ad2, b, rfl, hkb, _⟩ := HB.out.at_ hkn
      obtain ⟨x, hkx⟩ : ∃ x, xs[k]? = some x := ⟨_, List.getElem?_eq_getElem (by rw [HL.out]; exact hkn)⟩
      have hxb := HX.out x (mem_at hkx)
      have hx1 := hxb.1
      have hx2 := hxb.2
      obtain ⟨t, ht⟩ : ∃ t, advL (lo.drop (k + 1)) (hi.drop (k + 1)) (xs.drop (k + 1)) = (t, false) := ⟨_, Prod.ext rfl Hf.out⟩
      rw [ht] at hown
      have htk : (xs.take k).length = k := by rw [List.length_take, HL.out]; omega
      have hpart : xs.take (k + 1) ++ t = xs.take k ++ (x :: t) := by rw [take_snoc hkx]; simp
      simp only [hpart] at hown
      have hset : ∀ y z, (xs.take k ++ (y :: t)).set k z = xs.take k ++ (z :: t) := by
        intro y z
        rw [List.set_append_right _ _ (by omega), htk]
        simp
      have hc1 : wr.cell? ⟨g, k, none⟩ = some (.int .i64 x) := hown.cellAt (by rw [List.getElem?_append_right (by omega), htk]; simp)
      have hf1 := hown.frozenAt k
      have ho2 := hown.set_ k (x + 1)
      rw [hset] at ho2
      have hg2 := grown_set (j := k) (v := .int .i64 (x + 1)) Hg.out
      have hca := (rd_grown HA.out hg2 HNA.out).cell_ hka
      have hcb := (rd_grown HB.out hg2 HNB.out).cell_ hkb
      have hc2 : (wr.setCell ⟨g, k, none⟩ (.int .i64 (x + 1))).cell? ⟨g, k, none⟩ = some (.int .i64 (x + 1)) := ho2.cellAt (by rw [List.getElem?_append_right (by omega), htk]; simp)
      have hf2 := ho2.frozenAt k
      have ho3 := ho2.set_ k a
      rw [hset] at ho3
      have HHIT := Lib.hid (fun h => adv_hit hka hkb hkx (by rw [HA.out.1, HL.out]) (by rw [HB.out.1, HL.out]) ht h)
      have HMISS := Lib.hid (fun h => adv_miss hka hkb hkx ht h)
      have HO2 := Lib.hid ho2
      have HO3 := Lib.hid ho3
      have HG2 := Lib.hid hg2
      clear hown hset htk hpart hxb ho2 ho3 hg2 ht hka hkb hkx
      have hi1 : (k : Int) < (n : Int) := by omega
      by_cases hlt : x + 1 < b
      · have HE := Lib.hid (HR.out.trans (HHIT.out hlt))
        go_wp2_with fail
        go_quiet (fail)
        go_wp2_with fail
        go_ret
        exact ⟨ret_bool (by rw [HE.out]), by rw [HE.out]; exact own_drewN HO2.out _, grown_drewN HG2.out _⟩
      · have HE := Lib.hid (HMISS.out hlt)
        have hdl : decide (x + 1 < b) = false := decide_eq_false hlt
        go_wp2_with fail
        go_quiet (fail)
        go_wp2_with fail
        go_roundw
        case rel => exact ⟨k, by omega, _, rfl, by omega, by omega, Lib.hid (by omega), by rw [HE.out]; exact own_drewN HO3.out _, Lib.hid (by rw [HE.out]), Lib.hid (grown_drewN (grown_set HG2.out) _)⟩
        case measure => first | (simp [intOf]; done) | (simp [intOf]; omega)
end Go.Proofs.Ytaegkiangjnmdaa.odo
