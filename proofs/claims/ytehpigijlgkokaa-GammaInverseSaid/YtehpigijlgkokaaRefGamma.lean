/- Contracts of the reference's Valid, Offset, Index, Dot and In. -/
import Derived.Test.YtehpigijlgkokaaGamma
import Derived.Test.YtehpigijlgkokaaEqual
namespace Go.Proofs.Ytehpigijlgkokaa.gam
open Go.ChangeShapes Go.WideShapes Go.ChangeAt Go.RowKit Go.Proofs.Ytehpigijlgkokaa.mem Go.Proofs.Ytehpigijlgkokaa.mul Go.Proofs.Ytehpigijlgkokaa.prod Go.Proofs.Ytehpigijlgkokaa.shp Go.Proofs.Ytehpigijlgkokaa.strd Go.Proofs.Ytehpigijlgkokaa.eql
set_option linter.unusedVariables false

theorem drewN_below {w : World} (q : Nat) : Below w.heap.size w (w.drewN q) := below_drewN (Below.refl _ _) q

theorem refValid_any (A B : Option Addr) (n c m d : Nat) (xs ys : List Int) (w : World) (hn : n ≤ maxLen) (hm : m ≤ maxLen) (hx : Rd w A n xs) (hy : Rd w B m ys) :
    Calls Try.prog 13 #[.slice A n c, .slice B m d] w fun e w' => e = .returned (.bool (vldB xs ys)) ∧ ∃ q, w' = w.drewN q := by
  unfold maxLen at hn hm
  have HX := Lib.hid hx; have HY := Lib.hid hy; clear hx hy
  by_cases hnm : n = m
  · subst hnm
    obtain ⟨r, hr⟩ : ∃ r, r = vldB xs ys := ⟨_, rfl⟩
    rw [← hr]
    have HR := Lib.hid hr; clear hr
    go_enter Try.func13, Try.ntmps13
    go_wp2_with fail
    go_loopw [5] (fun i wr => ∃ k q : Nat, k ≤ n ∧ i = .int .i64 k ∧ wr = w.drewN q ∧ Hid (vldB xs ys = vldB (xs.drop k) (ys.drop k))) (fun i _ => n - (intOf i).toNat)
    case atStart => exact ⟨0, 0, Nat.zero_le _, rfl, rfl, Lib.hid rfl⟩
    case round =>
      obtain ⟨k, q, hk, rfl, rfl, Hs⟩ := hrel
      by_cases hlt : k < n
      · obtain ⟨ad1, x, rfl, hx, hc1⟩ := HX.out.at_ hlt
        obtain ⟨ad2, y, rfl, hy, hc2⟩ := HY.out.at_ hlt
        have HS := Lib.hid (vld_step hx hy)
        clear hx hy
        by_cases hy0 : y < 0
        · have HE := Lib.hid (show r = false by rw [HR.out, Hs.out, HS.out, decide_eq_false (by omega)]; rfl)
          go_wp2_with fail
          go_quiet (fail)
          go_wp2_with fail
          go_ret
          exact ⟨ret_bool HE.out.symm, _, World.drewN_drewN ..⟩
        · have hd : decide (y < 0) = false := by simpa using hy0
          by_cases hyx : x ≤ y
          · have HE := Lib.hid (show r = false by rw [HR.out, Hs.out, HS.out, decide_eq_false (by omega)]; rfl)
            have hd2 : decide (x ≤ y) = true := by simpa using hyx
            go_wp2_with fail
            go_quiet (fail)
            go_wp2_with fail
            go_ret
            exact ⟨ret_bool HE.out.symm, _, World.drewN_drewN ..⟩
          · have hd2 : decide (x ≤ y) = false := by simpa using hyx
            have HE := Lib.hid (show vldB xs ys = vldB (xs.drop (k + 1)) (ys.drop (k + 1)) by rw [Hs.out, HS.out, decide_eq_true (by omega), Bool.true_and])
            go_wp2_with fail
            go_quiet (fail)
            go_wp2_with fail
            go_roundw
            case rel => exact ⟨k + 1, _, by omega, by go_num, rfl, HE⟩
            case measure => first | (simp [intOf]; done) | (simp [intOf]; omega)
      · have HE := Lib.hid (HR.out.trans (Hs.out.trans (vld_end HX.out.1 HY.out.1 hlt)))
        go_wp2_with fail
        go_ret
        exact ⟨ret_bool HE.out.symm, _, rfl⟩
  · have hr : vldB xs ys = false := vld_ne (by rw [HX.out.1, HY.out.1]; exact hnm)
    rw [hr]
    clear hr
    have hnm' : ¬ (m : Int) = (n : Int) := by omega
    have hnm2 : ¬ (n : Int) = (m : Int) := by omega
    go_enter Try.func13, Try.ntmps13
    go_wp2_with fail
    go_ret
    exact ⟨rfl, 0, rfl⟩

theorem refIn_any (A : Option Addr) (n c : Nat) (xs : List Int) (o : Int) (w : World) (hn : n ≤ maxLen) (hx : Rd w A n xs) :
    Calls Try.prog 14 #[.slice A n c, .int .i64 o] w fun e w' => e = .returned (.bool (inB xs o)) ∧ w = w' := by
  have P1 := Lib.hid (refCells_any A n c xs w hn hx)
  clear hx
  by_cases h0 : 0 ≤ o
  · have hd0 : decide (0 ≤ o) = true := by simpa using h0
    by_cases h1 : o < celN xs
    · have e : inB xs o = true := decide_eq_true ⟨h0, h1⟩
      rw [e]; clear e
      generalize celN xs = N at *
      go_enter Try.func14, Try.ntmps14
      go_wp2_with fail
      refine P1.out.mono ?_
      rintro e w' ⟨rfl, rfl⟩
      go_wp2_with fail
      go_ret
      exact ⟨rfl, rfl⟩
    · have e : inB xs o = false := decide_eq_false (by omega)
      rw [e]; clear e
      generalize celN xs = N at *
      go_enter Try.func14, Try.ntmps14
      go_wp2_with fail
      refine P1.out.mono ?_
      rintro e w' ⟨rfl, rfl⟩
      go_wp2_with fail
      go_ret
      exact ⟨ret_bool (decide_eq_false (by omega)), rfl⟩
  · have e : inB xs o = false := decide_eq_false (by omega)
    rw [e]; clear e
    go_enter Try.func14, Try.ntmps14
    go_wp2_with fail
    go_ret
    exact ⟨rfl, rfl⟩

/-- What the reference's Offset answers. -/
def rofN (xs ys : List Int) : Int := if vldB xs ys = true then offL xs ys else -1
theorem off_nonneg : ∀ {xs ys : List Int}, (∀ x ∈ xs, 1 ≤ x) → (∀ y ∈ ys, 0 ≤ y) → 0 ≤ offL xs ys
  | [], ys, _, _ => by simp [offL]
  | x :: xs, [], _, _ => by simp [offL]
  | x :: xs, y :: ys, hx, hy => by
    simp only [offL]
    have h1 := off_nonneg (xs := xs) (ys := ys) (fun z hz => hx z (by simp [hz])) (fun z hz => hy z (by simp [hz]))
    have h2 := prodL_pos (xs := xs) fun z hz => hx z (by simp [hz])
    have h3 : 0 ≤ y * prodL xs := Int.mul_nonneg (hy y (by simp)) (by omega)
    omega
/-- The numbers of Horner's scheme stay at most 65536. -/
theorem horn_le {xs ys : List Int} {k : Nat} {x y acc : Int} (hx : xs[k]? = some x) (hy : ys[k]? = some y) (hp : ∀ x ∈ xs, 1 ≤ x) (h0 : ∀ y ∈ ys, 0 ≤ y) (hl : xs.length = ys.length) (ha : 0 ≤ acc)
    (h : hornL acc (xs.drop k) (ys.drop k) ≤ 65536) : 0 ≤ acc * x ∧ 0 ≤ acc * x + y ∧ acc * x + y ≤ 65536 := by
  have h1 := hp x (mem_at hx)
  have h2 := h0 y (mem_at hy)
  have h3 : 0 ≤ acc * x := Int.mul_nonneg ha (by omega)
  refine ⟨h3, by omega, ?_⟩
  rw [horn_step hx hy, horn_off _ _ _ (by simp [hl])] at h
  have h4 := off_nonneg (xs := xs.drop (k + 1)) (ys := ys.drop (k + 1)) (fun z hz => hp z (List.mem_of_mem_drop hz)) (fun z hz => h0 z (List.mem_of_mem_drop hz))
  have h5 := prodL_pos (xs := xs.drop (k + 1)) fun z hz => hp z (List.mem_of_mem_drop hz)
  have h6 := Int.mul_le_mul_of_nonneg_left h5 (by omega : 0 ≤ acc * x + y)
  omega
theorem refOffset_any (A B : Option Addr) (n c m d : Nat) (xs ys : List Int) (w : World) (hn : n ≤ maxLen) (hm : m ≤ maxLen) (hx : Rd w A n xs) (hy : Rd w B m ys) (h0 : chkE xs = 0) :
    Calls Try.prog 15 #[.slice A n c, .slice B m d] w (Num w (rofN xs ys)) := by
  have P1 := fun c d => refValid_any A B n c m d xs ys w hn hm hx hy
  unfold maxLen at hn hm
  have HX := Lib.hid hx; have HY := Lib.hid hy; clear hx hy
  by_cases hv : vldB xs ys = true
  · have hp := vld_ones hv
    have hlen := vld_len hv
    obtain ⟨r, hr⟩ : ∃ r, r = rofN xs ys := ⟨_, rfl⟩
    rw [← hr]
    have hro : r = offL xs ys := by rw [hr]; unfold rofN; rw [if_pos hv]
    have hy0 : ∀ y ∈ ys, 0 ≤ y := fun y hy => (vld_le hv (fun x hx => (chk_all h0 x hx).2) y hy).1
    have hle : offL xs ys ≤ 65536 := by have := (off_n h0 hv).2.2; have := (cel_range xs).2; omega
    have hst : hornL 0 (xs.drop 0) (ys.drop 0) = r := by rw [hro, List.drop_zero, List.drop_zero, horn_off _ _ _ hlen]; omega
    have hr6 : r ≤ 65536 := by omega
    have hnm : n = m := by rw [← HX.out.1, ← HY.out.1]; exact hlen
    subst hnm
    rw [hv] at P1
    have P1 := fun c d => Lib.hid (P1 c d)
    have HP := Lib.hid hp
    have HLN := Lib.hid hlen
    have H0 := Lib.hid hy0
    have HST := Lib.hid hst
    rename_i q1; clear q1 hp hlen hy0 hst hro hr hle hv h0
    go_enter Try.func15, Try.ntmps15
    go_wp2_with fail
    refine (P1 _ _).out.mono ?_
    rintro e w' ⟨rfl, q0, rfl⟩
    go_wp2_with fail
    go_loopw [5, 6] (fun s i wr => ∃ k q : Nat, k ≤ n ∧ i = .int .i64 k ∧ wr = w.drewN q ∧ ∃ t : Int, s = .int .i64 t ∧ 0 ≤ t ∧ t ≤ 65536 ∧ Hid (hornL t (xs.drop k) (ys.drop k) = r)) (fun _ i _ => n - (intOf i).toNat)
    case atStart => exact ⟨0, _, Nat.zero_le _, rfl, rfl, 0, rfl, by omega, by omega, HST⟩
    case round =>
      obtain ⟨k, q, hk, rfl, rfl, t, rfl, ht1, ht2, Hs⟩ := hrel
      by_cases hlt : k < n
      · obtain ⟨ad1, x, rfl, hx, hc1⟩ := HX.out.at_ hlt
        obtain ⟨ad2, y, rfl, hy, hc2⟩ := HY.out.at_ hlt
        have hb := horn_le hx hy HP.out H0.out HLN.out ht1 (by rw [Hs.out]; omega)
        have hs := Hs.out
        rw [horn_step hx hy] at hs
        have HS := Lib.hid hs
        have hb1 := hb.1
        have hb2 := hb.2.1
        have hb3 := hb.2.2
        have hyy := H0.out y (mem_at hy)
        clear hb hs hx hy
        have HB := Lib.hid (And.intro hb2 hb3)
        have hi1 : (k : Int) < (n : Int) := by omega
        have hw1 : IntKind.i64.wrap (t * x) = t * x := wrap_in (by omega) (by omega)
        have hw2 : IntKind.i64.wrap (t * x + y) = t * x + y := wrap_in (by omega) (by omega)
        clear hb1 hb2 hb3
        go_wp2_with fail
        go_quiet (fail)
        clear hw1 hw2
        go_wp2_with fail
        go_roundw
        case rel => exact ⟨k + 1, _, by omega, by go_num, rfl, _, rfl, HB.out.1, HB.out.2, HS⟩
        case measure => first | (simp [intOf]; done) | (simp [intOf]; omega)
      · have HE := Lib.hid (show t = r by rw [← Hs.out, horn_end (by rw [HX.out.1]; omega)])
        clear ht1 ht2 hr6
        go_wp2_with fail
        go_ret
        exact ⟨ret_int HE.out, _, rfl⟩
  · have hv : vldB xs ys = false := by simpa using hv
    have e : rofN xs ys = -1 := by unfold rofN; rw [hv]; rfl
    rw [e]
    rw [hv] at P1
    have P1 := fun c d => Lib.hid (P1 c d)
    rename_i q1 q2; clear q1 q2 e hv h0
    go_enter Try.func15, Try.ntmps15
    go_wp2_with fail
    refine (P1 _ _).out.mono ?_
    rintro e w' ⟨rfl, q0, rfl⟩
    go_wp2_with fail
    go_ret
    exact ⟨rfl, _, rfl⟩

theorem refDot_any (A B : Option Addr) (n c m d : Nat) (us vs : List Int) (w : World) (hn : n ≤ maxLen) (hm : m ≤ maxLen) (hx : Rd w A n us) (hy : Rd w B m vs) (h100 : n ≤ 100 ∨ m ≤ 100)
    (hu : ∀ x ∈ us, -65536 ≤ x ∧ x ≤ 65536) (hv : ∀ x ∈ vs, -65536 ≤ x ∧ x ≤ 65536) :
    Calls Try.prog 22 #[.slice A n c, .slice B m d] w (Num w (dotL us vs)) := by
  unfold maxLen at hn hm
  have HX := Lib.hid hx; have HY := Lib.hid hy; clear hx hy
  have HU := Lib.hid hu; have HV := Lib.hid hv; clear hu hv
  obtain ⟨r, hr⟩ : ∃ r, r = dotL us vs := ⟨_, rfl⟩
  rw [← hr]
  have HR := Lib.hid hr; clear hr
  go_enter Try.func22, Try.ntmps22
  go_wp2_with fail
  go_loopw [5, 6] (fun s i wr => ∃ k q : Nat, k ≤ n ∧ k ≤ m ∧ i = .int .i64 k ∧ wr = w.drewN q ∧ ∃ t : Int, s = .int .i64 t ∧ -(4294967296 * (k : Int)) ≤ t ∧ t ≤ 4294967296 * (k : Int) ∧ Hid (dotL us vs = t + dotL (us.drop k) (vs.drop k))) (fun _ i _ => n - (intOf i).toNat)
  case atStart => exact ⟨0, 0, Nat.zero_le _, Nat.zero_le _, rfl, rfl, 0, rfl, by omega, by omega, Lib.hid (by simp)⟩
  case round =>
    obtain ⟨k, q, hkn, hkm, rfl, rfl, t, rfl, ht1, ht2, Hs⟩ := hrel
    by_cases hl1 : k < n
    · by_cases hl2 : k < m
      · obtain ⟨ad1, x, rfl, hx, hc1⟩ := HX.out.at_ hl1
        obtain ⟨ad2, y, rfl, hy, hc2⟩ := HY.out.at_ hl2
        have HS := Lib.hid (dot_step hx hy)
        have hb := mul_range (HU.out x (mem_at hx)) (HV.out y (mem_at hy))
        have hb1 := hb.1
        have hb2 := hb.2
        clear hb hx hy
        have hi1 : (k : Int) < (n : Int) := by omega
        have hi2 : (k : Int) < (m : Int) := by omega
        have ht1' : -(4294967296 * ((k + 1 : Nat) : Int)) ≤ t + x * y := by omega
        have ht2' : t + x * y ≤ 4294967296 * ((k + 1 : Nat) : Int) := by omega
        have HB := Lib.hid (And.intro ht1' ht2')
        have hw1 : IntKind.i64.wrap (x * y) = x * y := wrap_in (by omega) (by omega)
        have hw2 : IntKind.i64.wrap (t + x * y) = t + x * y := wrap_in (by omega) (by omega)
        clear ht1' ht2' hb1 hb2
        go_wp2_with fail
        go_quiet (fail)
        clear hw1 hw2
        go_wp2_with fail
        go_roundw
        case rel => exact ⟨k + 1, _, by omega, by omega, by go_num, rfl, _, rfl, HB.out.1, HB.out.2, Lib.hid (by rw [Hs.out, HS.out]; omega)⟩
        case measure => first | (simp [intOf]; done) | (simp [intOf]; omega)
      · have HE := Lib.hid (HR.out.trans (Hs.out.trans (by rw [dot_end (us := us) (vs := vs) (k := k) (by rw [HX.out.1, HY.out.1]; omega)])))
        clear ht1 ht2
        go_wp2_with fail
        go_ret
        exact ⟨ret_int (by rw [HE.out]; omega), q, rfl⟩
    · have HE := Lib.hid (HR.out.trans (Hs.out.trans (by rw [dot_end (us := us) (vs := vs) (k := k) (by rw [HX.out.1, HY.out.1]; omega)])))
      clear ht1 ht2
      go_wp2_with fail
      go_ret
      exact ⟨ret_int (by rw [HE.out]; omega), q, rfl⟩

set_option maxHeartbeats 1000000 in
theorem refIndex_any (A : Option Addr) (n c : Nat) (xs : List Int) (o : Int) (w : World) (hn : n ≤ 16) (hx : Rd w A n xs) (hp : ∀ x ∈ xs, 1 ≤ x ∧ x ≤ 65536) (h0 : 0 ≤ o) (h1 : o < prodL xs) (hle : prodL xs ≤ 65536) :
    Calls Try.prog 17 #[.slice A n c, .int .i64 o] w (Makes w (idxL xs o)) := by
  have HX := Lib.hid hx; have HP := Lib.hid hp; clear hx hp
  obtain ⟨L, hL⟩ : ∃ L, L = idxL xs o := ⟨_, rfl⟩
  rw [← hL]
  have HE0 := Lib.hid (show idxL xs (o % prodL xs) = L by rw [hL, Int.emod_eq_of_lt h0 h1])
  have H1 : o ≤ 65536 := by omega
  clear hL h1 hle
  go_enter Try.func17, Try.ntmps17
  go_wp2_with (at_make; refine wpList_zeros rfl _ _ rfl n rfl rfl (by omega) ?_; intro w1 ho hb)
  go_loopw [1, 6] (fun s i wr => ∃ d : Nat, d ≤ n ∧ ∃ j : Int, i = .int .i64 j ∧ -1 ≤ j ∧ j < 16 ∧ Hid (j = (d : Int) - 1) ∧ ∃ t : Int, s = .int .i64 t ∧ 0 ≤ t ∧ t ≤ 65536 ∧ Hid (t = o / prodL (xs.drop d)) ∧ Own wr w.heap.size (.slice (some ⟨w.heap.size, 0, none⟩) n n) (List.replicate d 0 ++ idxL (xs.drop d) (o % prodL (xs.drop d))) ∧ Below w.heap.size w wr) (fun _ i _ => (intOf i + 1).toNat)
  case atStart => exact ⟨n, Nat.le_refl _, (n : Int) - 1, rfl, by omega, by omega, Lib.hid rfl, o, rfl, h0, H1, Lib.hid (by rw [List.drop_of_length_le (by rw [HX.out.1]; omega)]; show o = o / 1; omega), by rw [List.drop_of_length_le (by rw [HX.out.1]; omega)]; simpa [idxL] using ho, hb⟩
  case round =>
    obtain ⟨d, hd, j, rfl, hj1, hj2, Hj, t, rfl, ht0, ht1, Ht, hown, hbel⟩ := hrel
    rcases Nat.eq_zero_or_pos d with rfl | hd0
    · obtain rfl : j = -1 := by have := Hj.out; omega
      have HE : Hid (List.replicate 0 0 ++ idxL (xs.drop 0) (o % prodL (xs.drop 0)) = L) := Lib.hid (by rw [← HE0.out]; simp)
      go_wp2_with fail
      go_ret
      rw [HE.out] at hown
      exact ⟨_, rfl, hown, hbel⟩
    · obtain ⟨k, rfl⟩ : ∃ k, d = k + 1 := ⟨d - 1, by omega⟩
      obtain rfl : j = (k : Int) := by have := Hj.out; omega
      clear Hj
      have hkn : k < n := by omega
      obtain ⟨ad, x, rfl, hx, hcx0⟩ := (HX.out.below hbel).at_ hkn
      have hpx := HP.out x (mem_at hx)
      have hx1 := hpx.1
      have hx2 := hpx.2
      have HN := Lib.hid (last_step (o := o) hx fun z hz => (HP.out z hz).1)
      have hcell : wr.cell? ⟨w.heap.size, k, none⟩ = some (.int .i64 0) := hown.cellAt (by rw [List.getElem?_append_left (by simp)]; simp)
      have hfz := hown.frozenAt k
      have hset := hown.set_ k (t % x)
      have hbel2 : Below w.heap.size w (wr.setCell ⟨w.heap.size, k, none⟩ (.int .i64 (t % x))) := hbel.setCell (Nat.le_refl _) _
      have hcx := (HX.out.below hbel2).cell_ hx
      have hlist : (List.replicate (k + 1) 0 ++ idxL (xs.drop (k + 1)) (o % prodL (xs.drop (k + 1)))).set k (t % x) = List.replicate k 0 ++ idxL (xs.drop k) (o % prodL (xs.drop k)) := by
        rw [set_zero, HN.out.1, ← Ht.out]
      rw [hlist] at hset
      have HT2 := Lib.hid (show t / x = o / prodL (xs.drop k) by rw [HN.out.2, ← Ht.out])
      have hq0 : 0 ≤ t / x := Int.ediv_nonneg (by omega) (by omega)
      have hq1 : t / x ≤ 65536 := Int.le_trans (Int.ediv_le_self _ ht0) ht1
      have HQ := Lib.hid (And.intro hq0 hq1)
      clear hlist hx hpx hq0 hq1 HN Ht
      go_wp2_with fail
      go_roundw
      case rel => exact ⟨k, by omega, _, rfl, by omega, by omega, Lib.hid rfl, _, rfl, HQ.out.1, HQ.out.2, HT2, hset, hbel2⟩
      case measure => first | (simp [intOf]; done) | (simp [intOf]; omega)
end Go.Proofs.Ytehpigijlgkokaa.gam
