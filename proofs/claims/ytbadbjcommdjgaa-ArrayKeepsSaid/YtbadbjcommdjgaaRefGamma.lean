/- Contracts of the reference's Valid, Offset, Index, Dot and In. -/
import Derived.Test.YtbadbjcommdjgaaGamma
import Derived.Test.YtbadbjcommdjgaaEqual
namespace Go.Proofs.Ytbadbjcommdjgaa.gam
open Go.ChangeShapes Go.WideShapes Go.ChangeAt Go.RowKit Go.Proofs.Ytbadbjcommdjgaa.mem Go.Proofs.Ytbadbjcommdjgaa.mul Go.Proofs.Ytbadbjcommdjgaa.prod Go.Proofs.Ytbadbjcommdjgaa.shp Go.Proofs.Ytbadbjcommdjgaa.strd Go.Proofs.Ytbadbjcommdjgaa.eql
set_option linter.unusedVariables false

theorem drewN_below {w : World} (q : Nat) : Below w.heap.size w (w.drewN q) := below_drewN (Below.refl _ _) q

theorem refValid_any (A B : Option Addr) (n c m d : Nat) (xs ys : List Int) (w : World) (hn : n ≤ maxLen) (hm : m ≤ maxLen) (hx : Rd w A n xs) (hy : Rd w B m ys) :
    Calls Try.prog 42 #[.slice A n c, .slice B m d] w fun e w' => e = .returned (.bool (vldB xs ys)) ∧ ∃ q, w' = w.drewN q := by
  unfold maxLen at hn hm
  have HX := Lib.hid hx; have HY := Lib.hid hy; clear hx hy
  by_cases hnm : n = m
  · subst hnm
    obtain ⟨r, hr⟩ : ∃ r, r = vldB xs ys := ⟨_, rfl⟩
    rw [← hr]
    have HR := Lib.hid hr; clear hr
    go_enter Try.func42, Try.ntmps42
    go_wp2_with fail
    go_loopw [5] (fun i wr => ∃ k q : Nat, k ≤ n ∧ i = .int .i64 k ∧ wr = w.drewN q ∧ Hid (vldB xs ys = vldB (xs.drop k) (ys.drop k))) (fun i _ => n - (intOf i).toNat)
    case atStart => exact ⟨0, 0, Nat.zero_le _, rfl, rfl, Lib.hid rfl⟩
    case round =>
      obtain ⟨k, q, hk, rfl, rfl, Hs⟩ := hrel
      by_cases hlt : k < n
      · obtain ⟨ad1, x, rfl, hx, hc1⟩ := HX.out.at_ hlt
        obtain ⟨ad2, y, rfl, hy, hc2⟩ := HY.out.at_ hlt
        have HS := Lib.hid (vld_step hx hy)
        clear hx hy
        by_cases hy0 : y < 0
        · have HE := Lib.hid (show r = false by rw [HR.out, Hs.out, HS.out, decide_eq_false (by omega)]; rfl)
          go_wp2_with fail
          go_quiet (fail)
          go_wp2_with fail
          go_ret
          exact ⟨ret_bool HE.out.symm, _, World.drewN_drewN ..⟩
        · have hd : decide (y < 0) = false := by simpa using hy0
          by_cases hyx : x ≤ y
          · have HE := Lib.hid (show r = false by rw [HR.out, Hs.out, HS.out, decide_eq_false (by omega)]; rfl)
            have hd2 : decide (x ≤ y) = true := by simpa using hyx
            go_wp2_with fail
            go_quiet (fail)
            go_wp2_with fail
            go_ret
            exact ⟨ret_bool HE.out.symm, _, World.drewN_drewN ..⟩
          · have hd2 : decide (x ≤ y) = false := by simpa using hyx
            have HE := Lib.hid (show vldB xs ys = vldB (xs.drop (k + 1)) (ys.drop (k + 1)) by rw [Hs.out, HS.out, decide_eq_true (by omega), Bool.true_and])
            go_wp2_with fail
            go_quiet (fail)
            go_wp2_with fail
            go_roundw
            case rel => exact ⟨k + 1, _, by omega, by go_num, rfl, HE⟩
            case measure => first | (simp [intOf]; done) | (simp [intOf]; omega)
      · have HE := Lib.hid (HR.out.trans (Hs.out.trans (vld_end HX.out.1 HY.out.1 hlt)))
        go_wp2_with fail
        go_ret
        exact ⟨ret_bool HE.out.symm, _, rfl⟩
  · have hr : vldB xs ys = false := vld_ne (by rw [HX.out.1, HY.out.1]; exact hnm)
    rw [hr]
    clear hr
    have hnm' : ¬ (m : Int) = (n : Int) := by omega
    have hnm2 : ¬ (n : Int) = (m : Int) := by omega
    go_enter Try.func42, Try.ntmps42
    go_wp2_with fail
    go_ret
    exact ⟨rfl, 0, rfl⟩


/-- What the reference's Offset answers. -/
def rofN (xs ys : List Int) : Int := if vldB xs ys = true then offL xs ys else -1
theorem off_nonneg : ∀ {xs ys : List Int}, (∀ x ∈ xs, 1 ≤ x) → (∀ y ∈ ys, 0 ≤ y) → 0 ≤ offL xs ys
  | [], ys, _, _ => by simp [offL]
  | x :: xs, [], _, _ => by simp [offL]
  | x :: xs, y :: ys, hx, hy => by
    simp only [offL]
    have h1 := off_nonneg (xs := xs) (ys := ys) (fun z hz => hx z (by simp [hz])) (fun z hz => hy z (by simp [hz]))
    have h2 := prodL_pos (xs := xs) fun z hz => hx z (by simp [hz])
    have h3 : 0 ≤ y * prodL xs := Int.mul_nonneg (hy y (by simp)) (by omega)
    omega
/-- The numbers of Horner's scheme stay at most 65536. -/
theorem horn_le {xs ys : List Int} {k : Nat} {x y acc : Int} (hx : xs[k]? = some x) (hy : ys[k]? = some y) (hp : ∀ x ∈ xs, 1 ≤ x) (h0 : ∀ y ∈ ys, 0 ≤ y) (hl : xs.length = ys.length) (ha : 0 ≤ acc)
    (h : hornL acc (xs.drop k) (ys.drop k) ≤ 65536) : 0 ≤ acc * x ∧ 0 ≤ acc * x + y ∧ acc * x + y ≤ 65536 := by
  have h1 := hp x (mem_at hx)
  have h2 := h0 y (mem_at hy)
  have h3 : 0 ≤ acc * x := Int.mul_nonneg ha (by omega)
  refine ⟨h3, by omega, ?_⟩
  rw [horn_step hx hy, horn_off _ _ _ (by simp [hl])] at h
  have h4 := off_nonneg (xs := xs.drop (k + 1)) (ys := ys.drop (k + 1)) (fun z hz => hp z (List.mem_of_mem_drop hz)) (fun z hz => h0 z (List.mem_of_mem_drop hz))
  have h5 := prodL_pos (xs := xs.drop (k + 1)) fun z hz => hp z (List.mem_of_mem_drop hz)
  have h6 := Int.mul_le_mul_of_nonneg_left h5 (by omega : 0 ≤ acc * x + y)
  omega
theorem refOffset_any (A B : Option Addr) (n c m d : Nat) (xs ys : List Int) (w : World) (hn : n ≤ maxLen) (hm : m ≤ maxLen) (hx : Rd w A n xs) (hy : Rd w B m ys) (h0 : chkE xs = 0) :
    Calls Try.prog 32 #[.slice A n c, .slice B m d] w (Num w (rofN xs ys)) := by
  have P1 := fun c d => refValid_any A B n c m d xs ys w hn hm hx hy
  unfold maxLen at hn hm
  have HX := Lib.hid hx; have HY := Lib.hid hy; clear hx hy
  by_cases hv : vldB xs ys = true
  · have hp := vld_ones hv
    have hlen := vld_len hv
    obtain ⟨r, hr⟩ : ∃ r, r = rofN xs ys := ⟨_, rfl⟩
    rw [← hr]
    have hro : r = offL xs ys := by rw [hr]; unfold rofN; rw [if_pos hv]
    have hy0 : ∀ y ∈ ys, 0 ≤ y := fun y hy => (vld_le hv (fun x hx => (chk_all h0 x hx).2) y hy).1
    have hle : offL xs ys ≤ 65536 := by have := (off_n h0 hv).2.2; have := (cel_range xs).2; omega
    have hst : hornL 0 (xs.drop 0) (ys.drop 0) = r := by rw [hro, List.drop_zero, List.drop_zero, horn_off _ _ _ hlen]; omega
    have hr6 : r ≤ 65536 := by omega
    have hnm : n = m := by rw [← HX.out.1, ← HY.out.1]; exact hlen
    subst hnm
    rw [hv] at P1
    have P1 := fun c d => Lib.hid (P1 c d)
    have HP := Lib.hid hp
    have HLN := Lib.hid hlen
    have H0 := Lib.hid hy0
    have HST := Lib.hid hst
    rename_i q1; clear q1 hp hlen hy0 hst hro hr hle hv h0
    go_enter Try.func32, Try.ntmps32
    go_wp2_with fail
    refine (P1 _ _).out.mono ?_
    rintro e w' ⟨rfl, q0, rfl⟩
    go_wp2_with fail
    go_loopw [5, 6] (fun s i wr => ∃ k q : Nat, k ≤ n ∧ i = .int .i64 k ∧ wr = w.drewN q ∧ ∃ t : Int, s = .int .i64 t ∧ 0 ≤ t ∧ t ≤ 65536 ∧ Hid (hornL t (xs.drop k) (ys.drop k) = r)) (fun _ i _ => n - (intOf i).toNat)
    case atStart => exact ⟨0, _, Nat.zero_le _, rfl, rfl, 0, rfl, by omega, by omega, HST⟩
    case round =>
      obtain ⟨k, q, hk, rfl, rfl, t, rfl, ht1, ht2, Hs⟩ := hrel
      by_cases hlt : k < n
      · obtain ⟨ad1, x, rfl, hx, hc1⟩ := HX.out.at_ hlt
        obtain ⟨ad2, y, rfl, hy, hc2⟩ := HY.out.at_ hlt
        have hb := horn_le hx hy HP.out H0.out HLN.out ht1 (by rw [Hs.out]; omega)
        have hs := Hs.out
        rw [horn_step hx hy] at hs
        have HS := Lib.hid hs
        have hb1 := hb.1
        have hb2 := hb.2.1
        have hb3 := hb.2.2
        have hyy := H0.out y (mem_at hy)
        clear hb hs hx hy
        have HB := Lib.hid (And.intro hb2 hb3)
        have hi1 : (k : Int) < (n : Int) := by omega
        have hw1 : IntKind.i64.wrap (t * x) = t * x := wrap_in (by omega) (by omega)
        have hw2 : IntKind.i64.wrap (t * x + y) = t * x + y := wrap_in (by omega) (by omega)
        clear hb1 hb2 hb3
        go_wp2_with fail
        go_quiet (fail)
        clear hw1 hw2
        go_wp2_with fail
        go_roundw
        case rel => exact ⟨k + 1, _, by omega, by go_num, rfl, _, rfl, HB.out.1, HB.out.2, HS⟩
        case measure => first | (simp [intOf]; done) | (simp [intOf]; omega)
      · have HE := Lib.hid (show t = r by rw [← Hs.out, horn_end (by rw [HX.out.1]; omega)])
        clear ht1 ht2 hr6
        go_wp2_with fail
        go_ret
        exact ⟨ret_int HE.out, _, rfl⟩
  · have hv : vldB xs ys = false := by simpa using hv
    have e : rofN xs ys = -1 := by unfold rofN; rw [hv]; rfl
    rw [e]
    rw [hv] at P1
    have P1 := fun c d => Lib.hid (P1 c d)
    rename_i q1 q2; clear q1 q2 e hv h0
    go_enter Try.func32, Try.ntmps32
    go_wp2_with fail
    refine (P1 _ _).out.mono ?_
    rintro e w' ⟨rfl, q0, rfl⟩
    go_wp2_with fail
    go_ret
    exact ⟨rfl, _, rfl⟩


end Go.Proofs.Ytbadbjcommdjgaa.gam
