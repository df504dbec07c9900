/- Package odometer: Count, Next, Between, All. -/
import Derived.Test.YtaegkiangjnmdaaOdometer
import Derived.Test.YtaegkiangjnmdaaAft
import Derived.Deep.RegionWith
import Derived.RegionTactic
namespace Go.Proofs.Ytaegkiangjnmdaa.odo
open Go.ChangeShapes Go.WideShapes Go.ChangeAt Go.RowKit Go.Proofs.Ytaegkiangjnmdaa.mem Go.Proofs.Ytaegkiangjnmdaa.prod Go.Proofs.Ytaegkiangjnmdaa.shp Go.Proofs.Ytaegkiangjnmdaa.strd Go.Proofs.Ytaegkiangjnmdaa.gam Go.Proofs.Ytaegkiangjnmdaa.sml Go.Proofs.Ytaegkiangjnmdaa.all
set_option linter.unusedVariables false

set_option maxHeartbeats 1000000 in
theorem count_any (A B : Option Addr) (n c d : Nat) (lo hi : List Int) (w : World) (hn : n ≤ 65536) (ha : Rd w A n lo) (hb : Rd w B n hi) (hla : ∀ x ∈ lo, -4294967296 ≤ x ∧ x ≤ 4294967296) (hlb : ∀ x ∈ hi, -4294967296 ≤ x ∧ x ≤ 4294967296) (hm : prodL (dimsL lo hi) ≤ 4294967296) :
    Calls Try.prog 28 #[.slice A n c, .slice B n d] w fun e w' => e = .returned (.int .i64 (prodL (dimsL lo hi))) ∧ w = w' := by
  have hl : lo.length = hi.length := by rw [ha.1, hb.1]
  have P1 := Lib.hid (inside_any A B A n c n d n c lo hi lo w (by unfold maxLen; omega) (by unfold maxLen; omega) (by unfold maxLen; omega) ha hb ha)
  cases hi0 : insB lo hi lo
  · have hz := dims_zero hl hi0
    rw [hz]
    rw [hi0] at P1
    clear hz hi0 hm hla hlb hl ha hb
    go_enter Try.func28, Try.ntmps28
    go_wp2_with fail
    refine P1.out.mono ?_
    rintro e w' ⟨rfl, rfl⟩
    go_wp2_with fail
    go_ret
    exact ⟨rfl, rfl⟩
  · rw [hi0] at P1
    have HP := Lib.hid (dims_pos hi0)
    have hdl : (dimsL lo hi).length = n := by rw [dims_len hl, ha.1]
    obtain ⟨N, hN⟩ : ∃ N, N = prodL (dimsL lo hi) := ⟨_, rfl⟩
    rw [← hN] at hm ⊢
    have HN := Lib.hid hN; have HDL := Lib.hid hdl
    have HA := Lib.hid ha; have HB := Lib.hid hb; have HLA := Lib.hid hla; have HLB := Lib.hid hlb
    clear hN hdl hi0 hl ha hb hla hlb
    go_enter Try.func28, Try.ntmps28
    go_wp2_with fail
    refine P1.out.mono ?_
    rintro e w' ⟨rfl, rfl⟩
    go_wp2_with fail
    go_loop [5, 15] (fun s i => ∃ k : Nat, k ≤ n ∧ i = .int .i64 k ∧ ∃ t : Int, s = .int .i64 t ∧ 1 ≤ t ∧ t ≤ 4294967296 ∧ Hid (t * prodL ((dimsL lo hi).drop k) = N)) (fun _ i => n - (intOf i).toNat)
    case atStart => exact ⟨0, Nat.zero_le _, rfl, 1, rfl, by omega, by omega, Lib.hid (by rw [HN.out, List.drop_zero]; omega)⟩
    case round =>
      obtain ⟨k, hk, rfl, t, rfl, ht1, ht2, Hs⟩ := hrel
      by_cases hlt : k < n
      · obtain ⟨ad1, a, rfl, hka, hc1⟩ := HA.out.at_ hlt
        obtain ⟨ad2, b, rfl, hkb, hc2⟩ := HB.out.at_ hlt
        have hab := HLA.out a (mem_at hka)
        have hbb := HLB.out b (mem_at hkb)
        have hd := dims_at hka hkb
        have hd1 := HP.out _ (mem_at hd)
        have hs := Hs.out
        rw [prodL_step hd] at hs
        have hmx : max (b - a) 0 = b - a := by omega
        rw [hmx] at hs
        have h4 := prodL_pos (xs := (dimsL lo hi).drop (k + 1)) fun z hz => HP.out z (List.mem_of_mem_drop hz)
        have hs2 : t * (b - a) * prodL ((dimsL lo hi).drop (k + 1)) = N := by rw [← hs, Int.mul_assoc, Int.mul_comm (b - a)]
        have h5 : 1 ≤ t * (b - a) := by
          have := Int.mul_le_mul ht1 (show (1 : Int) ≤ b - a by omega) (by omega) (by omega)
          omega
        have h6 := Int.mul_le_mul_of_nonneg_left h4 (show 0 ≤ t * (b - a) by omega)
        rw [hs2] at h6
        have h7 : t * (b - a) ≤ 4294967296 := by omega
        have HS := Lib.hid hs2
        have H5 := Lib.hid h5
        have H7 := Lib.hid h7
        have ha1 := hab.1
        have ha2 := hab.2
        have hb1 := hbb.1
        have hb2 := hbb.2
        clear hka hkb hab hbb hd hd1 hs hmx h4 hs2 h6
        go_wp2_with fail
        go_round
        case rel => exact ⟨k + 1, by omega, by go_num, _, rfl, H5.out, H7.out, HS⟩
        case measure => first | (simp [intOf]; done) | (simp [intOf]; omega)
      · have HE := Lib.hid (show t = N by rw [← Hs.out, List.drop_of_length_le (by rw [HDL.out]; omega)]; show t = t * 1; omega)
        clear ht1 ht2 hm
        go_wp2_with fail
        go_ret
        exact ⟨ret_int HE.out, rfl⟩


theorem set_same {W : World} {p : Addr} {u v : Value} (h : W.cell? p = some u) : (W.setCell p v).cell? p = some v := World.cell?_setCell_same' _ _ _ (by rw [h]; rfl)
theorem set_other {W : World} {p q : Addr} {u v : Value} (h : W.cell? q = some u) (hne : q.block ≠ p.block) : (W.setCell p v).cell? q = some u := (World.cell?_of_block (Below.heap_setCell _ _ _ _ hne)).trans h
theorem own_set_below {W : World} {B : Nat} {v u : Value} {xs : List Int} {p : Addr} (h : Own W B v xs) (hp : p.block < B) : Own (W.setCell p u) B v xs := ownsRow_setCell_below h hp u
/-- What Between answers: a closure over its own copies of the lists. -/
def Holds2 (w : World) (f : Nat) (lo hi : List Int) (e : Ending) (w' : World) : Prop :=
  ∃ v1 v2, e = .returned (.func (.func f) #[] #[.pointer (some ⟨w.heap.size, 0, none⟩), .pointer (some ⟨w.heap.size + 1, 0, none⟩)]) ∧ w'.cell? ⟨w.heap.size, 0, none⟩ = some v1 ∧ w'.cell? ⟨w.heap.size + 1, 0, none⟩ = some v2 ∧
    Own w' w.heap.size v1 lo ∧ Own w' w.heap.size v2 hi ∧ Below w.heap.size w w'
set_option maxHeartbeats 2000000 in
theorem between_any (A B : Option Addr) (n m c d : Nat) (lo hi : List Int) (w : World) (hn : n ≤ 1099511627776) (hm : m ≤ 1099511627776) (ha : Rd w A n lo) (hb : Rd w B m hi) (hA : A = none → c = 0) (hB : B = none → d = 0) :
    Calls Try.prog 48 #[.slice A n c, .slice B m d] w (Holds2 w 51 lo hi) := by
  obtain ⟨w0, hw0⟩ : ∃ w0, w0 = (w.alloc (.cells #[.slice A n c] 22)).alloc (.cells #[.slice B m d] 22) := ⟨_, rfl⟩
  have hz0 : w0.heap.size = w.heap.size + 2 := by rw [hw0]; simp
  have hc1 : w0.cell? ⟨w.heap.size, 0, none⟩ = some (.slice A n c) := by rw [hw0]; simp
  have hc2 : w0.cell? ⟨w.heap.size + 1, 0, none⟩ = some (.slice B m d) := by rw [hw0]; simp
  have hf1 : w0.frozen? ⟨w.heap.size, 0, none⟩ = false := by rw [hw0]; simp
  have hf2 : w0.frozen? ⟨w.heap.size + 1, 0, none⟩ = false := by rw [hw0]; simp
  have hb0 : Below w.heap.size w w0 := by rw [hw0]; exact ((Below.refl _ w).alloc (Nat.le_refl _) _).alloc (by simp) _
  have PL := fun W (h : Aft w0 W) => Lib.hid (clone_any A n c lo W hn ((ha.below hb0).below h) hA)
  have PH := fun W (h : Aft w0 W) => Lib.hid (clone_any B m d hi W hm ((hb.below hb0).below h) hB)
  have HA0 := Lib.hid hb0
  clear ha hb hA hB hb0
  go_enter Try.func48, Try.ntmps48
  go_wp2_with fail
  rw [← hw0]
  have HW0 := Lib.hid hw0; clear hw0
  have HU0 := Lib.hid (show Aft w0 w0.drew from ⟨rfl, rfl, rfl, Nat.le_refl _, fun _ _ => rfl⟩)
  have HC1 := Lib.hid hc1; have HC2 := Lib.hid hc2; have HF1 := Lib.hid hf1; have HF2 := Lib.hid hf2
  have HZ0 := Lib.hid hz0
  have HSZ1 := Lib.hid (show w.heap.size < w0.heap.size by omega)
  have HSZ2 := Lib.hid (show w.heap.size + 1 < w0.heap.size by omega)
  clear hf1 hf2 hz0
  go_region_with (first
    | (go_at_call 36; (with_reducible refine (PH _ HU1.out).out.mono ?_); intro e w2 hm; obtain ⟨A2, k2, rfl, ho2, hb2, _, _, _⟩ := hm.out; clear hm; have HU2 := Lib.hid (HU1.out.call hb2); clear hc12; have hc21 := (Below.cell (p := ⟨w.heap.size, 0, none⟩) HU2.out HSZ1.out).trans HC1.out; have hc22 := (Below.cell (p := ⟨w.heap.size + 1, 0, none⟩) HU2.out HSZ2.out).trans HC2.out; have hf21 := (Below.frozen (p := ⟨w.heap.size, 0, none⟩) HU2.out HSZ1.out).trans HF1.out; have hf22 := (Below.frozen (p := ⟨w.heap.size + 1, 0, none⟩) HU2.out HSZ2.out).trans HF2.out; have HO2 := Lib.hid ho2; have HB2 := Lib.hid hb2; have HO1' := Lib.hid (HO1.out.below hb2); clear ho2 hb2)
    | (go_at_call 36; (with_reducible refine (PL _ (HU0.out)).out.mono ?_); intro e w1 hm; obtain ⟨A1, k1, rfl, ho1, hb1, _, _, _⟩ := hm.out; clear hm; have HU1 := Lib.hid (HU0.out.call hb1); have hc12 := (Below.cell (p := ⟨w.heap.size + 1, 0, none⟩) HU1.out HSZ2.out).trans HC2.out; have HO1 := Lib.hid ho1; clear hc1 hc2 ho1 hb1))
  all_goals
    have HC21 := Lib.hid hc21; have HC22 := Lib.hid hc22; have HBW := Lib.hid (HA0.out.trans (HU2.out.mono HA0.out.size))
    clear hc21 hc22 hf21 hf22
    go_wp2_with fail
    go_ret
    have hs0 : w0.heap.size = w.heap.size + 2 := HZ0.out
    have hs1 : w.heap.size + 2 ≤ w1.heap.size := by have := HU1.out.size; have := HZ0.out; omega
    refine ⟨_, _, rfl, set_other (set_same HC21.out) (by simp), set_same (set_other HC22.out (by simp)), ?_, ?_, (HBW.out.setCell (p := ⟨w.heap.size, 0, none⟩) (Nat.le_refl _) _).setCell (p := ⟨w.heap.size + 1, 0, none⟩) (by simp) _⟩
    · exact (own_set_below (own_set_below HO1'.out (by show w.heap.size < w0.heap.size; omega)) (by show w.heap.size + 1 < w0.heap.size; omega)).le (by show w.heap.size ≤ w0.heap.size; omega)
    · exact (own_set_below (own_set_below HO2.out (by show w.heap.size < w1.heap.size; omega)) (by show w.heap.size + 1 < w1.heap.size; omega)).le (by omega)
end Go.Proofs.Ytaegkiangjnmdaa.odo
