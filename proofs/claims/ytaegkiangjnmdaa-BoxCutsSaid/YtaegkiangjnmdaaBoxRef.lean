/- The reference of package box, what only reads: Has, empty, Small, Cells, Same. -/
import Derived.Test.YtaegkiangjnmdaaBox
namespace Go.Proofs.Ytaegkiangjnmdaa.bx
open Go.ChangeShapes Go.WideShapes Go.ChangeAt Go.RowKit Go.Proofs.Ytaegkiangjnmdaa.mem Go.Proofs.Ytaegkiangjnmdaa.prod Go.Proofs.Ytaegkiangjnmdaa.shp Go.Proofs.Ytaegkiangjnmdaa.strd Go.Proofs.Ytaegkiangjnmdaa.gam Go.Proofs.Ytaegkiangjnmdaa.sml Go.Proofs.Ytaegkiangjnmdaa.all Go.Proofs.Ytaegkiangjnmdaa.odo Go.Proofs.Ytaegkiangjnmdaa.eql Go.Proofs.Ytaegkiangjnmdaa.arr
set_option linter.unusedVariables false

set_option maxHeartbeats 1000000 in
theorem refHas_any (A B C : Option Addr) (n c d l e : Nat) (lo hi xs : List Int) (w : World) (hn : n ≤ maxLen) (hl : l ≤ maxLen) (ha : Rd w A n lo) (hb : Rd w B n hi) (hx : Rd w C l xs) :
    Calls Try.prog 17 #[.agg #[.slice A n c, .slice B n d], .slice C l e] w (Says w (insB lo hi xs)) := by
  unfold maxLen at hn hl
  have hbl := one_below w #[.slice A n c, .slice B n d] 24
  obtain ⟨V, hV⟩ : ∃ V, V = w.alloc (.cells #[.slice A n c, .slice B n d] 24) := ⟨_, rfl⟩
  have HA := Lib.hid (ha.below hbl); have HB := Lib.hid (hb.below hbl); have HX := Lib.hid (hx.below hbl)
  have HK := Lib.hid (box2_new w (.slice A n c) (.slice B n d) 24)
  rw [← hV] at HA HB HX HK hbl
  have HBL := Lib.hid hbl
  have HV := Lib.hid hV
  have HLX := Lib.hid hx.1; have HLA := Lib.hid ha.1
  clear ha hb hx hbl hV
  obtain ⟨r, hr⟩ : ∃ r, r = insB lo hi xs := ⟨_, rfl⟩
  rw [← hr]
  have HR := Lib.hid hr; clear hr
  by_cases hln : l = n
  · subst hln
    go_enter Try.func17, Try.ntmps17
    go_wp2_with fail
    rw [← HV.out]
    obtain ⟨k1, k2, _⟩ := HK.out
    go_loopw [5] (fun i wr => ∃ k q : Nat, k ≤ l ∧ i = .int .i64 k ∧ wr = V.drewN q ∧ Hid (insB lo hi xs = insB (lo.drop k) (hi.drop k) (xs.drop k))) (fun i _ => l - (intOf i).toNat)
    case atStart => exact ⟨0, 0, Nat.zero_le _, rfl, rfl, Lib.hid rfl⟩
    case round =>
      obtain ⟨k, q, hk, rfl, rfl, Hs⟩ := hrel
      by_cases hlt : k < l
      · obtain ⟨ad1, a, rfl, ha, hc1⟩ := HA.out.at_ hlt
        obtain ⟨ad2, b, rfl, hb, hc2⟩ := HB.out.at_ hlt
        obtain ⟨ad3, x, rfl, hx, hc3⟩ := HX.out.at_ hlt
        have HS := Lib.hid (ins_step ha hb hx)
        clear ha hb hx
        have hi1 : (k : Int) < (l : Int) := by omega
        by_cases hxa : x < a
        · go_wp2_with fail
          go_quiet (fail)
          go_wp2_with fail
          go_ret
          exact ⟨ret_bool (by rw [HR.out, Hs.out, HS.out, decide_eq_false (by omega)]; rfl), below_drewN (below_drewN HBL.out _) _⟩
        · have hd1 : decide (x < a) = false := decide_eq_false hxa
          by_cases hbx : b ≤ x
          · go_wp2_with fail
            go_quiet (fail)
            go_wp2_with fail
            go_ret
            exact ⟨ret_bool (by rw [HR.out, Hs.out, HS.out, decide_eq_false (by omega)]; rfl), below_drewN (below_drewN HBL.out _) _⟩
          · have hd2 : decide (b ≤ x) = false := decide_eq_false hbx
            go_wp2_with fail
            go_quiet (fail)
            go_wp2_with fail
            go_roundw
            case rel => exact ⟨k + 1, _, by omega, by go_num, by first | rfl | rw [World.drewN_drewN], Lib.hid (by rw [Hs.out, HS.out, decide_eq_true (by omega), Bool.true_and])⟩
            case measure => simp [intOf]; omega
      · have HE := Lib.hid (HR.out.trans (Hs.out.trans (ins_end HA.out.1 HB.out.1 HX.out.1 hlt)))
        go_wp2_with fail
        go_ret
        exact ⟨ret_bool HE.out.symm, below_drewN HBL.out _⟩
  · have HE := Lib.hid (show r = false from HR.out.trans (ins_ne (.inr (by rw [HLX.out, HLA.out]; exact hln))))
    have hnm' : ¬ (l : Int) = (n : Int) := by omega
    go_enter Try.func17, Try.ntmps17
    go_wp2_with fail
    go_ret
    exact ⟨ret_bool HE.out.symm, by have := HBL.out; rw [HV.out] at this; exact this⟩

set_option maxHeartbeats 1000000 in
theorem refEmpty_any (A B : Option Addr) (n c d : Nat) (lo hi : List Int) (w : World) (hn : n ≤ maxLen) (ha : Rd w A n lo) (hb : Rd w B n hi) :
    Calls Try.prog 27 #[.agg #[.slice A n c, .slice B n d]] w (Says w (!insB lo hi lo)) := by
  unfold maxLen at hn
  have hbl := one_below w #[.slice A n c, .slice B n d] 24
  obtain ⟨V, hV⟩ : ∃ V, V = w.alloc (.cells #[.slice A n c, .slice B n d] 24) := ⟨_, rfl⟩
  have HA := Lib.hid (ha.below hbl); have HB := Lib.hid (hb.below hbl)
  have HK := Lib.hid (box2_new w (.slice A n c) (.slice B n d) 24)
  rw [← hV] at HA HB HK hbl
  have HBL := Lib.hid hbl
  have HV := Lib.hid hV
  clear ha hb hbl hV
  obtain ⟨r, hr⟩ : ∃ r, r = insB lo hi lo := ⟨_, rfl⟩
  rw [← hr]
  have HR := Lib.hid hr; clear hr
  go_enter Try.func27, Try.ntmps27
  go_wp2_with fail
  rw [← HV.out]
  obtain ⟨k1, k2, _⟩ := HK.out
  go_loopw [3] (fun i wr => ∃ k q : Nat, k ≤ n ∧ i = .int .i64 k ∧ wr = V.drewN q ∧ Hid (insB lo hi lo = insB (lo.drop k) (hi.drop k) (lo.drop k))) (fun i _ => n - (intOf i).toNat)
  case atStart => exact ⟨0, 0, Nat.zero_le _, rfl, rfl, Lib.hid rfl⟩
  case round =>
    obtain ⟨k, q, hk, rfl, rfl, Hs⟩ := hrel
    by_cases hlt : k < n
    · obtain ⟨ad1, a, rfl, ha, hc1⟩ := HA.out.at_ hlt
      obtain ⟨ad2, b, rfl, hb, hc2⟩ := HB.out.at_ hlt
      have HS := Lib.hid (ins_step ha hb ha)
      clear ha hb
      have hi1 : (k : Int) < (n : Int) := by omega
      by_cases hbx : b ≤ a
      · go_wp2_with fail
        go_quiet (fail)
        go_wp2_with fail
        go_ret
        exact ⟨ret_bool (by rw [HR.out, Hs.out, HS.out, decide_eq_false (by omega)]; rfl), below_drewN (below_drewN HBL.out _) _⟩
      · have hd2 : decide (b ≤ a) = false := decide_eq_false hbx
        go_wp2_with fail
        go_quiet (fail)
        go_wp2_with fail
        go_roundw
        case rel => exact ⟨k + 1, _, by omega, by go_num, by first | rfl | rw [World.drewN_drewN], Lib.hid (by rw [Hs.out, HS.out, decide_eq_true (by omega), Bool.true_and])⟩
        case measure => simp [intOf]; omega
    · have HE := Lib.hid (HR.out.trans (Hs.out.trans (ins_end HA.out.1 HB.out.1 HA.out.1 hlt)))
      go_wp2_with fail
      go_ret
      exact ⟨ret_bool (by rw [HE.out]; rfl), below_drewN HBL.out _⟩

/-- Few, its draws left open. -/
theorem few_says {A B : Option Addr} {n m c d : Nat} {lo hi : List Int} {most : Int} {w : World} (hn : n ≤ maxLen) (hm : m ≤ maxLen) (ha : Rd w A n lo) (hb : Rd w B m hi) (hm1 : 1 ≤ most) (hm2 : most ≤ 1000) :
    Calls Try.prog 24 #[.slice A n c, .slice B m d, .int .i64 most] w (Says w (fewB lo hi most)) := by
  refine (few_any A B n m c d lo hi most w hn hm ha hb hm1 hm2).mono ?_
  rintro e w1 ⟨rfl, q, rfl⟩
  exact ⟨rfl, below_drewN (Below.refl _ _) q⟩
def smallB (lo hi : List Int) (most : Int) : Bool := rgtB lo hi && fewB lo hi most
theorem refSmall_any (A B : Option Addr) (n c m d : Nat) (lo hi : List Int) (most : Int) (w : World) (hn : n ≤ maxLen) (hm : m ≤ maxLen) (ha : Rd w A n lo) (hb : Rd w B m hi) (hm1 : 1 ≤ most) (hm2 : most ≤ 1000) :
    Calls Try.prog 10 #[.agg #[.slice A n c, .slice B m d], .int .i64 most] w (Says w (smallB lo hi most)) := by
  have P1 := fun W h1 h2 => refRight_any A B n c m d lo hi W hn hm h1 h2
  have P2 := fun W h1 h2 => few_says (A := A) (B := B) (c := c) (d := d) (lo := lo) (hi := hi) (most := most) (w := W) hn hm h1 h2 hm1 hm2
  have hbl := one_below w #[.slice A n c, .slice B m d] 24
  have HA := Lib.hid (ha.below hbl); have HB := Lib.hid (hb.below hbl)
  have HK := Lib.hid (box2_new w (.slice A n c) (.slice B m d) 24)
  have HBL := Lib.hid hbl
  clear ha hb hbl
  unfold smallB
  generalize fewB lo hi most = f at *
  have P2 := fun W h1 h2 => Lib.hid (P2 W h1 h2)
  generalize rgtB lo hi = r at *
  have P1 := fun W h1 h2 => Lib.hid (P1 W h1 h2)
  rename_i q2 q1
  clear q1 q2
  cases r
  · go_enter Try.func10, Try.ntmps10
    go_wp2_with fail
    refine (P1 _ HA.out HB.out).out.mono ?_
    rintro e w1 ⟨rfl, hb⟩
    have HW1 := Lib.hid (HBL.out.trans (hb.mono HBL.out.size))
    clear hb
    go_wp2_with fail
    go_ret
    exact ⟨rfl, HW1.out⟩
  · go_enter Try.func10, Try.ntmps10
    go_wp2_with fail
    refine (P1 _ HA.out HB.out).out.mono ?_
    rintro e w1 ⟨rfl, hb⟩
    have HW1 := Lib.hid (HBL.out.trans (hb.mono HBL.out.size))
    have HA1 := Lib.hid (HA.out.below hb); have HB1 := Lib.hid (HB.out.below hb)
    obtain ⟨k1, k2, _⟩ := HK.out.below hb
    clear hb
    go_wp2_with fail
    refine (P2 _ HA1.out HB1.out).out.mono ?_
    rintro e w2 ⟨rfl, hb⟩
    have HW2 := Lib.hid (HW1.out.trans (hb.mono HW1.out.size))
    clear hb k1 k2
    go_wp2_with fail
    go_ret
    exact ⟨ret_bool (by simp), HW2.out⟩

theorem refCells_any (A B : Option Addr) (n c d : Nat) (lo hi : List Int) (w : World) (hn : n ≤ 16) (ha : Rd w A n lo) (hb : Rd w B n hi) (hla : ∀ x ∈ lo, -4294967296 ≤ x ∧ x ≤ 4294967296) (hlb : ∀ x ∈ hi, -4294967296 ≤ x ∧ x ≤ 4294967296)
    (hd : ∀ x ∈ dimsL lo hi, x ≤ 65536) (hp : ∀ k, prodL ((dimsL lo hi).take k) ≤ 1048576) :
    Calls Try.prog 15 #[.agg #[.slice A n c, .slice B n d]] w (MakesO w (rngs lo hi)) := by
  have P1 := fun W h1 h2 => Lib.hid (refBetween_any A B n c d lo hi W hn h1 h2 hla hlb hd hp)
  have hbl := one_below w #[.slice A n c, .slice B n d] 24
  have HA := Lib.hid (ha.below hbl); have HB := Lib.hid (hb.below hbl); have HBL := Lib.hid hbl
  clear ha hb hbl hla hlb hd hp
  go_enter Try.func15, Try.ntmps15
  go_wp2_with fail
  refine (P1 _ HA.out HB.out).out.mono ?_
  rintro e w1 ⟨P, k, rfl, ho, hk1, hk2, hk3, hb⟩
  have HO := Lib.hid (ho.le HBL.out.size)
  have HW1 := Lib.hid (HBL.out.trans (hb.mono HBL.out.size))
  have HH := Lib.hid hk3
  clear hb ho hk3
  go_wp2_with fail
  go_ret
  exact ⟨_, _, rfl, HO.out, hk1, hk2, HH.out, HW1.out⟩

def sameB (lo hi lo' hi' : List Int) : Bool := eqB lo lo' && eqB hi hi'
theorem same_any (A B A' B' : Option Addr) (n c m d n' c' m' d' : Nat) (lo hi lo' hi' : List Int) (w : World) (hn : n ≤ maxLen) (hm : m ≤ maxLen) (hn' : n' ≤ maxLen) (hm' : m' ≤ maxLen) (ha : Rd w A n lo) (hb : Rd w B m hi) (ha' : Rd w A' n' lo') (hb' : Rd w B' m' hi') :
    Calls Try.prog 13 #[.agg #[.slice A n c, .slice B m d], .agg #[.slice A' n' c', .slice B' m' d']] w (Says w (sameB lo hi lo' hi')) := by
  have P1 := fun W h1 h2 => refEqual_any A A' n c n' c' lo lo' W hn hn' h1 h2
  have P2 := fun W h1 h2 => refEqual_any B B' m d m' d' hi hi' W hm hm' h1 h2
  obtain ⟨V, hV⟩ : ∃ V, V = (w.alloc (.cells #[.slice A n c, .slice B m d] 24)).alloc (.cells #[.slice A' n' c', .slice B' m' d'] 24) := ⟨_, rfl⟩
  obtain ⟨hbl, hsz, KC⟩ := two_boxes hV
  have HA := Lib.hid (ha.below hbl); have HB := Lib.hid (hb.below hbl); have HA' := Lib.hid (ha'.below hbl); have HB' := Lib.hid (hb'.below hbl)
  have HBL := Lib.hid hbl
  have HV := Lib.hid hV
  have HKC := Lib.hid KC
  clear ha hb ha' hb' hbl hV KC hsz
  unfold sameB
  generalize eqB lo lo' = f at *
  have P1 := fun W h1 h2 => Lib.hid (P1 W h1 h2)
  generalize eqB hi hi' = r at *
  have P2 := fun W h1 h2 => Lib.hid (P2 W h1 h2)
  rename_i q2 q1
  clear q1 q2
  cases f
  · go_enter Try.func13, Try.ntmps13
    go_wp2_with fail
    rw [← HV.out]
    refine (P1 _ HA.out HA'.out).out.mono ?_
    rintro e w1 ⟨rfl, hb⟩
    have HW1 := Lib.hid (HBL.out.trans (hb.mono HBL.out.size))
    clear hb
    go_wp2_with fail
    go_ret
    exact ⟨rfl, HW1.out⟩
  · go_enter Try.func13, Try.ntmps13
    go_wp2_with fail
    rw [← HV.out]
    refine (P1 _ HA.out HA'.out).out.mono ?_
    rintro e w1 ⟨rfl, hb⟩
    have HW1 := Lib.hid (HBL.out.trans (hb.mono HBL.out.size))
    have HB1 := Lib.hid (HB.out.below hb); have HB1' := Lib.hid (HB'.out.below hb)
    obtain ⟨k1, k2, k3, k4, _⟩ := HKC.out _ hb
    clear hb
    go_wp2_with fail
    refine (P2 _ HB1.out HB1'.out).out.mono ?_
    rintro e w2 ⟨rfl, hb⟩
    have HW2 := Lib.hid (HW1.out.trans (hb.mono HW1.out.size))
    clear hb k1 k2 k3 k4
    go_wp2_with fail
    go_ret
    exact ⟨ret_bool (by simp), HW2.out⟩
end Go.Proofs.Ytaegkiangjnmdaa.bx
