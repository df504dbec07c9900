/- The walk of ShapeStrides. -/
import Derived.Test.YtbjfflflegbfaaaDoorShapeAwake
import Derived.Deep.QuietTactic
import Derived.BigQuiet
import Derived.RegionTactic
namespace Go.Proofs.YtbjfflflegbfaaaDoor.laws
open Go.ChangeShapes Go.WideShapes Go.ChangeAt Go.RowKit Go.Proofs.YtbjfflflegbfaaaDoor.mem Go.Proofs.YtbjfflflegbfaaaDoor.shp Go.Proofs.YtbjfflflegbfaaaDoor.eql Go.Proofs.YtbjfflflegbfaaaDoor.edit Go.Proofs.YtbjfflflegbfaaaDoor.redit Go.Proofs.YtbjfflflegbfaaaDoor.strd Go.Proofs.YtbjfflflegbfaaaDoor.txt
set_option linter.unusedVariables false

def Holds (w : World) (e : Ending) (w' : World) : Prop := e = .returned (.bool true) ∧ Below w.heap.size w w'

theorem strides_wrong (A : Option Addr) (n c : Nat) (xs : List Int) (w : World) (h : In w A n c xs) (h0 : ¬ chkE xs = 0) :
    Calls Tryd.prog 6 #[.slice A n c] w (Holds w) := by
  have P := fun W h => Lib.hid (refCheck_any A n c xs W (In.len ‹_›) h)
  have HX := Lib.hid h.rd; clear h
  have h01 : (chkE xs != 0) = true := by simpa using h0
  clear h0
  generalize chkE xs = E at *
  go_enter Tryd.func6, Tryd.ntmps6
  go_wp2_with fail
  refine (awake_true _).mono ?_
  rintro e w1 ⟨rfl, hb⟩
  have HX1 := Lib.hid (HX.out.below hb)
  have T1 := Lib.hid ((Aft.refl w).call hb)
  clear hb
  go_wp2_with fail
  refine (P _ HX1.out).out.mono ?_
  rintro e w' ⟨rfl, rfl⟩
  go_wp2_with fail
  refine (awake_true _).mono ?_
  rintro e w2 ⟨rfl, hb⟩
  have T2 := Lib.hid (T1.out.call hb)
  clear hb
  go_wp2_with fail
  go_ret
  exact ⟨rfl, T2.out⟩

theorem strides_none (A : Option Addr) (n c : Nat) (w : World) (h : In w A n c []) :
    Calls Tryd.prog 6 #[.slice A n c] w (Holds w) := by
  have hn : n = 0 := h.rd.1.symm
  subst hn
  have HX := Lib.hid h.rd; clear h
  have P := fun W h => Lib.hid (refCheck_any A 0 c [] W (by decide) h)
  have P2 := fun W h => Lib.hid (strides_any A 0 c [] W (by decide) h)
  have P3 := fun W h => Lib.hid (cells_any A 0 c [] W (by decide) h)
  rw [show chkE [] = 0 by decide] at P
  rw [show strL [] = [] by decide] at P2
  rw [show celN [] = 1 by decide] at P3
  go_enter Tryd.func6, Tryd.ntmps6
  go_wp2_with fail
  refine (awake_true _).mono ?_
  rintro e w1 ⟨rfl, hb⟩
  have HX1 := Lib.hid (HX.out.below hb)
  have T1 := Lib.hid ((Aft.refl w).call hb)
  clear hb
  go_wp2_with fail
  refine (P _ HX1.out).out.mono ?_
  rintro e w' ⟨rfl, rfl⟩
  go_wp2_with fail
  refine (P2 _ HX1.out).out.mono ?_
  intro e w2 hm
  obtain ⟨A5, k5, rfl, ho, hb, _, _, _⟩ := hm.out
  have HX2 := Lib.hid (HX1.out.below hb)
  have T2 := Lib.hid (T1.out.call hb)
  clear hm ho hb
  go_wp2_with fail
  refine (P3 _ HX2.out).out.mono ?_
  rintro e w' ⟨rfl, rfl⟩
  go_wp2_with fail
  go_ret
  exact ⟨rfl, T2.out⟩

theorem strides_zero (A : Option Addr) (n c : Nat) (xs : List Int) (w : World) (h : In w A n c xs) (hn : 0 < n) (h0 : chkE xs = 0) (hc : celN xs = 0) :
    Calls Tryd.prog 6 #[.slice A n c] w (Holds w) := by
  have hl16 : n ≤ 16 := by have := (chk_len h0).1; rw [h.rd.1] at this; exact this
  have P := fun W h' => refCheck_any A n c xs W h.len h'
  have P2 := fun W h' => strides_any A n c xs W h.len h'
  have P3 := fun W h' => cells_any A n c xs W h.len h'
  have P4 := fun W h' => refCells_any A n c xs W h.len h'
  have e : strL xs = List.replicate n 0 := by unfold strL; rw [if_pos h0, if_pos hc, h.rd.1]
  rw [h0] at P
  rw [e] at P2
  rw [hc] at P3 P4
  have HX := Lib.hid h.rd; clear h
  have P := Lib.hid P; have P2 := Lib.hid P2; have P3 := Lib.hid P3; have P4 := Lib.hid P4
  rename_i q1 q2 q3 q4; clear q1 q2 q3 q4 e h0 hc
  go_enter Tryd.func6, Tryd.ntmps6
  go_wp2_with fail
  refine (awake_true _).mono ?_
  rintro e w1 ⟨rfl, hb⟩
  have HX1 := Lib.hid (HX.out.below hb)
  have T1 := Lib.hid ((Aft.refl w).call hb)
  clear hb
  go_wp2_with fail
  refine (P.out _ HX1.out).mono ?_
  rintro e w' ⟨rfl, rfl⟩
  go_wp2_with fail
  refine (P2.out _ HX1.out).mono ?_
  intro e w2 hm
  obtain ⟨A5, k5, rfl, ho, hb, _, _, _⟩ := hm.out
  have HX2 := Lib.hid (HX1.out.below hb)
  have T2 := Lib.hid (T1.out.call hb)
  have R2 := Lib.hid ho.rd
  have hlen : (List.replicate n (0 : Int)).length = n := List.length_replicate
  rw [hlen] at R2
  simp only [hlen]
  clear hm ho hb hlen
  go_wp2_with fail
  refine (P4.out _ HX2.out).mono ?_
  rintro e w' ⟨rfl, rfl⟩
  go_wp2_with fail
  go_loop [4] (fun i => ∃ k : Nat, k ≤ n ∧ i = .int .i64 k) (fun i => n - (intOf i).toNat)
  case atStart => exact ⟨0, Nat.zero_le _, rfl⟩
  case round =>
    obtain ⟨k, hk, rfl⟩ := hrel
    by_cases hlt : k < n
    · obtain ⟨ad, x, rfl, hx, hcell⟩ := R2.out.at_ hlt
      have hx0 : x = 0 := by simp [hlt] at hx; exact hx.symm
      subst hx0
      clear hx
      go_wp2_with fail
      go_round
      case rel => exact ⟨k + 1, by omega, by go_num⟩
      case measure => first | (simp [intOf]; done) | (simp [intOf]; omega)
    · go_wp2_with fail
      refine (P3.out _ HX2.out).mono ?_
      rintro e w' ⟨rfl, rfl⟩
      go_wp2_with fail
      go_ret
      exact ⟨rfl, T2.out⟩

theorem add_zero_ (ad : Addr) : ad.add 0 = ad := by unfold Addr.add; simp
theorem add_succ_ (ad : Addr) (k : Nat) : ad.add (k + 1) = ⟨ad.block, ad.off + (k + 1), none⟩ := by unfold Addr.add; simp
/-- A callee that only reads, in a region that draws its order, behind another one. -/
theorem quiet_behind {P : Program} {f : FuncId} {args : Array Value} {w : World} {q n : Nat} {v : Value} (h : Calls P f args (w.drewN (q + n)) fun e w' => e = .returned v ∧ w.drewN (q + n) = w') :
    Calls P f args (w.drewN (q + n)) fun e w' => e = .returned v ∧ ∃ m, w' = w.drewN (q + m) := h.mono fun _ _ hh => ⟨hh.1, n, hh.2.symm⟩
theorem wrap_in {a : Int} (h1 : -9223372036854775808 ≤ a) (h2 : a ≤ 9223372036854775807) : IntKind.i64.wrap a = a := by rw [IntKind.wrap_i64]; omega

set_option maxHeartbeats 1000000 in
theorem strides_some (A : Option Addr) (n c : Nat) (xs : List Int) (w : World) (h : In w A n c xs) (hn : 0 < n) (h0 : chkE xs = 0) (hc : ¬ celN xs = 0) :
    Calls Tryd.prog 6 #[.slice A n c] w (Holds w) := by
  have hl16 : n ≤ 16 := by have := (chk_len h0).1; rw [h.rd.1] at this; exact this
  have P := fun W h' => refCheck_any A n c xs W h.len h'
  have P2 := fun W h' => strides_any A n c xs W h.len h'
  have P3 := fun W h' => cells_any A n c xs W h.len h'
  have P4 := fun W h' => refCells_any A n c xs W h.len h'
  have e : strL xs = strF xs := by unfold strL; rw [if_pos h0, if_neg hc]
  obtain ⟨hp, hpl, hle⟩ := right_some h0 hc
  have hc1 : (celN xs == 0) = false := beq_eq_false_iff_ne.2 hc
  rw [h0] at P
  rw [e] at P2
  have HX := Lib.hid h.rd; clear h
  have HP := Lib.hid hp
  have HPL := Lib.hid hpl
  have HLE := Lib.hid hle
  clear hp hpl hle e h0 hc
  generalize celN xs = N at *
  have P := Lib.hid P; have P2 := Lib.hid P2; have P3 := Lib.hid P3; have P4 := Lib.hid P4
  rename_i q1 q2 q3 q4; clear q1 q2 q3 q4
  obtain ⟨m, hm⟩ : ∃ m, n = m + 1 := ⟨n - 1, by omega⟩
  have HM := Lib.hid hm; clear hm
  go_enter Tryd.func6, Tryd.ntmps6
  go_wp2_with fail
  refine (awake_true _).mono ?_
  rintro e w1 ⟨rfl, hb⟩
  have HX1 := Lib.hid (HX.out.below hb)
  have T1 := Lib.hid ((Aft.refl w).call hb)
  clear hb
  go_wp2_with fail
  refine (P.out _ HX1.out).mono ?_
  rintro e w' ⟨rfl, rfl⟩
  go_wp2_with fail
  refine (P2.out _ HX1.out).mono ?_
  intro e w2 hm
  obtain ⟨A5, k5, rfl, ho, hb, _, _, _⟩ := hm.out
  have HX2 := Lib.hid (HX1.out.below hb)
  have T2 := Lib.hid (T1.out.call hb)
  have R2 := Lib.hid ho.rd
  have hlen : (strF xs).length = n := by rw [strF_len, HX.out.1]
  rw [hlen] at R2
  simp only [hlen]
  clear hm ho hb hlen
  go_wp2_with fail
  refine (P4.out _ HX2.out).mono ?_
  rintro e w' ⟨rfl, rfl⟩
  go_wp2_with fail
  go_loopw [5] (fun i wr => ∃ k q : Nat, k < n ∧ i = .int .i64 k ∧ wr = w2.drewN q) (fun i _ => n - (intOf i).toNat)
  case atStart => exact ⟨0, 0, hn, rfl, rfl⟩
  case round =>
    obtain ⟨k, q, hk, rfl, rfl⟩ := hrel
    by_cases hlt : k + 1 < n
    · obtain ⟨ad5, y, hA5, hy, hc5⟩ := R2.out.at_ hk
      obtain ⟨ad5', y', hA5', hy', hc5'⟩ := R2.out.at_ hlt
      obtain ⟨ad, x, hA, hx, hcx⟩ := HX2.out.at_ hlt
      subst hA5 hA
      obtain rfl := Option.some.inj hA5'
      rw [add_succ_] at hc5' hcx
      have hyv : y = y' * x := by
        rw [strF_at (by rw [HX.out.1]; exact hk)] at hy
        rw [strF_at (by rw [HX.out.1]; exact hlt)] at hy'
        injection hy with hy
        injection hy' with hy'
        rw [← hy, ← hy']
        exact prodL_step hx
      have hyb : 1 ≤ y ∧ y ≤ 65536 := by
        rw [strF_at (by rw [HX.out.1]; exact hk)] at hy
        injection hy with hy
        rw [← hy]
        refine ⟨prodL_pos fun z hz => (HP.out z (List.mem_of_mem_drop hz)).1, ?_⟩
        have := prodL_drop_le (xs := xs) (k + 1) fun z hz => (HP.out z hz).1
        rw [HPL.out] at this
        have := HLE.out
        omega
      have hlt' : (k : Int) + 1 < (n : Int) := by omega
      have hk0 : (0 : Int) ≤ (k : Int) + 1 := by omega
      have hkn : (k : Int) < (n : Int) := by omega
      clear hy hy' hx
      have hw1 : IntKind.i64.wrap ((k : Int) + 1) = (k : Int) + 1 := wrap_in (by omega) (by omega)
      have hw2 : IntKind.i64.wrap (y' * x) = y := by rw [← hyv]; exact wrap_in (by omega) (by omega)
      have hw3 : ((k : Int) + 1).toNat = k + 1 := by omega
      clear hyv
      go_wp2_with fail
      go_quiet (fail)
      go_wp2_with fail
      go_roundw
      case rel => exact ⟨k + 1, _, by omega, by go_num, rfl⟩
      case measure => first | (simp [intOf]; done) | (simp [intOf]; omega)
    · obtain ⟨ad5, y, hA5, hy, hc5⟩ := R2.out.at_ hk
      obtain ⟨ad5', y', hA5', hy', hc5'⟩ := R2.out.at_ hn
      obtain ⟨ad, x, hA, hx, hcx⟩ := HX2.out.at_ hn
      subst hA5 hA
      obtain rfl := Option.some.inj hA5'
      rw [add_zero_] at hc5' hcx
      have hyv : y = 1 := by
        rw [strF_at (by rw [HX.out.1]; exact hk)] at hy
        injection hy with hy
        rw [← hy, List.drop_of_length_le (by rw [HX.out.1]; omega)]
        rfl
      subst hyv
      have hpv : y' * x = N := by
        rw [strF_at (by rw [HX.out.1]; exact hn)] at hy'
        injection hy' with hy'
        rw [← hy', ← HPL.out, ← prodL_step hx]
        rfl
      have hN0 : 1 ≤ N := by rw [← HPL.out]; exact prodL_pos fun z hz => (HP.out z hz).1
      have hN1 := HLE.out
      have hlt' : ¬ (k : Int) + 1 < (n : Int) := by omega
      have hkn : (k : Int) < (n : Int) := by omega
      have hn0 : (0 : Int) < (n : Int) := by omega
      clear hy hy' hx
      have hw1 : IntKind.i64.wrap ((n : Int) - 1) = (k : Int) := by rw [wrap_in (by omega) (by omega)]; omega
      have hw2 : IntKind.i64.wrap (y' * x) = N := by rw [hpv]; exact wrap_in (by omega) (by omega)
      clear hpv
      go_wp2_with fail
      go_quiet ((go_at_call 11; exact quiet_behind (P3.out _ (HX2.out.below (below_drewN (Below.refl _ _) _)))))
      go_wp2_with fail
      go_ret
      exact ⟨rfl, by repeat (first | exact T2.out | apply below_drewN)⟩

theorem walk_ShapeStrides (A : Option Addr) (n c : Nat) (xs : List Int) (w : World) (h : In w A n c xs) :
    Calls Tryd.prog 6 #[.slice A n c] w (Holds w) := by
  by_cases h0 : chkE xs = 0
  · rcases Nat.eq_zero_or_pos n with hn | hn
    · have hx : xs = [] := List.eq_nil_of_length_eq_zero (by rw [h.rd.1, hn])
      subst hx
      exact strides_none A n c w h
    · by_cases hc : celN xs = 0
      · exact strides_zero A n c xs w h hn h0 hc
      · exact strides_some A n c xs w h hn h0 hc
  · exact strides_wrong A n c xs w h h0
end Go.Proofs.YtbjfflflegbfaaaDoor.laws
