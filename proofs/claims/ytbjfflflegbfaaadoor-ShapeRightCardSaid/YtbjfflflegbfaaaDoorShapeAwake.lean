/- The fixed examples of the chapter hold: awake answers true. -/
import Derived.Test.YtbjfflflegbfaaaDoorEdits
import Derived.Test.YtbjfflflegbfaaaDoorRefEdits
import Derived.Test.YtbjfflflegbfaaaDoorRefStrides
import Derived.Test.YtbjfflflegbfaaaDoorEqual
import Derived.Test.YtbjfflflegbfaaaDoorText
namespace Go.Proofs.YtbjfflflegbfaaaDoor.laws
open Go.ChangeShapes Go.WideShapes Go.ChangeAt Go.RowKit Go.Proofs.YtbjfflflegbfaaaDoor.mem Go.Proofs.YtbjfflflegbfaaaDoor.shp Go.Proofs.YtbjfflflegbfaaaDoor.eql Go.Proofs.YtbjfflflegbfaaaDoor.edit Go.Proofs.YtbjfflflegbfaaaDoor.redit Go.Proofs.YtbjfflflegbfaaaDoor.strd Go.Proofs.YtbjfflflegbfaaaDoor.txt
set_option linter.unusedVariables false

/-- W comes after W0: what was there is as it was. -/
def Aft (W0 W : World) : Prop := Below W0.heap.size W0 W
theorem Aft.refl (W : World) : Aft W W := Below.refl _ _
theorem Aft.alloc {W0 W : World} (h : Aft W0 W) (o : Obj) : Aft W0 (W.alloc o) := Below.alloc h h.size o
theorem Aft.call {W0 W W' : World} (h : Aft W0 W) (hb : Below W.heap.size W W') : Aft W0 W' := Below.trans h (hb.mono h.size)
theorem Aft.rd {W0 W : World} {A : Option Addr} {n : Nat} {xs : List Int} (h : Aft W0 W) (hr : Rd W0 A n xs) : Rd W A n xs := hr.below h

theorem rd_new_at {W : World} {t : TypeId} {b : Nat} (xs : List Int) (hb : b = W.heap.size) : Rd (W.alloc (.cells (xs.map (Value.int .i64)).toArray t)) (some ⟨b, 0, none⟩) xs.length xs := by subst hb; exact rd_new W t xs
theorem cells_at {A : Option Addr} {n c : Nat} {xs : List Int} {w : World} (N : Int) (hN : celN xs = N) (hn : n ≤ maxLen) (hc : Rd w A n xs) :
    Calls Tryd.prog 11 #[.slice A n c] w fun e w' => e = .returned (.int .i64 N) ∧ w = w' := by subst hN; exact cells_any A n c xs w hn hc
theorem check_at {A : Option Addr} {n c : Nat} {xs : List Int} {w : World} (N : Int) (hN : chkE xs = N) (hn : n ≤ maxLen) (hc : Rd w A n xs) :
    Calls Tryd.prog 9 #[.slice A n c] w fun e w' => e = .returned (.int .i64 N) ∧ w = w' := by subst hN; exact check_any A n c xs w hn hc
theorem strides_at {A : Option Addr} {n c : Nat} {xs : List Int} {w : World} (L : List Int) (hL : strL xs = L) (hn : n ≤ maxLen) (hc : Rd w A n xs) :
    Calls Tryd.prog 14 #[.slice A n c] w (Makes w L) := by subst hL; exact strides_any A n c xs w hn hc
theorem refEqual_at {A B : Option Addr} {n c m d : Nat} {xs ys : List Int} {w : World} (r : Bool) (hr : eqB xs ys = r) (hn : n ≤ maxLen) (hm : m ≤ maxLen) (hx : Rd w A n xs) (hy : Rd w B m ys) :
    Calls Tryd.prog 13 #[.slice A n c, .slice B m d] w (Says w r) := by subst hr; exact refEqual_any A B n c m d xs ys w hn hm hx hy
theorem equal_at {A B : Option Addr} {n c m d : Nat} {xs ys : List Int} {w : World} (r : Bool) (hr : eqB xs ys = r) (hn : n ≤ maxLen) (hm : m ≤ maxLen) (hx : Rd w A n xs) (hy : Rd w B m ys) :
    Calls Tryd.prog 23 #[.slice A n c, .slice B m d] w (Says w r) := by subst hr; exact equal_any A B n c m d xs ys w hn hm hx hy
theorem text_at {A : Option Addr} {c : Nat} {w : World} (hx : Rd w A 3 [2, 3, 4]) :
    Calls Tryd.prog 16 #[.slice A 3 c] w fun e w' => e = .returned (.string ⟨#[50, 32, 51, 32, 52]⟩) ∧ Below w.heap.size w w' := by
  have e : strOf (textL [2, 3, 4]) = ⟨#[50, 32, 51, 32, 52]⟩ := by
    have h2 : Lib.itoa 2 = [50] := by rw [show (2 : Int) = ((2 : Nat) : Int) from rfl, Lib.itoa_nonneg, Lib.decDigits_one (by omega)]; rfl
    have h3 : Lib.itoa 3 = [51] := by rw [show (3 : Int) = ((3 : Nat) : Int) from rfl, Lib.itoa_nonneg, Lib.decDigits_one (by omega)]; rfl
    have h4 : Lib.itoa 4 = [52] := by rw [show (4 : Int) = ((4 : Nat) : Int) from rfl, Lib.itoa_nonneg, Lib.decDigits_one (by omega)]; rfl
    simp only [textL, List.map_cons, List.map_nil, h2, h3, h4]
    rfl
  have := text_small A 3 c [2, 3, 4] w (by omega) hx (by simp)
  rwa [e] at this

set_option maxHeartbeats 4000000 in
set_option maxRecDepth 100000 in
theorem awake_true (w : World) :
    Calls Tryd.prog 8 #[] w fun e w' => e = .returned (.bool true) ∧ Below w.heap.size w w' := by
  have c1 := fun (A : Option Addr) (W : World) (hA : A = none → 3 = 0) (h : Rd W A 3 [2, 3, 4]) => Lib.hid (show Calls Tryd.prog 19 #[.slice A 3 3, .int .i64 3, .int .i64 9] W (MakesE W [2, 3, 4, 9] 0) from insert_some A 3 3 [2, 3, 4] 3 9 W (by omega) (by unfold maxLen; omega) hA (by omega) h (by omega))
  have c2 := fun (A : Option Addr) (W : World) (hA : A = none → 3 = 0) (h : Rd W A 3 [2, 3, 4]) => Lib.hid (show Calls Tryd.prog 20 #[.slice A 3 3, .int .i64 0] W (MakesE W [3, 4] 0) from remove_some A 3 3 [2, 3, 4] 0 W (by omega) (by unfold maxLen; omega) hA (by omega) h (by omega))
  have c3 := fun (A : Option Addr) (W : World) (hA : A = none → 3 = 0) (h : Rd W A 3 [2, 3, 4]) => Lib.hid (show Calls Tryd.prog 18 #[.slice A 3 3, .int .i64 1, .int .i64 7] W (MakesE W [2, 7, 4] 0) from replace_some A 3 3 [2, 3, 4] 1 7 W (by omega) (by unfold maxLen; omega) hA (by omega) h (by omega))
  have c4 := fun (A : Option Addr) (W : World) => Lib.hid (replace_none A 3 3 3 7 W (by unfold maxLen; omega) (by omega))
  have hnn : ∀ a : Addr, some a = none → 3 = 0 := fun a h => by cases h
  have HNN := Lib.hid hnn; clear hnn
  have C1 := Lib.hid c1; have C2 := Lib.hid c2; have C3 := Lib.hid c3
  clear c1 c2 c3
  have hs0 := rd_new w 3 [2, 3, 4]
  have a0 := (Aft.refl w).alloc (.cells #[.int .i64 2, .int .i64 3, .int .i64 4] 3)
  have HS0 := Lib.hid hs0; clear hs0
  have A0 := Lib.hid a0; clear a0
  go_enter Tryd.func8, Tryd.ntmps8
  go_wp2_with fail
  refine (C1.out _ _ (HNN.out _) HS0.out).out.mono ?_
  intro e w1 hm
  obtain ⟨A1, k1, rfl, ho, hb, _, _, _⟩ := hm.out
  have S1 := Lib.hid (HS0.out.below hb)
  have R1 := Lib.hid ho.rd
  have T1 := Lib.hid (A0.out.call hb)
  clear hm ho hb
  go_wp2_with fail
  refine (C2.out _ _ (HNN.out _) S1.out).out.mono ?_
  intro e w2 hm
  obtain ⟨A2, k2, rfl, ho, hb, _, _, _⟩ := hm.out
  have S2 := Lib.hid (S1.out.below hb)
  have R12 := Lib.hid (R1.out.below hb)
  have R2 := Lib.hid ho.rd
  have T2 := Lib.hid (T1.out.call hb)
  clear hm ho hb
  go_wp2_with fail
  refine (C3.out _ _ (HNN.out _) S2.out).out.mono ?_
  intro e w3 hm
  obtain ⟨A3, k3, rfl, ho, hb, _, _, _⟩ := hm.out
  have S3 := Lib.hid (S2.out.below hb)
  have R13 := Lib.hid (R12.out.below hb)
  have R23 := Lib.hid (R2.out.below hb)
  have R3 := Lib.hid ho.rd
  have T3 := Lib.hid (T2.out.call hb)
  clear hm ho hb
  go_wp2_with fail
  refine (c4 _ _).out.mono ?_
  rintro e w4 ⟨rfl, hb⟩
  have S4 := Lib.hid (S3.out.below hb)
  have R14 := Lib.hid (R13.out.below hb)
  have R24 := Lib.hid (R23.out.below hb)
  have R34 := Lib.hid (R3.out.below hb)
  have T4 := Lib.hid (T3.out.call hb)
  have U4 := Lib.hid (Aft.refl w4)
  clear hb S1 S2 S3 R1 R12 R13 R2 R23 R3 T1 T2 T3
  -- Cells(s) == 24
  go_wp2_with fail
  refine (cells_at 24 (by decide) (by decide) S4.out).mono ?_
  rintro e w' ⟨rfl, rfl⟩
  -- Strides(s)
  go_wp2_with fail
  refine (strides_at [12, 4, 1] (by decide) (by decide) S4.out).mono ?_
  intro e w5 hm
  obtain ⟨A5, k5, rfl, ho, hb, _, _, _⟩ := hm.out
  have R5 := Lib.hid (ho.rd.below ((Below.refl _ _).alloc (Nat.le_refl _) (.cells #[.int .i64 12, .int .i64 4, .int .i64 1] 3)))
  have U5 := Lib.hid ((U4.out.call hb).alloc (.cells #[.int .i64 12, .int .i64 4, .int .i64 1] 3))
  clear hm ho hb
  go_wp2_with fail
  refine (refEqual_at (ys := [12, 4, 1]) true (by decide) (by decide) (by decide) R5.out (rd_new w5 _ [12, 4, 1])).mono ?_
  rintro e w6 ⟨rfl, hb⟩
  have U6 := Lib.hid (U5.out.call hb)
  clear hb U5 R5
  -- Cells(nil) == 1
  go_wp2_with fail
  refine (cells_at 1 (by decide) (by decide) Rd.nil_).mono ?_
  rintro e w' ⟨rfl, rfl⟩
  -- Check([]int{-1})
  go_wp2_with fail
  refine (check_at (xs := [-1]) 6 (by decide) (by decide) (rd_new w6 _ [-1])).mono ?_
  rintro e w' ⟨rfl, rfl⟩
  go_wp2_with fail
  refine (check_at (xs := [65537]) 7 (by decide) (by decide) (rd_new_at [65537] (by simp))).mono ?_
  rintro e w' ⟨rfl, rfl⟩
  have U7 := Lib.hid ((U6.out.alloc (.cells #[.int .i64 (-1)] 3)).alloc (.cells #[.int .i64 65537] 3))
  clear U6
  go_wp2_with fail
  refine (check_at 0 (by decide) (by decide) (U7.out.rd S4.out)).mono ?_
  rintro e w' ⟨rfl, rfl⟩
  -- a
  have U8 := Lib.hid (U7.out.alloc (.cells #[.int .i64 2, .int .i64 3, .int .i64 4, .int .i64 9] 3))
  clear U7
  go_wp2_with fail
  refine (refEqual_at (ys := [2, 3, 4, 9]) true (by decide) (by decide) (by decide) (U8.out.rd R14.out) (rd_new_at [2, 3, 4, 9] (by simp))).mono ?_
  rintro e w9 ⟨rfl, hb⟩
  have U9 := Lib.hid ((U8.out.call hb).alloc (.cells #[.int .i64 3, .int .i64 4] 3))
  clear hb U8
  -- b
  go_wp2_with fail
  refine (refEqual_at (ys := [3, 4]) true (by decide) (by decide) (by decide) (U9.out.rd R24.out) (rd_new _ _ [3, 4])).mono ?_
  rintro e w10 ⟨rfl, hb⟩
  have U10 := Lib.hid ((U9.out.call hb).alloc (.cells #[.int .i64 2, .int .i64 7, .int .i64 4] 3))
  clear hb U9
  -- c
  go_wp2_with fail
  refine (refEqual_at (ys := [2, 7, 4]) true (by decide) (by decide) (by decide) (U10.out.rd R34.out) (rd_new _ _ [2, 7, 4])).mono ?_
  rintro e w11 ⟨rfl, hb⟩
  have U11 := Lib.hid (U10.out.call hb)
  clear hb U10
  -- Text(s)
  go_wp2_with fail
  refine (text_at (U11.out.rd S4.out)).mono ?_
  rintro e w12 ⟨rfl, hb⟩
  have U12 := Lib.hid (U11.out.call hb)
  clear hb U11
  -- Equal(s, s), Equal(s, b)
  go_wp2_with fail
  refine (equal_at true (by decide) (by decide) (by decide) (U12.out.rd S4.out) (U12.out.rd S4.out)).mono ?_
  rintro e w13 ⟨rfl, hb⟩
  have U13 := Lib.hid (U12.out.call hb)
  clear hb U12
  go_wp2_with fail
  refine (equal_at false (by decide) (by decide) (by decide) (U13.out.rd S4.out) (U13.out.rd R24.out)).mono ?_
  rintro e w14 ⟨rfl, hb⟩
  have U14 := Lib.hid (U13.out.call hb)
  clear hb U13
  go_wp2_with fail
  go_ret
  exact ⟨rfl, T4.out.call U14.out⟩
end Go.Proofs.YtbjfflflegbfaaaDoor.laws
