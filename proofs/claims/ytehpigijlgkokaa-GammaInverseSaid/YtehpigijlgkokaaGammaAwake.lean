/- The fixed examples of the chapter hold: awake answers true. -/
import Derived.Test.YtehpigijlgkokaaRefGamma
import Derived.Test.YtehpigijlgkokaaAft
import Derived.Test.YtehpigijlgkokaaIn
namespace Go.Proofs.Ytehpigijlgkokaa.laws
open Go.ChangeShapes Go.WideShapes Go.ChangeAt Go.RowKit Go.Proofs.Ytehpigijlgkokaa.mem Go.Proofs.Ytehpigijlgkokaa.shp Go.Proofs.Ytehpigijlgkokaa.eql Go.Proofs.Ytehpigijlgkokaa.strd Go.Proofs.Ytehpigijlgkokaa.gam
set_option linter.unusedVariables false

theorem offset_at {A B : Option Addr} {n c m d : Nat} {xs ys : List Int} {w : World} (r : Int) (b : Bool) (hr : offN xs ys = r ∧ vldB xs ys = b) (h0 : chkE xs = 0) (hn : n ≤ maxLen) (hm : m ≤ maxLen) (hx : Rd w A n xs) (hy : Rd w B m ys) :
    Calls Try.prog 10 #[.slice A n c, .slice B m d] w (Pair w r b) := by obtain ⟨rfl, rfl⟩ := hr; exact offset_any A B n c m d xs ys w hn hm hx hy h0
theorem index_at {A : Option Addr} {n c : Nat} {xs : List Int} {o : Int} {w : World} (L : List Int) (b : Bool) (hr : idxN xs o = L ∧ inB xs o = b) (h0 : chkE xs = 0) (hn : n ≤ maxLen) (hx : Rd w A n xs) :
    Calls Try.prog 11 #[.slice A n c, .int .i64 o] w (MakesB w L b) := by obtain ⟨rfl, rfl⟩ := hr; exact index_any A n c xs o w hn hx h0
theorem valid_at {A B : Option Addr} {n c m d : Nat} {xs ys : List Int} {w : World} (b : Bool) (hr : vldB xs ys = b) (hn : n ≤ maxLen) (hm : m ≤ maxLen) (hx : Rd w A n xs) (hy : Rd w B m ys) :
    Calls Try.prog 12 #[.slice A n c, .slice B m d] w fun e w' => e = .returned (.bool b) ∧ w = w' := by subst hr; exact valid_any A B n c m d xs ys w hn hm hx hy
theorem refEqual_at {A B : Option Addr} {n c m d : Nat} {xs ys : List Int} {w : World} (r : Bool) (hr : eqB xs ys = r) (hn : n ≤ maxLen) (hm : m ≤ maxLen) (hx : Rd w A n xs) (hy : Rd w B m ys) :
    Calls Try.prog 16 #[.slice A n c, .slice B m d] w (Says w r) := by subst hr; exact refEqual_any A B n c m d xs ys w hn hm hx hy

set_option maxHeartbeats 4000000 in
set_option maxRecDepth 100000 in
theorem awake_true (w : World) :
    Calls Try.prog 8 #[] w fun e w' => e = .returned (.bool true) ∧ Below w.heap.size w w' := by
  have hs0 := (rd_new w 3 [2, 3]).below ((Below.refl _ _).alloc (Nat.le_refl _) (.cells #[.int .i64 1, .int .i64 2] 3))
  have hs1 : Rd ((w.alloc (.cells #[.int .i64 2, .int .i64 3] 3)).alloc (.cells #[.int .i64 1, .int .i64 2] 3)) (some ⟨w.heap.size + 1, 0, none⟩) 2 [1, 2] := rd_new_at [1, 2] (by simp)
  have a0 := ((Aft.refl w).alloc (.cells #[.int .i64 2, .int .i64 3] 3)).alloc (.cells #[.int .i64 1, .int .i64 2] 3)
  have HS0 := Lib.hid hs0; clear hs0
  have HS1 := Lib.hid hs1; clear hs1
  have A0 := Lib.hid a0; clear a0
  go_enter Try.func8, Try.ntmps8
  go_wp2_with fail
  refine (offset_at (xs := [2, 3]) (ys := [1, 2]) 5 true (by decide) (by decide) (by decide) (by decide) HS0.out HS1.out).mono ?_
  rintro e w1 ⟨rfl, hb⟩
  have A1 := Lib.hid ((A0.out.call hb).alloc (.cells #[.int .i64 2, .int .i64 3] 3))
  clear hb A0 HS0 HS1
  go_wp2_with fail
  refine (index_at (xs := [2, 3]) [1, 1] true (by decide) (by decide) (by decide) (rd_new w1 _ [2, 3])).mono ?_
  intro e w2 hm
  obtain ⟨P, k, rfl, ho, hb, _, _, _⟩ := hm.out
  have R2 := Lib.hid ho.rd
  have A2 := Lib.hid ((A1.out.call hb).alloc (.cells #[.int .i64 2, .int .i64 3] 3))
  have U2 := Lib.hid ((Aft.refl w2).alloc (.cells #[.int .i64 2, .int .i64 3] 3))
  clear hm ho hb A1
  go_wp2_with fail
  refine (index_at (xs := [2, 3]) [] false (by decide) (by decide) (by decide) (rd_new w2 _ [2, 3])).mono ?_
  intro e w3 hm
  obtain ⟨P3, k3, rfl, ho, hb, _, _, _⟩ := hm.out
  have A3 := Lib.hid (A2.out.call hb)
  have U3 := Lib.hid (U2.out.call hb)
  clear hm ho hb A2 U2
  go_wp2_with fail
  refine (offset_at (xs := []) (ys := []) 0 true (by decide) (by decide) (by decide) (by decide) Rd.nil_ Rd.nil_).mono ?_
  rintro e w4 ⟨rfl, hb⟩
  have A4 := Lib.hid ((A3.out.call hb).alloc (.cells #[.int .i64 1, .int .i64 1] 3))
  have U4 := Lib.hid ((U3.out.call hb).alloc (.cells #[.int .i64 1, .int .i64 1] 3))
  clear hb A3 U3
  go_wp2_with fail
  refine (refEqual_at (ys := [1, 1]) true (by decide) (by decide) (by decide) (U4.out.rd R2.out) (rd_new w4 _ [1, 1])).mono ?_
  rintro e w5 ⟨rfl, hb⟩
  have A5 := Lib.hid ((A4.out.call hb))
  clear hb A4 U4
  go_wp2_with fail
  refine (valid_at (xs := [1]) (ys := [0]) true (by decide) (by decide) (by decide) ((rd_new w5 3 [1]).below ((Below.refl _ _).alloc (Nat.le_refl _) (.cells #[.int .i64 0] 3))) (rd_new_at [0] (by simp))).mono ?_
  rintro e w6 ⟨rfl, hw6⟩
  have A6 := Lib.hid (show Aft w w6 by rw [← hw6]; exact (A5.out.alloc _).alloc _)
  clear hw6 A5
  go_wp2_with fail
  refine (valid_at (xs := [1]) (ys := [1]) false (by decide) (by decide) (by decide) ((rd_new w6 3 [1]).below ((Below.refl _ _).alloc (Nat.le_refl _) (.cells #[.int .i64 1] 3))) (rd_new_at [1] (by simp))).mono ?_
  rintro e w7 ⟨rfl, hw7⟩
  have A7 := Lib.hid (show Aft w w7 by rw [← hw7]; exact (A6.out.alloc _).alloc _)
  clear hw7 A6
  go_wp2_with fail
  refine (dot_any (us := [2, 3]) (vs := [4, 5, 6]) _ _ _ _ _ _ _ (by decide) (by decide) ((rd_new w7 3 [2, 3]).below ((Below.refl _ _).alloc (Nat.le_refl _) (.cells #[.int .i64 4, .int .i64 5, .int .i64 6] 3))) (rd_new_at [4, 5, 6] (by simp)) (by decide) (by simp) (by simp)).mono ?_
  rintro e w8 ⟨rfl, q, hw8⟩
  have A8 := Lib.hid (show Aft w w8 by rw [hw8]; exact ((A7.out.alloc _).alloc _).drew q)
  have hd : dotL [2, 3] [4, 5, 6] = 23 := by decide
  rw [hd]
  clear hw8 A7 hd
  go_wp2_with fail
  go_ret
  exact ⟨rfl, A8.out⟩
end Go.Proofs.Ytehpigijlgkokaa.laws
