/- The fixed examples of the chapter hold: awake answers true. -/
import Derived.Test.YtcdjmcjoknibkaaOdoCollect
import Derived.Test.YtcdjmcjoknibkaaRefFew
import Derived.Test.YtcdjmcjoknibkaaAft
import Derived.Test.YtcdjmcjoknibkaaIn
namespace Go.Proofs.Ytcdjmcjoknibkaa.laws
open Go.ChangeShapes Go.WideShapes Go.ChangeAt Go.RowKit Go.Proofs.Ytcdjmcjoknibkaa.mem Go.Proofs.Ytcdjmcjoknibkaa.shp Go.Proofs.Ytcdjmcjoknibkaa.eql Go.Proofs.Ytcdjmcjoknibkaa.strd Go.Proofs.Ytcdjmcjoknibkaa.gam Go.Proofs.Ytcdjmcjoknibkaa.all Go.Proofs.Ytcdjmcjoknibkaa.odo
set_option linter.unusedVariables false

theorem next_at {A B C : Option Addr} {n c d e : Nat} {lo hi xs : List Int} {w : World} (L : List Int) (b : Bool) (hr : (if (advL lo hi xs).2 = true then (advL lo hi xs).1 else []) = L ∧ (advL lo hi xs).2 = b) (hn : 1 ≤ n) (hn2 : n ≤ 65536) (ha : Rd w A n lo) (hb : Rd w B n hi) (hx : Rd w C n xs) (hC : C = none → e = 0) (hins : insB lo hi xs = true) (hxb : ∀ x ∈ xs, -4294967296 ≤ x ∧ x ≤ 4294967296) :
    Calls Try.prog 19 #[.slice A n c, .slice B n d, .slice C n e] w (MakesB w L b) := by
  obtain ⟨rfl, rfl⟩ := hr
  exact next_any A B C n c d e lo hi xs w hn2 ha hb hx hC hins hxb hn
theorem count_at {A B : Option Addr} {n c d : Nat} {lo hi : List Int} {w : World} (r : Int) (hr : prodL (dimsL lo hi) = r) (hr2 : r ≤ 4294967296) (hn : n ≤ 65536) (ha : Rd w A n lo) (hb : Rd w B n hi) (hla : ∀ x ∈ lo, -4294967296 ≤ x ∧ x ≤ 4294967296) (hlb : ∀ x ∈ hi, -4294967296 ≤ x ∧ x ≤ 4294967296) :
    Calls Try.prog 12 #[.slice A n c, .slice B n d] w fun e w' => e = .returned (.int .i64 r) ∧ w = w' := by
  subst hr
  exact count_any A B n c d lo hi w hn ha hb hla hlb hr2
theorem refEqual_at {A B : Option Addr} {n c m d : Nat} {xs ys : List Int} {w : World} (r : Bool) (hr : eqB xs ys = r) (hn : n ≤ maxLen) (hm : m ≤ maxLen) (hx : Rd w A n xs) (hy : Rd w B m ys) :
    Calls Try.prog 14 #[.slice A n c, .slice B m d] w (Says w r) := by subst hr; exact refEqual_any A B n c m d xs ys w hn hm hx hy

set_option maxHeartbeats 4000000 in
set_option maxRecDepth 100000 in
theorem awake_true (w : World) :
    Calls Try.prog 7 #[] w fun e w' => e = .returned (.bool true) ∧ Below w.heap.size w w' := by
  have hs0 := (rd_new w 3 [0, 1]).below ((Below.refl _ _).alloc (Nat.le_refl _) (.cells #[.int .i64 2, .int .i64 3] 3))
  have hs1 : Rd ((w.alloc (.cells #[.int .i64 0, .int .i64 1] 3)).alloc (.cells #[.int .i64 2, .int .i64 3] 3)) (some ⟨w.heap.size + 1, 0, none⟩) 2 [2, 3] := rd_new_at [2, 3] (by simp)
  have a0 := ((Aft.refl w).alloc (.cells #[.int .i64 0, .int .i64 1] 3)).alloc (.cells #[.int .i64 2, .int .i64 3] 3)
  have c0 := (Aft.refl ((w.alloc (.cells #[.int .i64 0, .int .i64 1] 3)).alloc (.cells #[.int .i64 2, .int .i64 3] 3))).alloc (.cells #[.int .i64 0, .int .i64 2] 3)
  have hx0 : Rd (((w.alloc (.cells #[.int .i64 0, .int .i64 1] 3)).alloc (.cells #[.int .i64 2, .int .i64 3] 3)).alloc (.cells #[.int .i64 0, .int .i64 2] 3)) (some ⟨w.heap.size + 1 + 1, 0, none⟩) 2 [0, 2] := rd_new_at [0, 2] (by simp)
  have HS0 := Lib.hid hs0; clear hs0
  have HS1 := Lib.hid hs1; clear hs1
  have A0 := Lib.hid (a0.alloc (.cells #[.int .i64 0, .int .i64 2] 3)); clear a0
  have C0 := Lib.hid c0; clear c0
  have HX0 := Lib.hid hx0; clear hx0
  go_enter Try.func7, Try.ntmps7
  go_wp2_with fail
  refine (next_at (lo := [0, 1]) (hi := [2, 3]) (xs := [0, 2]) [1, 1] true (by decide) (by decide) (by decide) (C0.out.rd HS0.out) (C0.out.rd HS1.out) HX0.out (fun h => by cases h) (by decide) (by decide)).mono ?_
  intro e w1 hm
  obtain ⟨P, k, rfl, ho, hb, _, _, _⟩ := hm.out
  have R1 := Lib.hid ho.rd
  have A1 := Lib.hid ((A0.out.call hb).alloc (.cells #[.int .i64 1, .int .i64 2] 3))
  have C1 := Lib.hid ((C0.out.call hb).alloc (.cells #[.int .i64 1, .int .i64 2] 3))
  have U1 := Lib.hid ((Aft.refl w1).alloc (.cells #[.int .i64 1, .int .i64 2] 3))
  clear hm ho hb A0 C0 HX0
  go_wp2_with fail
  refine (next_at (lo := [0, 1]) (hi := [2, 3]) (xs := [1, 2]) [] false (by decide) (by decide) (by decide) (C1.out.rd HS0.out) (C1.out.rd HS1.out) (rd_new w1 _ [1, 2]) (fun h => by cases h) (by decide) (by decide)).mono ?_
  intro e w2 hm
  obtain ⟨P2, k2, rfl, ho, hb, _, _, _⟩ := hm.out
  have A2 := Lib.hid (A1.out.call hb)
  have C2 := Lib.hid (C1.out.call hb)
  have U2 := Lib.hid (U1.out.call hb)
  clear hm ho hb A1 C1 U1
  go_wp2_with fail
  refine (count_at (lo := [0, 1]) (hi := [2, 3]) 4 (by decide) (by decide) (by decide) (C2.out.rd HS0.out) (C2.out.rd HS1.out) (by decide) (by decide)).mono ?_
  rintro e w' ⟨rfl, rfl⟩
  go_wp2_with fail
  have U3 := Lib.hid (U2.out.alloc (.cells #[.int .i64 1, .int .i64 1] 3))
  have C3 := Lib.hid (C2.out.alloc (.cells #[.int .i64 1, .int .i64 1] 3))
  have A3 := Lib.hid (A2.out.alloc (.cells #[.int .i64 1, .int .i64 1] 3))
  clear A2 C2 U2
  refine (refEqual_at (ys := [1, 1]) true (by decide) (by decide) (by decide) (U3.out.rd R1.out) (rd_new w2 _ [1, 1])).mono ?_
  rintro e w4 ⟨rfl, hb⟩
  have A4 := Lib.hid (A3.out.call hb)
  have C4 := Lib.hid (C3.out.call hb)
  clear hb A3 C3 U3
  go_wp2_with fail
  refine (collect_any _ _ 2 2 2 [0, 1] [2, 3] _ (by decide) (C4.out.rd HS0.out) (C4.out.rd HS1.out) (fun h => by cases h) (fun h => by cases h) (by decide) (by decide) (by decide)).mono ?_
  rintro e w5 ⟨L, C, rfl, _, _, _, _, hb⟩
  have A5 := Lib.hid (A4.out.call hb)
  have hlen : (rngs [0, 1] [2, 3]).length = 4 := by decide
  rw [hlen]
  clear hb A4 C4 hlen
  go_wp2_with fail
  refine (count_at (lo := []) (hi := []) 1 (by decide) (by decide) (by decide) Rd.nil_ Rd.nil_ (by decide) (by decide)).mono ?_
  rintro e w' ⟨rfl, rfl⟩
  have A6 := Lib.hid (A5.out.alloc (.cells #[.int .i64 2] 3))
  have hfn := func_neq
  clear A5
  go_wp2_with fail
  refine (all_any _ 1 1 [2] _ (by decide) (rd_new w5 _ [2]) (fun h => by cases h)).mono ?_
  rintro e w7 ⟨w6, hb6, v1, v2, rfl, _, _, _, _, hb7⟩
  have A7 := Lib.hid ((A6.out.call hb6).call hb7)
  clear hb6 hb7 A6
  go_wp2_with fail
  go_ret
  exact ⟨rfl, A7.out⟩
end Go.Proofs.Ytcdjmcjoknibkaa.laws
