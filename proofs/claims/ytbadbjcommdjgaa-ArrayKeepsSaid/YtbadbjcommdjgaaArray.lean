/- Contracts of package array: Check, Copy, New, Scalar, Vector. -/
import Derived.Test.YtbadbjcommdjgaaArr
import Derived.Test.YtbadbjcommdjgaaShape
import Derived.Deep.QuietTactic
import Derived.BigQuiet
import Derived.RegionTactic
import Derived.Deep.RegionHeld3
namespace Go.Proofs.Ytbadbjcommdjgaa.arr
open Go.ChangeShapes Go.WideShapes Go.ChangeAt Go.RowKit Go.Proofs.Ytbadbjcommdjgaa.mem Go.Proofs.Ytbadbjcommdjgaa.shp
set_option linter.unusedVariables false

/-- The error of an array with the shape s and the data d. -/
def chkA (s d : List Int) : Int := if chkE s = 0 then (if (d.length : Int) = celN s then 0 else 5) else chkE s
theorem chkA_0 {s d : List Int} (h : chkA s d = 0) : chkE s = 0 ∧ (d.length : Int) = celN s := by
  unfold chkA at h
  split at h
  · rename_i h0
    split at h
    · exact ⟨h0, by assumption⟩
    · omega
  · rename_i h0; exact absurd h h0

/-- An array value that reads as a shape and data. -/
structure RdA (w : World) (A : Option Addr) (n : Nat) (B : Option Addr) (m : Nat) (s d : List Int) : Prop where
  s : Rd w A n s
  d : Rd w B m d
theorem RdA.below {w w' : World} {A B : Option Addr} {n m : Nat} {s d : List Int} (h : RdA w A n B m s d) (hb : Below w.heap.size w w') : RdA w' A n B m s d := ⟨h.s.below hb, h.d.below hb⟩

/-- What a call answers that makes memory, and a number. -/
def NumB (w : World) (r : Int) (e : Ending) (w' : World) : Prop := e = .returned (.int .i64 r) ∧ Below w.heap.size w w'
/-- What a call answers that makes an array. -/
def MakesA (w : World) (n m : Nat) (s d : List Int) (e : Ending) (w' : World) : Prop :=
  ∃ A c B k, e = .returned (.agg #[.slice A n c, .slice B m k]) ∧ Own w' w.heap.size (.slice A n c) s ∧ Own8 w' w.heap.size (.slice B m k) d ∧ Below w.heap.size w w'
theorem MakesA.rda {w W : World} {n m c k : Nat} {A B : Option Addr} {s d : List Int} (h : Own W w.heap.size (.slice A n c) s) (h' : Own8 W w.heap.size (.slice B m k) d) : RdA W A n B m s d := ⟨h.rd, h'.rd⟩

/-- A struct of two cells is stored below what the call owns. -/
theorem OwnT.two {t : TypeId} {V : World} {B p : Nat} {v x y : Value} {xs : List Int} (h : OwnT t V B v xs) (hp : p < B) : OwnT t ((V.setCell ⟨p, 0, none⟩ x).setCell ⟨p, 1, none⟩ y) B v xs :=
  ownsRow_setCell_below (ownsRow_setCell_below h hp _) hp _
theorem two_below {B p : Nat} {w V : World} {x y : Value} (h : Below B w V) (hp : B ≤ p) : Below B w ((V.setCell ⟨p, 0, none⟩ x).setCell ⟨p, 1, none⟩ y) := (h.setCell hp _).setCell hp _
/-- Two structs of two cells, made one after the other. -/
theorem two_boxes {w W : World} {x0 x1 y0 y1 : Value} {t u : TypeId} (hW : W = (w.alloc (.cells #[x0, x1] t)).alloc (.cells #[y0, y1] u)) :
    Below w.heap.size w W ∧ W.heap.size = w.heap.size + 2 ∧ ∀ V, Below W.heap.size W V →
      V.cell? ⟨w.heap.size, 0, none⟩ = some x0 ∧ V.cell? ⟨w.heap.size, 1, none⟩ = some x1 ∧ V.cell? ⟨w.heap.size + 1, 0, none⟩ = some y0 ∧ V.cell? ⟨w.heap.size + 1, 1, none⟩ = some y1 ∧
      V.frozen? ⟨w.heap.size, 0, none⟩ = false ∧ V.frozen? ⟨w.heap.size, 1, none⟩ = false ∧ V.frozen? ⟨w.heap.size + 1, 0, none⟩ = false ∧ V.frozen? ⟨w.heap.size + 1, 1, none⟩ = false := by
  have hs : W.heap.size = w.heap.size + 2 := by rw [hW]; simp
  refine ⟨by rw [hW]; exact ((Below.refl _ w).alloc (Nat.le_refl _) _).alloc (by simp) _, hs, fun V h => ?_⟩
  have l0 : w.heap.size < W.heap.size := by omega
  have l1 : w.heap.size + 1 < W.heap.size := by omega
  exact ⟨(h.cell (p := ⟨w.heap.size, 0, none⟩) l0).trans (by rw [hW]; simp), (h.cell (p := ⟨w.heap.size, 1, none⟩) l0).trans (by rw [hW]; simp), (h.cell (p := ⟨w.heap.size + 1, 0, none⟩) l1).trans (by rw [hW]; simp), (h.cell (p := ⟨w.heap.size + 1, 1, none⟩) l1).trans (by rw [hW]; simp),
    (h.frozen (p := ⟨w.heap.size, 0, none⟩) l0).trans (by rw [hW]; simp), (h.frozen (p := ⟨w.heap.size, 1, none⟩) l0).trans (by rw [hW]; simp), (h.frozen (p := ⟨w.heap.size + 1, 0, none⟩) l1).trans (by rw [hW]; simp), (h.frozen (p := ⟨w.heap.size + 1, 1, none⟩) l1).trans (by rw [hW]; simp)⟩
theorem bcell {W w1 : World} (hb : Below W.heap.size W w1) : (∀ b o, b < W.heap.size → w1.cell? ⟨b, o, none⟩ = W.cell? ⟨b, o, none⟩) ∧ (∀ b o, b < W.heap.size → w1.frozen? ⟨b, o, none⟩ = W.frozen? ⟨b, o, none⟩) :=
  ⟨fun b o h => hb.cell (p := ⟨b, o, none⟩) h, fun b o h => hb.frozen (p := ⟨b, o, none⟩) h⟩
theorem quiet_same {P : Program} {f : FuncId} {args : Array Value} {w : World} {n : Nat} {v : Value} (h : Calls P f args (w.drewN n) fun e w' => e = .returned v ∧ w.drewN n = w') :
    Calls P f args (w.drewN n) fun e w' => e = .returned v ∧ ∃ m, w' = w.drewN m := h.mono fun _ _ hh => ⟨hh.1, n, hh.2.symm⟩
theorem quiet_behind {P : Program} {f : FuncId} {args : Array Value} {w : World} {q n : Nat} {v : Value} (h : Calls P f args (w.drewN (q + n)) fun e w' => e = .returned v ∧ w.drewN (q + n) = w') :
    Calls P f args (w.drewN (q + n)) fun e w' => e = .returned v ∧ ∃ m, w' = w.drewN (q + m) := h.mono fun _ _ hh => ⟨hh.1, n, hh.2.symm⟩
theorem own_drew {w : World} {B : Nat} {v : Value} {xs : List Int} (h : Own w B v xs) (q : Nat) : Own (w.drewN q) B v xs := h.below (below_drewN (Below.refl _ _) q)

theorem arrCheck_any (A B : Option Addr) (n c m k : Nat) (s d : List Int) (w : World) (hn : n ≤ maxLen) (hm : m ≤ maxLen) (h : RdA w A n B m s d) :
    Calls Try.prog 12 #[.agg #[.slice A n c, .slice B m k]] w (NumB w (chkA s d)) := by
  have hb := (Below.refl w.heap.size w).alloc (Nat.le_refl _) (.cells #[.slice A n c, .slice B m k] 25)
  have HD := Lib.hid h.d.1
  have P1 := fun W h => check_any A n c s W hn h
  have P2 := fun W h => cells_any A n c s W hn h
  have HX := Lib.hid (h.s.below hb)
  have HW := Lib.hid hb
  clear hb h
  unfold maxLen at hm
  by_cases h0 : chkE s = 0
  · rw [h0] at P1
    have P1 := fun W h => Lib.hid (P1 W h)
    have P2 := fun W h => Lib.hid (P2 W h)
    rename_i q1 q2; clear q1 q2
    by_cases h1 : (m : Int) = celN s
    · have e : chkA s d = 0 := by unfold chkA; rw [if_pos h0, if_pos (by rw [HD.out]; exact h1)]
      rw [e]; clear e h0
      rw [← h1] at P2
      clear h1
      go_enter Try.func12, Try.ntmps12
      go_wp2_with fail
      refine (P1 _ HX.out).out.mono ?_
      rintro e w' ⟨rfl, rfl⟩
      go_wp2_with fail
      go_quiet ((go_at_call 29; exact quiet_same (P2 _ (HX.out.below (below_drewN (Below.refl _ _) _))).out))
      go_wp2_with fail
      go_ret
      exact ⟨rfl, below_drewN HW.out _⟩
    · have e : chkA s d = 5 := by unfold chkA; rw [if_pos h0, if_neg (by rw [HD.out]; exact h1)]
      rw [e]; clear e h0
      generalize celN s = N at *
      have hne : ((m : Int) != N) = true := by simpa using h1
      clear h1
      go_enter Try.func12, Try.ntmps12
      go_wp2_with fail
      refine (P1 _ HX.out).out.mono ?_
      rintro e w' ⟨rfl, rfl⟩
      go_wp2_with fail
      go_quiet ((go_at_call 29; exact quiet_same (P2 _ (HX.out.below (below_drewN (Below.refl _ _) _))).out))
      go_wp2_with fail
      go_ret
      exact ⟨rfl, below_drewN HW.out _⟩
  · have e : chkA s d = chkE s := by unfold chkA; rw [if_neg h0]
    rw [e]; clear e
    have P1 := fun W h => Lib.hid (P1 W h)
    have hne : (chkE s == 0) = false := by simpa using h0
    rename_i q1; clear q1 h0 P2
    generalize chkE s = E at *
    go_enter Try.func12, Try.ntmps12
    go_wp2_with fail
    refine (P1 _ HX.out).out.mono ?_
    rintro e w' ⟨rfl, rfl⟩
    go_wp2_with fail
    go_ret
    exact ⟨rfl, HW.out⟩

set_option maxHeartbeats 1000000 in
theorem copy_any (A B : Option Addr) (n c m k : Nat) (s d : List Int) (w : World) (hn : n ≤ 1099511627776) (hm : m ≤ 1099511627776) (h : RdA w A n B m s d) :
    Calls Try.prog 25 #[.agg #[.slice A n c, .slice B m k]] w (MakesA w n m s d) := by
  obtain ⟨W, hW⟩ : ∃ W, W = (w.alloc (.cells #[.slice A n c, .slice B m k] 25)).alloc (.cells #[.slice none 0 0, .slice none 0 0] 25) := ⟨_, rfl⟩
  have hb : Below w.heap.size w W := by rw [hW]; exact ((Below.refl _ w).alloc (Nat.le_refl _) _).alloc (by simp) _
  have hsz : W.heap.size = w.heap.size + 2 := by rw [hW]; simp
  have H0 := Lib.hid (show W.cell? ⟨w.heap.size, 0, none⟩ = some (.slice A n c) by rw [hW]; simp)
  have H1 := Lib.hid (show W.cell? ⟨w.heap.size, 1, none⟩ = some (.slice B m k) by rw [hW]; simp)
  have G0 := Lib.hid (show W.cell? ⟨w.heap.size + 1, 0, none⟩ = some (.slice none 0 0) by rw [hW]; simp)
  have G1 := Lib.hid (show W.cell? ⟨w.heap.size + 1, 1, none⟩ = some (.slice none 0 0) by rw [hW]; simp)
  have F0 := Lib.hid (show W.frozen? ⟨w.heap.size + 1, 0, none⟩ = false by rw [hW]; simp)
  have F1 := Lib.hid (show W.frozen? ⟨w.heap.size + 1, 1, none⟩ = false by rw [hW]; simp)
  have HX := Lib.hid (h.s.below hb)
  have HY := Lib.hid (h.d.below hb)
  have HSZ := Lib.hid hsz
  have HB := Lib.hid hb
  have HW := Lib.hid hW
  have HD := Lib.hid (show Below W.heap.size W W.drew from Below.drew (Below.refl _ _))
  have hk0 := H0.out
  have hk1 := H1.out
  -- what each of the two calls leaves to the other one, and to the store
  have KP : ∀ V V' : World, Below W.heap.size W V → Below V.heap.size V V' → Below W.heap.size W V' := fun V V' h1 h2 => h1.trans (h2.mono h1.size)
  have KC : ∀ V : World, Below W.heap.size W V → V.cell? ⟨w.heap.size, 0, none⟩ = some (.slice A n c) ∧ V.cell? ⟨w.heap.size, 1, none⟩ = some (.slice B m k) ∧ V.cell? ⟨w.heap.size + 1, 0, none⟩ = some (.slice none 0 0) ∧ V.cell? ⟨w.heap.size + 1, 1, none⟩ = some (.slice none 0 0) ∧ V.frozen? ⟨w.heap.size + 1, 0, none⟩ = false ∧ V.frozen? ⟨w.heap.size + 1, 1, none⟩ = false := fun V h => by
    have hs := HSZ.out
    have l0 : w.heap.size < W.heap.size := by omega
    have l1 : w.heap.size + 1 < W.heap.size := by omega
    exact ⟨(h.cell (p := ⟨w.heap.size, 0, none⟩) l0).trans H0.out, (h.cell (p := ⟨w.heap.size, 1, none⟩) l0).trans H1.out, (h.cell (p := ⟨w.heap.size + 1, 0, none⟩) l1).trans G0.out, (h.cell (p := ⟨w.heap.size + 1, 1, none⟩) l1).trans G1.out, (h.frozen (p := ⟨w.heap.size + 1, 0, none⟩) l1).trans F0.out, (h.frozen (p := ⟨w.heap.size + 1, 1, none⟩) l1).trans F1.out⟩
  have P1 : ∀ V, Hid (Below W.heap.size W V) → Hid (Calls Try.prog 36 #[.slice A n c] V fun e V' => ∃ g, e = .returned (.slice (some ⟨g, 0, none⟩) n n) ∧ Hid (Own V' W.heap.size (.slice (some ⟨g, 0, none⟩) n n) s) ∧ Hid (Below V.heap.size V V') ∧ Hid (Below W.heap.size W V')) := fun V h =>
    Lib.hid ((dup_any A n c s V hn (HX.out.below h.out)).mono fun e V' ⟨g, he, ho, hb⟩ => ⟨g, he, Lib.hid (OwnT.own (ho.le h.out.size)), Lib.hid hb, Lib.hid (KP V V' h.out hb)⟩)
  have P2 : ∀ V, Hid (Below W.heap.size W V) → Hid (Calls Try.prog 33 #[.slice B m k] V fun e V' => ∃ g, e = .returned (.slice (some ⟨g, 0, none⟩) m m) ∧ Hid (Own8 V' W.heap.size (.slice (some ⟨g, 0, none⟩) m m) d) ∧ Hid (Below V.heap.size V V') ∧ Hid (Below W.heap.size W V')) := fun V h =>
    Lib.hid ((dup8_any B m k d V hm (HY.out.below h.out)).mono fun e V' ⟨g, he, ho, hb⟩ => ⟨g, he, Lib.hid (ho.le h.out.size), Lib.hid hb, Lib.hid (KP V V' h.out hb)⟩)
  have KC := fun V h => Lib.hid (KC V h)
  rename_i q1; clear q1
  have KP := Lib.hid KP
  rename_i q1; clear q1
  clear h hb hsz hW
  go_enter Try.func25, Try.ntmps25
  go_wp2_with fail
  rw [← HW.out]
  go_region_held3 (fun w' => w'.cell? ⟨w.heap.size, 0, none⟩ = some (.slice A n c) ∧ w'.cell? ⟨w.heap.size, 1, none⟩ = some (.slice B m k)) (go_keep)
    (first
      | (go_at_call 36; refine (P1 _ (by assumption)).out.mono ?_; rintro e w1 ⟨g1, rfl, HO1, HB1, HK1⟩; obtain ⟨e1, e2, e3, e4, e5, e6⟩ := (KC _ HK1.out).out)
      | (go_at_call 33; refine (P2 _ (by assumption)).out.mono ?_; rintro e w2 ⟨g2, rfl, HO2, HB2, HK2⟩; obtain ⟨u1, u2, u3, u4, u5, u6⟩ := (KC _ HK2.out).out))
  all_goals
    have hlt := HSZ.out
    have hle : W.heap.size ≥ w.heap.size + 2 := by omega
    have HLE := Lib.hid hle
    clear hlt hle e1 e2 u1 u2 hk0 hk1
    go_wp2_with fail
    have hle := HLE.out
    have l1 : w.heap.size + 1 < W.heap.size := by omega
    have l2 : w.heap.size ≤ W.heap.size := by omega
    have l3 : w.heap.size ≤ w.heap.size + 1 := by omega
    have fin : ∀ V, Own V W.heap.size (.slice (some ⟨g1, 0, none⟩) n n) s → Own8 V W.heap.size (.slice (some ⟨g2, 0, none⟩) m m) d → Below W.heap.size W V →
        MakesA w n m s d (.returned (.agg #[.slice (some ⟨g1, 0, none⟩) n n, .slice (some ⟨g2, 0, none⟩) m m])) ((V.setCell ⟨w.heap.size + 1, 0, none⟩ (.slice (some ⟨g1, 0, none⟩) n n)).setCell ⟨w.heap.size + 1, 1, none⟩ (.slice (some ⟨g2, 0, none⟩) m m)) :=
      fun V h1 h2 h3 => ⟨_, _, _, _, rfl, OwnT.own (((Own.t h1).two l1).le l2), (h2.two l1).le l2, two_below (HB.out.trans (h3.mono l2)) l3⟩
    have HF := Lib.hid fin
    clear fin
    refine bodyPost_ret (v := .agg #[.slice (some ⟨g1, 0, none⟩) n n, .slice (some ⟨g2, 0, none⟩) m m]) (by simp [results, Try.results25, go_sem, *]) rfl ?_
    with_reducible first
      | exact HF.out w2 (HO1.out.below HB2.out) HO2.out HK2.out
      | exact HF.out w1 HO1.out (HO2.out.below HB1.out) HK1.out
/-- What New and Tabulate answer where there is an array. -/
def MakesAE (w : World) (n m : Nat) (s d : List Int) (e : Ending) (w' : World) : Prop :=
  ∃ A c B k, e = .returned (.tuple #[.agg #[.slice A n c, .slice B m k], .int .i64 0]) ∧ Own w' w.heap.size (.slice A n c) s ∧ Own8 w' w.heap.size (.slice B m k) d ∧ Below w.heap.size w w'
/-- .. and where there is none. -/
def Fails (w : World) (r : Int) (e : Ending) (w' : World) : Prop := e = .returned (.tuple #[.agg #[.slice none 0 0, .slice none 0 0], .int .i64 r]) ∧ Below w.heap.size w w'
theorem new_wrong (A B : Option Addr) (n c m k : Nat) (s d : List Int) (w : World) (hn : n ≤ 1099511627776) (hm : m ≤ 1099511627776) (h : RdA w A n B m s d) (he : ¬ chkA s d = 0) :
    Calls Try.prog 10 #[.slice A n c, .slice B m k] w (Fails w (chkA s d)) := by
  have P1 := fun W h => Lib.hid (arrCheck_any A B n c m k s d W (by unfold maxLen; omega) (by unfold maxLen; omega) h)
  have hne : (chkA s d == 0) = false := by simpa using he
  obtain ⟨W, hW⟩ : ∃ W, W = (w.alloc (.cells #[.slice none 0 0, .slice none 0 0] 25)).alloc (.cells #[.slice A n c, .slice B m k] 25) := ⟨_, rfl⟩
  obtain ⟨hb, hsz, KC⟩ := two_boxes hW
  have HX := Lib.hid (h.below hb)
  have HB := Lib.hid hb
  have HSZ := Lib.hid hsz
  have HW := Lib.hid hW
  have HKC := Lib.hid KC
  clear h he hb hsz KC hW
  generalize chkA s d = E at *
  go_enter Try.func10, Try.ntmps10
  go_wp2_with fail
  rw [← HW.out]
  refine (P1 _ HX.out).out.mono ?_
  rintro e w1 ⟨rfl, hb⟩
  obtain ⟨k1, k2, _, _, k5, k6, _, _⟩ := HKC.out _ hb
  have HB1 := Lib.hid (HB.out.trans (hb.mono (by rw [HSZ.out]; omega)))
  clear hb
  go_wp2_with fail
  refine bodyPost_ret (v := .tuple #[.agg #[.slice none 0 0, .slice none 0 0], .int .i64 E]) (by simp [results, Try.results10, go_sem, k1, k2]) rfl ⟨rfl, two_below HB1.out (Nat.le_refl _)⟩
theorem new_right (A B : Option Addr) (n c m k : Nat) (s d : List Int) (w : World) (hn : n ≤ 1099511627776) (hm : m ≤ 1099511627776) (h : RdA w A n B m s d) (he : chkA s d = 0) :
    Calls Try.prog 10 #[.slice A n c, .slice B m k] w (MakesAE w n m s d) := by
  have P1 := fun W h => arrCheck_any A B n c m k s d W (by unfold maxLen; omega) (by unfold maxLen; omega) h
  have P2 := fun W h => Lib.hid (copy_any A B n c m k s d W hn hm h)
  rw [he] at P1
  have P1 := fun W h => Lib.hid (P1 W h)
  rename_i q1; clear q1
  obtain ⟨W, hW⟩ : ∃ W, W = (w.alloc (.cells #[.slice none 0 0, .slice none 0 0] 25)).alloc (.cells #[.slice A n c, .slice B m k] 25) := ⟨_, rfl⟩
  obtain ⟨hb, hsz, KC⟩ := two_boxes hW
  have HX := Lib.hid (h.below hb)
  have HB := Lib.hid hb
  have HSZ := Lib.hid hsz
  have HW := Lib.hid hW
  have HKC := Lib.hid KC
  clear h he hb hsz KC hW
  go_enter Try.func10, Try.ntmps10
  go_wp2_with fail
  rw [← HW.out]
  refine (P1 _ HX.out).out.mono ?_
  rintro e w1 ⟨rfl, hb⟩
  obtain ⟨k1, k2, k3, k4, k5, k6, _, _⟩ := HKC.out _ hb
  have HX1 := Lib.hid (HX.out.below hb)
  have HB1 := Lib.hid hb
  clear hb
  go_wp2_with fail
  refine (P2 _ HX1.out).out.mono ?_
  rintro e w2 ⟨P, p, Q, q, rfl, ho1, ho2, hb⟩
  obtain ⟨u1, u2, _, _, u5, u6, _, _⟩ := HKC.out _ (HB1.out.trans (hb.mono HB1.out.size))
  have HO1 := Lib.hid (ho1.le (show W.heap.size ≤ w1.heap.size from HB1.out.size))
  have HO2 := Lib.hid (ho2.le (show W.heap.size ≤ w1.heap.size from HB1.out.size))
  have HB2 := Lib.hid (HB.out.trans ((HB1.out.trans (hb.mono HB1.out.size)).mono (by rw [HSZ.out]; omega)))
  clear hb ho1 ho2 k1 k2 k3 k4 k5 k6
  go_wp2_with fail
  have l0 : w.heap.size < W.heap.size := by rw [HSZ.out]; omega
  refine bodyPost_ret (v := .tuple #[.agg #[.slice P n p, .slice Q m q], .int .i64 0]) (by simp [results, Try.results10, go_sem, u1, u2]) rfl ⟨_, _, _, _, rfl, OwnT.own (((Own.t HO1.out).two l0).le (Nat.le_of_lt l0)), (HO2.out.two l0).le (Nat.le_of_lt l0), two_below HB2.out (Nat.le_refl _)⟩
theorem one_below (w : World) (cs : Array Value) (t : TypeId) : Below w.heap.size w (w.alloc (.cells cs t)) := (Below.refl _ w).alloc (Nat.le_refl _) _
theorem ownT_new {W : World} {t : TypeId} {g n : Nat} (xs : List Int) (hg : g = W.heap.size) (hn : xs.length = n) (hm : n ≤ maxLen) : OwnT t (W.alloc (.cells (xs.map (Value.int .i64)).toArray t)) W.heap.size (.slice (some ⟨g, 0, none⟩) n n) xs := by
  subst hg
  exact ownT_of_block (heap_alloc_new W _) (Nat.le_refl _) hn hm
theorem scalar_any (x : Int) (w : World) :
    Calls Try.prog 19 #[.int .i64 x] w (MakesA w 0 1 [] [x]) := by
  obtain ⟨W, hW⟩ : ∃ W, W = (w.alloc (.cells #[.slice none 0 0, .slice (some ⟨w.heap.size + 1, 0, none⟩) 1 1] 25)).alloc (.cells #[.int .i64 x] 2) := ⟨_, rfl⟩
  have HB := Lib.hid (show Below w.heap.size w W by rw [hW]; exact ((Below.refl _ w).alloc (Nat.le_refl _) _).alloc (by simp) _)
  have HO := Lib.hid (show Own8 W (w.heap.size + 1) (.slice (some ⟨w.heap.size + 1, 0, none⟩) 1 1) [x] by
    have := ownT_new (W := w.alloc (.cells #[.slice none 0 0, .slice (some ⟨w.heap.size + 1, 0, none⟩) 1 1] 25)) (t := 2) (g := w.heap.size + 1) (n := 1) [x] (by simp) rfl (by unfold maxLen; omega)
    rw [hW]; simpa using this)
  have k1 : W.cell? ⟨w.heap.size, 0, none⟩ = some (.slice none 0 0) := by rw [hW]; simp
  have k2 : W.cell? ⟨w.heap.size, 1, none⟩ = some (.slice (some ⟨w.heap.size + 1, 0, none⟩) 1 1) := by rw [hW]; simp
  have HW := Lib.hid hW
  have HK := Lib.hid (And.intro k1 k2)
  clear hW k1 k2
  go_enter Try.func19, Try.ntmps19
  go_wp2_with fail
  rw [← HW.out]
  obtain ⟨k1, k2⟩ := HK.out
  refine bodyPost_ret (v := .agg #[.slice none 0 0, .slice (some ⟨w.heap.size + 1, 0, none⟩) 1 1]) (by simp [results, Try.results19, go_sem, k1, k2]) rfl ⟨none, 0, _, _, rfl, own_nil _ _, HO.out.le (Nat.le_succ _), HB.out⟩
theorem vector_any (B : Option Addr) (m k : Nat) (d : List Int) (w : World) (hm : m ≤ 1099511627776) (h : Rd w B m d) :
    Calls Try.prog 16 #[.slice B m k] w (MakesA w 1 m [(m : Int)] d) := by
  have P1 := fun W h => Lib.hid (dup8_any B m k d W hm h)
  obtain ⟨W, hW⟩ : ∃ W, W = (w.alloc (.cells #[.slice none 0 0, .slice none 0 0] 25)).alloc (.cells #[.int .i64 (m : Int)] 3) := ⟨_, rfl⟩
  have HB := Lib.hid (show Below w.heap.size w W by rw [hW]; exact ((Below.refl _ w).alloc (Nat.le_refl _) _).alloc (by simp) _)
  have HO := Lib.hid (show OwnT 3 W (w.heap.size + 1) (.slice (some ⟨w.heap.size + 1, 0, none⟩) 1 1) [(m : Int)] by
    have := ownT_new (W := w.alloc (.cells #[.slice none 0 0, .slice none 0 0] 25)) (t := 3) (g := w.heap.size + 1) (n := 1) [(m : Int)] (by simp) rfl (by unfold maxLen; omega)
    rw [hW]; simpa using this)
  have HSZ := Lib.hid (show W.heap.size = w.heap.size + 2 by rw [hW]; simp)
  have HF := Lib.hid (show W.cell? ⟨w.heap.size, 0, none⟩ = some (.slice none 0 0) ∧ W.cell? ⟨w.heap.size, 1, none⟩ = some (.slice none 0 0) ∧ W.frozen? ⟨w.heap.size, 0, none⟩ = false ∧ W.frozen? ⟨w.heap.size, 1, none⟩ = false by rw [hW]; simp)
  have HX := Lib.hid (h.below HB.out)
  have HW := Lib.hid hW
  clear h hW
  go_enter Try.func16, Try.ntmps16
  go_wp2_with fail
  rw [← HW.out]
  refine (P1 _ HX.out).out.mono ?_
  rintro e w1 ⟨g, rfl, ho, hb⟩
  have l0 : w.heap.size < W.heap.size := by rw [HSZ.out]; omega
  have HK := Lib.hid (show w1.cell? ⟨w.heap.size, 0, none⟩ = some (.slice none 0 0) ∧ w1.cell? ⟨w.heap.size, 1, none⟩ = some (.slice none 0 0) ∧ w1.frozen? ⟨w.heap.size, 0, none⟩ = false ∧ w1.frozen? ⟨w.heap.size, 1, none⟩ = false from
    ⟨(hb.cell (p := ⟨w.heap.size, 0, none⟩) l0).trans HF.out.1, (hb.cell (p := ⟨w.heap.size, 1, none⟩) l0).trans HF.out.2.1, (hb.frozen (p := ⟨w.heap.size, 0, none⟩) l0).trans HF.out.2.2.1, (hb.frozen (p := ⟨w.heap.size, 1, none⟩) l0).trans HF.out.2.2.2⟩)
  have HO1 := Lib.hid (HO.out.below hb)
  have HO2 := Lib.hid ho
  have HB1 := Lib.hid (HB.out.trans (hb.mono (Nat.le_of_lt l0)))
  have HL0 := Lib.hid l0
  clear ho hb l0
  obtain ⟨k1, k2, k3, k4⟩ := HK.out
  go_wp2_with fail
  refine bodyPost_ret (v := .agg #[.slice (some ⟨w.heap.size + 1, 0, none⟩) 1 1, .slice (some ⟨g, 0, none⟩) m m]) (by simp [results, Try.results16, go_sem, k1, k2]) rfl ⟨_, _, _, _, rfl, OwnT.own ((HO1.out.two (Nat.lt_succ_self _)).le (Nat.le_succ _)), (HO2.out.two HL0.out).le (Nat.le_of_lt HL0.out), two_below HB1.out (Nat.le_refl _)⟩
end Go.Proofs.Ytbadbjcommdjgaa.arr
