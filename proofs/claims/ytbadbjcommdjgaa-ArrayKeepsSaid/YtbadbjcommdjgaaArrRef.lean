/- Contracts of the reference's Check, At, Small and Copy of arrays. -/
import Derived.Test.YtbadbjcommdjgaaArrOps
import Derived.Deep.Upon
namespace Go.Proofs.Ytbadbjcommdjgaa.arr
open Go.ChangeShapes Go.WideShapes Go.ChangeAt Go.RowKit Go.Proofs.Ytbadbjcommdjgaa.mem Go.Proofs.Ytbadbjcommdjgaa.shp Go.Proofs.Ytbadbjcommdjgaa.eql Go.Proofs.Ytbadbjcommdjgaa.gam Go.Proofs.Ytbadbjcommdjgaa.sml
set_option linter.unusedVariables false

theorem refArrCheck_any (A B : Option Addr) (n c m k : Nat) (s d : List Int) (w : World) (hn : n ≤ maxLen) (hm : m ≤ maxLen) (h : RdA w A n B m s d) :
    Calls Try.prog 11 #[.agg #[.slice A n c, .slice B m k]] w (NumB w (chkA s d)) := by
  have hb := one_below w #[.slice A n c, .slice B m k] 25
  have HD := Lib.hid h.d.1
  have P1 := fun W h => refCheck_any A n c s W hn h
  have P2 := fun W h => refCells_any A n c s W hn h
  have HX := Lib.hid (h.s.below hb)
  have HW := Lib.hid hb
  clear hb h
  unfold maxLen at hm
  by_cases h0 : chkE s = 0
  · rw [h0] at P1
    have P1 := fun W h => Lib.hid (P1 W h)
    have P2 := fun W h => Lib.hid (P2 W h)
    rename_i q1 q2; clear q1 q2
    by_cases h1 : (m : Int) = celN s
    · have e : chkA s d = 0 := by unfold chkA; rw [if_pos h0, if_pos (by rw [HD.out]; exact h1)]
      rw [e]; clear e h0
      rw [← h1] at P2
      clear h1
      go_enter Try.func11, Try.ntmps11
      go_wp2_with fail
      refine (P1 _ HX.out).out.mono ?_
      rintro e w' ⟨rfl, rfl⟩
      go_wp2_with fail
      go_quiet ((go_at_call 27; exact quiet_same (P2 _ (HX.out.below (below_drewN (Below.refl _ _) _))).out))
      go_wp2_with fail
      go_ret
      exact ⟨rfl, below_drewN HW.out _⟩
    · have e : chkA s d = 5 := by unfold chkA; rw [if_pos h0, if_neg (by rw [HD.out]; exact h1)]
      rw [e]; clear e h0
      generalize celN s = N at *
      have hne : ((m : Int) != N) = true := by simpa using h1
      clear h1
      go_enter Try.func11, Try.ntmps11
      go_wp2_with fail
      refine (P1 _ HX.out).out.mono ?_
      rintro e w' ⟨rfl, rfl⟩
      go_wp2_with fail
      go_quiet ((go_at_call 27; exact quiet_same (P2 _ (HX.out.below (below_drewN (Below.refl _ _) _))).out))
      go_wp2_with fail
      go_ret
      exact ⟨rfl, below_drewN HW.out _⟩
  · have e : chkA s d = chkE s := by unfold chkA; rw [if_neg h0]
    rw [e]; clear e
    have P1 := fun W h => Lib.hid (P1 W h)
    have hne : (chkE s == 0) = false := by simpa using h0
    rename_i q1; clear q1 h0 P2
    generalize chkE s = E at *
    go_enter Try.func11, Try.ntmps11
    go_wp2_with fail
    refine (P1 _ HX.out).out.mono ?_
    rintro e w' ⟨rfl, rfl⟩
    go_wp2_with fail
    go_quiet (fail)
    go_wp2_with fail
    go_ret
    exact ⟨rfl, below_drewN HW.out _⟩

theorem refAt_out (A B Y : Option Addr) (n c m k l e : Nat) (s d ys : List Int) (w : World) (hn : n ≤ maxLen) (hm : m ≤ maxLen) (hl : l ≤ maxLen) (h : RdA w A n B m s d) (hy : Rd w Y l ys) (he : chkA s d = 0) (hv : vldB s ys = false) :
    Calls Try.prog 15 #[.agg #[.slice A n c, .slice B m k], .slice Y l e] w (Cell w 0 false) := by
  have hb := one_below w #[.slice A n c, .slice B m k] 25
  have P2 := fun W h1 h2 => refOffset_any A Y n c l e s ys W hn hl h1 h2 (chkA_0 he).1
  have hr : rofN s ys = -1 := by unfold rofN; rw [hv]; rfl
  rw [hr] at P2
  have P2 := fun W h1 h2 => Lib.hid (P2 W h1 h2)
  have HX := Lib.hid (h.below hb)
  have HY := Lib.hid (hy.below hb)
  have HB := Lib.hid hb
  rename_i q2; clear q2 h he hb hv hy hr
  go_enter Try.func15, Try.ntmps15
  go_wp2_with fail
  refine (P2 _ HX.out.s HY.out).out.mono ?_
  rintro e w1 ⟨rfl, q, rfl⟩
  go_wp2_with fail
  go_ret2
  exact ⟨rfl, below_drewN HB.out q⟩
theorem refAt_in (A B Y : Option Addr) (n c m k l e : Nat) (s d ys : List Int) (w : World) (hn : n ≤ maxLen) (hm : m ≤ maxLen) (hl : l ≤ maxLen) (h : RdA w A n B m s d) (hy : Rd w Y l ys) (he : chkA s d = 0) (hv : vldB s ys = true) :
    Calls Try.prog 15 #[.agg #[.slice A n c, .slice B m k], .slice Y l e] w (Cell w (atN s d ys) true) := by
  have hb := one_below w #[.slice A n c, .slice B m k] 25
  have P2 := fun W h1 h2 => refOffset_any A Y n c l e s ys W hn hl h1 h2 (chkA_0 he).1
  obtain ⟨j, hj, hjm, hdj, hr⟩ := at_cell he h.d.1 hv
  rw [hr] at P2
  generalize atN s d ys = x at *
  have P2 := fun W h1 h2 => Lib.hid (P2 W h1 h2)
  have HX := Lib.hid (h.below hb)
  have HY := Lib.hid (hy.below hb)
  have HB := Lib.hid hb
  obtain ⟨ad, x', rfl, hx', hc⟩ := HX.out.d.at_ hjm
  have hxx : x' = x := by rw [hdj] at hx'; exact (Option.some.inj hx').symm
  subst hxx
  rename_i q2; clear q2 h he hb hv hy hj hdj hr hx'
  unfold maxLen at hn hm hl
  have hjm' : (j : Int) < (m : Int) := by omega
  go_enter Try.func15, Try.ntmps15
  go_wp2_with fail
  refine (P2 _ HX.out.s HY.out).out.mono ?_
  rintro e w1 ⟨rfl, q, rfl⟩
  go_wp2_with fail
  go_ret2
  exact ⟨rfl, below_drewN HB.out q⟩

def smlA (s d : List Int) (most : Int) : Bool := smlB s most && decide (chkA s d = 0)
theorem refSmallA_any (A B : Option Addr) (n c m k : Nat) (s d : List Int) (most : Int) (w : World) (hn : n ≤ maxLen) (hm : m ≤ maxLen) (h : RdA w A n B m s d) (h0 : 1 ≤ most) (h1 : most ≤ 65536) :
    Calls Try.prog 24 #[.agg #[.slice A n c, .slice B m k], .int .i64 most] w (Says w (smlA s d most)) := by
  have hb := one_below w #[.slice A n c, .slice B m k] 25
  have P1 := fun W h => small_any A n c s most W hn h h0 h1
  have P2 := fun W h => Lib.hid (refArrCheck_any A B n c m k s d W hn hm h)
  have HX := Lib.hid (h.below hb)
  have HB := Lib.hid hb
  clear h hb
  by_cases hs : smlB s most = true
  · rw [hs] at P1
    have P1 := fun W h => Lib.hid (P1 W h)
    rename_i q1; clear q1
    by_cases he : chkA s d = 0
    · have e : smlA s d most = true := by unfold smlA; rw [hs, decide_eq_true he]; rfl
      rw [e]
      rw [he] at P2
      clear e he hs
      go_enter Try.func24, Try.ntmps24
      go_wp2_with fail
      refine (P1 _ HX.out.s).out.mono ?_
      rintro e w1 ⟨rfl, rfl⟩
      go_wp2_with fail
      refine (P2 _ HX.out).out.mono ?_
      rintro e w1 ⟨rfl, hb⟩
      have HB1 := Lib.hid (HB.out.trans (hb.mono HB.out.size))
      clear hb
      go_wp2_with fail
      go_ret
      exact ⟨rfl, HB1.out⟩
    · have e : smlA s d most = false := by unfold smlA; rw [hs, decide_eq_false he]; rfl
      rw [e]
      have hne : (chkA s d == 0) = false := by simpa using he
      generalize chkA s d = E at *
      clear e he hs
      go_enter Try.func24, Try.ntmps24
      go_wp2_with fail
      refine (P1 _ HX.out.s).out.mono ?_
      rintro e w1 ⟨rfl, rfl⟩
      go_wp2_with fail
      refine (P2 _ HX.out).out.mono ?_
      rintro e w1 ⟨rfl, hb⟩
      have HB1 := Lib.hid (HB.out.trans (hb.mono HB.out.size))
      clear hb
      go_wp2_with fail
      go_ret
      exact ⟨rfl, HB1.out⟩
  · have hs : smlB s most = false := by simpa using hs
    have e : smlA s d most = false := by unfold smlA; rw [hs]; rfl
    rw [e]
    rw [hs] at P1
    have P1 := fun W h => Lib.hid (P1 W h)
    rename_i q1 q2; clear q1 q2 hs e P2
    go_enter Try.func24, Try.ntmps24
    go_wp2_with fail
    refine (P1 _ HX.out.s).out.mono ?_
    rintro e w1 ⟨rfl, rfl⟩
    go_wp2_with fail
    go_ret
    exact ⟨rfl, HB.out⟩

/-- A row of the call's own, or no number at all. -/
def OwnE (t : TypeId) (w : World) (B : Nat) (A : Option Addr) (n c : Nat) (xs : List Int) : Prop := OwnT t w B (.slice A n c) xs ∨ (n = 0 ∧ xs = [])
theorem OwnE.rd {t : TypeId} {w : World} {B n c : Nat} {A : Option Addr} {xs : List Int} (h : OwnE t w B A n c xs) : Rd w A n xs := by
  rcases h with h | ⟨rfl, rfl⟩
  · exact h.rd
  · exact Rd.nil_
theorem OwnE.below {t : TypeId} {w w' : World} {B n c : Nat} {A : Option Addr} {xs : List Int} (h : OwnE t w B A n c xs) (hb : Below w.heap.size w w') : OwnE t w' B A n c xs := h.imp (·.below hb) id
theorem OwnE.le {t : TypeId} {w : World} {B B' n c : Nat} {A : Option Addr} {xs : List Int} (h : OwnE t w B A n c xs) (hb : B' ≤ B) : OwnE t w B' A n c xs := h.imp (·.le hb) id
theorem OwnE.two {t : TypeId} {V : World} {B p n c : Nat} {A : Option Addr} {x y : Value} {xs : List Int} (h : OwnE t V B A n c xs) (hp : p < B) : OwnE t ((V.setCell ⟨p, 0, none⟩ x).setCell ⟨p, 1, none⟩ y) B A n c xs := h.imp (·.two hp) id
/-- append([]T{}, xs...): the empty slice that is appended to has no room. -/
theorem run_append_fresh {t e ty : TypeId} {w : World} {b : Addr} {A : Option Addr} {n c : Nat} {xs : List Int} (hu : Try.prog.underlying t = some (.slice e)) (hi : (Try.prog.info? e).map (fun i => (i.zero, i.size, i.bytes)) = some (some (.int .i64 0), 1, 8))
    (hx : Rd w A n xs) (h40 : n ≤ 1099511627776) :
    ∃ P p w', (Builtin.append_ #[t, t] ty #[.slice (some b) 0 0, .slice A n c]).run Try.prog w = .ok (.slice P n p) w' ∧ OwnE e w' w.heap.size P n p xs ∧ Below w.heap.size w w' := by
  obtain ⟨i0, hi0, hz0, hz1, hz2⟩ := info_parts hi
  rcases Nat.eq_zero_or_pos n with rfl | hp
  · have hx0 : xs = [] := List.eq_nil_of_length_eq_zero hx.1
    subst hx0
    refine ⟨some b, 0, w, ?_, .inr ⟨rfl, rfl⟩, Below.refl _ _⟩
    cases A with
    | none => exact run_append_nothing (P := Try.prog) w t t ty e i0 hu hi0 (some b) 0 0 (Nat.le_refl _) _ (Src.ofNil _ hu c)
    | some ad => exact run_append_nothing (P := Try.prog) w t t ty e i0 hu hi0 (some b) 0 0 (Nat.le_refl _) _ (Src.ofSlice w hu ad 0 c [] (by simp) (by simp) (by simp))
  · obtain ⟨ad, rfl, hsrc⟩ := copy_cells hx hp
    obtain ⟨v', w', hrun, h1, h2, _, h4⟩ := run_append_own_at (P := Try.prog) w w.heap.size t ty e i0 _ 1 8 hu hi0 hz0 hz1 hz2 rfl (by omega) (.slice none 0 0) 0 [] (World.ownsRow_nil w _ _ 1) ad n c (xs.map (Value.int .i64)) (by simp [hx.1]) hsrc (ints_oneCell _ _)
      (by unfold maxLen; omega) (by omega) (Nat.le_refl _)
    have e1 := run_append_nil (P := Try.prog) (w := w) t ty e i0 _ hu hi0 hz0 ad n c (xs.map (Value.int .i64)) (by rw [hz1]; simp [hx.1]) hsrc hp (by omega) (by rw [hz2]; omega)
    have e2 := run_append_grow (P := Try.prog) (w := w) t ty e i0 _ hu hi0 hz0 b 0 0 [] (by simp) (by simp) ad n c (xs.map (Value.int .i64)) (by rw [hz1]; simp [hx.1]) hsrc (by omega) (by omega) (by rw [nextslicecap_zero (by omega), hz2]; omega)
    have e3 : (Builtin.append_ #[t, t] ty #[.slice (some b) 0 0, .slice (some ad) n c]).run Try.prog w = (Builtin.append_ #[t, t] ty #[.slice none 0 0, .slice (some ad) n c]).run Try.prog w := by
      rw [e1, e2]; simp
    rw [e1] at hrun
    injection hrun with hv hw
    refine ⟨some ⟨w.heap.size, 0, none⟩, grownCap w n 0 e, w', ?_, .inl ?_, (Below.refl _ _).grown h2 (Nat.le_refl _) (fun k hk => by cases hk)⟩
    · rw [e3, e1, hw]
    · rw [← hv] at h1
      have hl : xs.length = n := hx.1
      unfold OwnT
      simpa [hl] using h1
/-- .. as a step of a region that draws its order. -/
theorem step_append_fresh {t e : TypeId} {w : World} {ops : Array Oper} {o : Oper} {a : Act} {K : Act → World → Prop} {Q : Exit → Act → World → Prop} {E : Prop} (hgd : o.guard = none) (s x : Operand)
    (ho : o.op = .call { callee := .builtin .append, args := #[s, x], argTypes := #[t, t] }) (hu : Try.prog.underlying t = some (.slice e)) (hi : (Try.prog.info? e).map (fun i => (i.zero, i.size, i.bytes)) = some (some (.int .i64 0), 1, 8))
    (b : Addr) (A : Option Addr) (n c : Nat) (xs : List Int) (hs : a.eval s = .slice (some b) 0 0) (hx : a.eval x = .slice A n c) (hr : Rd w A n xs) (h40 : n ≤ 1099511627776)
    (h : ∀ P p w', OwnE e w' w.heap.size P n p xs → Below w.heap.size w w' → K (a.put o.dst (.slice P n p)) w') :
    if Region.wanted o (yielded ops a.tmps) = true then Oper.wp Try.prog o a w K Q else E := by
  have hw : Region.wanted o (yielded ops a.tmps) = true := by simp [Region.wanted, hgd]
  rw [if_pos hw]
  obtain ⟨P, p, w', hrun, h2, h3⟩ := run_append_fresh (ty := o.type) (w := w) (b := b) (c := c) hu hi hr h40
  unfold Oper.wp execOp
  simp only [ho, resolve, invoke, builtin, Sem.run_bind, Sem.run_pure, Result.andThen_ok, List.map_toArray, List.map_cons, List.map_nil, hs, hx, hrun]
  exact h P p w' h2 h3

theorem below_more {W V : World} (h : Below W.heap.size W V) (o : Obj) : Below W.heap.size W (V.alloc o) := h.alloc h.size o
theorem below_step {W V V' : World} (h : Below W.heap.size W V) (h' : Below V.heap.size V V') : Below W.heap.size W V' := h.trans (h'.mono h.size)
/-- What the reference's Copy answers. -/
def MakesE (w : World) (n m : Nat) (s d : List Int) (e : Ending) (w' : World) : Prop :=
  ∃ A c B k, e = .returned (.agg #[.slice A n c, .slice B m k]) ∧ OwnE 3 w' w.heap.size A n c s ∧ OwnE 2 w' w.heap.size B m k d ∧ Below w.heap.size w w'
set_option maxHeartbeats 2000000 in
theorem refCopyA_any (A B : Option Addr) (n c m k : Nat) (s d : List Int) (w : World) (hn : n ≤ 1099511627776) (hm : m ≤ 1099511627776) (h : RdA w A n B m s d) :
    Calls Try.prog 18 #[.agg #[.slice A n c, .slice B m k]] w (MakesE w n m s d) := by
  obtain ⟨W, hW⟩ : ∃ W, W = (w.alloc (.cells #[.slice A n c, .slice B m k] 25)).alloc (.cells #[.slice none 0 0, .slice none 0 0] 25) := ⟨_, rfl⟩
  obtain ⟨hb, hsz, KC⟩ := two_boxes hW
  obtain ⟨k1, k2, _, _, _, _, _, _⟩ := KC W (Below.refl _ _)
  rename_i q1 q2 q3 q4 q5 q6; clear q1 q2 q3 q4 q5 q6
  have HX := Lib.hid (h.s.below hb)
  have HY := Lib.hid (h.d.below hb)
  have HSZ := Lib.hid hsz
  have HB := Lib.hid hb
  have HW := Lib.hid hW
  have HKC := Lib.hid KC
  have HD := Lib.hid (show Below W.heap.size W W.drew from Below.drew (Below.refl _ _))
  clear h hb hsz hW KC
  go_enter Try.func18, Try.ntmps18
  go_wp2_with fail
  rw [← HW.out]
  go_region_held3 (fun w' => w'.cell? ⟨w.heap.size, 0, none⟩ = some (.slice A n c) ∧ w'.cell? ⟨w.heap.size, 1, none⟩ = some (.slice B m k)) (go_keep)
    (first
      | (refine step_append_fresh (by rfl) (.tmp 3) (.tmp 5) (by rfl) Try.underlying22 int_info _ A n c s (by rfl) (by rfl) (HX.out.below (by repeat (first | exact HD.out | exact HK2.out | exact Below.refl _ _ | refine below_more ?_ _ | refine Below.drew ?_))) hn ?_
         intro P1 p1 w1 he1 hb1
         have HK1 := Lib.hid (below_step (W := W) (by repeat (first | exact HD.out | exact HK2.out | exact Below.refl _ _ | refine below_more ?_ _ | refine Below.drew ?_)) hb1)
         have HE1 := Lib.hid (he1.le (Below.size (w := W) (B := W.heap.size) (by repeat (first | exact HD.out | exact HK2.out | exact Below.refl _ _ | refine below_more ?_ _ | refine Below.drew ?_))))
         try have HB1 := Lib.hid (below_step (W := w2) (by repeat (first | exact Below.refl _ _ | refine below_more ?_ _ | refine Below.drew ?_)) hb1)
         obtain ⟨r11, r12, r13, r14, r15, r16, _, _⟩ := HKC.out _ HK1.out
         clear he1 hb1)
      | (refine step_append_fresh (by rfl) (.tmp 7) (.tmp 9) (by rfl) Try.underlying23 int64_info _ B m k d (by rfl) (by rfl) (HY.out.below (by repeat (first | exact HD.out | exact HK1.out | exact Below.refl _ _ | refine below_more ?_ _ | refine Below.drew ?_))) hm ?_
         intro P2 p2 w2 he2 hb2
         have HK2 := Lib.hid (below_step (W := W) (by repeat (first | exact HD.out | exact HK1.out | exact Below.refl _ _ | refine below_more ?_ _ | refine Below.drew ?_)) hb2)
         have HE2 := Lib.hid (he2.le (Below.size (w := W) (B := W.heap.size) (by repeat (first | exact HD.out | exact HK1.out | exact Below.refl _ _ | refine below_more ?_ _ | refine Below.drew ?_))))
         try have HB2 := Lib.hid (below_step (W := w1) (by repeat (first | exact Below.refl _ _ | refine below_more ?_ _ | refine Below.drew ?_)) hb2)
         obtain ⟨r21, r22, r23, r24, r25, r26, _, _⟩ := HKC.out _ HK2.out
         clear he2 hb2))
  all_goals
    have hsz := HSZ.out
    have l1 : w.heap.size + 1 < W.heap.size := by omega
    have l2 : w.heap.size ≤ W.heap.size := by omega
    have l3 : w.heap.size ≤ w.heap.size + 1 := by omega
    have fin : ∀ V, OwnE 3 V W.heap.size P1 n p1 s → OwnE 2 V W.heap.size P2 m p2 d → Below W.heap.size W V →
        MakesE w n m s d (.returned (.agg #[.slice P1 n p1, .slice P2 m p2])) ((V.setCell ⟨w.heap.size + 1, 0, none⟩ (.slice P1 n p1)).setCell ⟨w.heap.size + 1, 1, none⟩ (.slice P2 m p2)) :=
      fun V h1 h2 h3 => ⟨_, _, _, _, rfl, (h1.two l1).le l2, (h2.two l1).le l2, two_below (HB.out.trans (h3.mono l2)) l3⟩
    have HF := Lib.hid fin
    clear fin hsz l1 l2 l3
    go_wp2_with fail
    refine bodyPost_ret (v := .agg #[.slice P1 n p1, .slice P2 m p2]) (by simp [results, Try.results18, go_sem, *]) rfl ?_
    with_reducible first
      | exact HF.out w2 (HE1.out.below HB2.out) HE2.out HK2.out
      | exact HF.out w1 HE1.out (HE2.out.below HB1.out) HK1.out
end Go.Proofs.Ytbadbjcommdjgaa.arr
