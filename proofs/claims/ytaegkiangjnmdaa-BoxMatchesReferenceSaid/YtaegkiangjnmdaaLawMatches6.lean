/- The law BoxMatchesReference. -/
import Derived.Test.YtaegkiangjnmdaaBoxLaw
import Derived.Deep.RegionHeld3
namespace Go.Proofs.Ytaegkiangjnmdaa.laws
open Go.ChangeShapes Go.WideShapes Go.ChangeAt Go.RowKit Go.Proofs.Ytaegkiangjnmdaa.mem Go.Proofs.Ytaegkiangjnmdaa.prod Go.Proofs.Ytaegkiangjnmdaa.shp Go.Proofs.Ytaegkiangjnmdaa.strd Go.Proofs.Ytaegkiangjnmdaa.gam Go.Proofs.Ytaegkiangjnmdaa.sml Go.Proofs.Ytaegkiangjnmdaa.all Go.Proofs.Ytaegkiangjnmdaa.odo Go.Proofs.Ytaegkiangjnmdaa.eql Go.Proofs.Ytaegkiangjnmdaa.arr Go.Proofs.Ytaegkiangjnmdaa.bx
set_option linter.unusedVariables false

set_option maxHeartbeats 4000000 in
set_option maxRecDepth 100000 in
theorem matches_long (A B A' B' C : Option Addr) (n c m d n' c' m' d' l e : Nat) (al ah bl bh xs : List Int) (w : World) (ral : Rd w A n al) (rah : Rd w B m ah) (a0 : A = none → c = 0) (a1 : B = none → d = 0) (rbl : Rd w A' n' bl) (rbh : Rd w B' m' bh) (b0 : A' = none → c' = 0) (b1 : B' = none → d' = 0) (rx : Rd w C l xs) (hl : 50 < n ∨ 50 < m ∨ 50 < l) :
    Calls Try.prog 3 #[.agg #[.slice A n c, .slice B m d], .agg #[.slice A' n' c', .slice B' m' d'], .slice C l e] w (HoldsX w) := by
  have h1 : decide ((50 : Int) < (n : Int)) = decide (50 < n) := decide_eq_decide.2 (by omega)
  have h2 : decide ((50 : Int) < (m : Int)) = decide (50 < m) := decide_eq_decide.2 (by omega)
  have h3 : decide ((50 : Int) < (l : Int)) = decide (50 < l) := decide_eq_decide.2 (by omega)
  have hl' : ¬ (decide (50 < n) = false ∧ decide (50 < m) = false ∧ decide (50 < l) = false) := by
    rintro ⟨e1, e2, e3⟩
    have := of_decide_eq_false e1; have := of_decide_eq_false e2; have := of_decide_eq_false e3
    omega
  clear hl
  generalize decide (50 < n) = t1 at *
  generalize decide (50 < m) = t2 at *
  generalize decide (50 < l) = t3 at *
  obtain ⟨W, hW⟩ : ∃ W, W = (w.alloc (.cells #[.slice A n c, .slice B m d] 24)).alloc (.cells #[.slice A' n' c', .slice B' m' d'] 24) := ⟨_, rfl⟩
  obtain ⟨q1, q2⟩ := kl_two hW ral rah a0 a1 rbl rbh b0 b1
  have KA := Lib.hid q1; have KB := Lib.hid q2; have HX := Lib.hid (rx.below q1.aft)
  have HW := Lib.hid hW
  clear hW q1 q2 ral rah a0 a1 rbl rbh b0 b1 rx
  obtain ⟨kA0, kA1, _⟩ := KA.out.kx.box; obtain ⟨kB0, kB1, _⟩ := KB.out.kx.box
  go_enter Try.func3, Try.ntmps3
  go_wp2_with fail
  rw [← HW.out]
  refine (awake_true _).mono ?_
  rintro e wv ⟨rfl, hb⟩
  have HX := Lib.hid (HX.out.below hb)
  have KA := Lib.hid (KA.out.call hb)
  have KB := Lib.hid (KB.out.call hb)
  obtain ⟨kA0, kA1, _⟩ := KA.out.kx.box; obtain ⟨kB0, kB1, _⟩ := KB.out.kx.box
  clear hb
  cases t1 <;> cases t2 <;> cases t3
  all_goals first
    | (exfalso; exact hl' ⟨rfl, rfl, rfl⟩; done)
    | (clear hl'
       go_wp2_with fail
       refine (awake_true _).mono ?_
       rintro e wv ⟨rfl, hb⟩
       have KA := Lib.hid (KA.out.call hb)
       clear hb
       go_wp2_with fail
       go_ret
       exact ⟨rfl, KA.out.aft⟩)

set_option maxHeartbeats 4000000 in
set_option maxRecDepth 100000 in
theorem matches_wrong (A B A' B' C : Option Addr) (n c m d n' c' m' d' l e : Nat) (al ah bl bh xs : List Int) (w : World) (ral : Rd w A n al) (rah : Rd w B m ah) (a0 : A = none → c = 0) (a1 : B = none → d = 0) (rbl : Rd w A' n' bl) (rbh : Rd w B' m' bh) (b0 : A' = none → c' = 0) (b1 : B' = none → d' = 0) (rx : Rd w C l xs) (bn : n' ≤ maxLen) (bm : m' ≤ maxLen) (hn : n ≤ 50) (hm : m ≤ 50) (hl : l ≤ 50) (hs : ¬ (smallB al ah 300 = true ∧ smallB bl bh 300 = true)) :
    Calls Try.prog 3 #[.agg #[.slice A n c, .slice B m d], .agg #[.slice A' n' c', .slice B' m' d'], .slice C l e] w (HoldsX w) := by
  have hd1 : decide ((50 : Int) < (n : Int)) = false := decide_eq_false (by omega)
  have hd2 : decide ((50 : Int) < (m : Int)) = false := decide_eq_false (by omega)
  have hd3 : decide ((50 : Int) < (l : Int)) = false := decide_eq_false (by omega)
  have Q1 := fun W x1 x2 => Lib.hid (right_any A B n c m d al ah W (by unfold maxLen; omega) (by unfold maxLen; omega) x1 x2)
  have Q2 := fun W x1 x2 => Lib.hid (refRight_any A B n c m d al ah W (by unfold maxLen; omega) (by unfold maxLen; omega) x1 x2)
  have P1 := fun W h1 h2 => Lib.hid (refSmall_any A B n c m d al ah 300 W (by unfold maxLen; omega) (by unfold maxLen; omega) h1 h2 (by omega) (by omega))
  have P2 := fun W h1 h2 => Lib.hid (refSmall_any A' B' n' c' m' d' bl bh 300 W bn bm h1 h2 (by omega) (by omega))
  clear bn bm hn hm hl
  generalize smallB al ah 300 = s1 at *
  generalize smallB bl bh 300 = s2 at *
  generalize rgtB al ah = r at *
  obtain ⟨W, hW⟩ : ∃ W, W = (w.alloc (.cells #[.slice A n c, .slice B m d] 24)).alloc (.cells #[.slice A' n' c', .slice B' m' d'] 24) := ⟨_, rfl⟩
  obtain ⟨q1, q2⟩ := kl_two hW ral rah a0 a1 rbl rbh b0 b1
  have KA := Lib.hid q1; have KB := Lib.hid q2; have HX := Lib.hid (rx.below q1.aft)
  have HW := Lib.hid hW
  clear hW q1 q2 ral rah a0 a1 rbl rbh b0 b1 rx
  obtain ⟨kA0, kA1, _⟩ := KA.out.kx.box; obtain ⟨kB0, kB1, _⟩ := KB.out.kx.box
  go_enter Try.func3, Try.ntmps3
  go_wp2_with fail
  rw [← HW.out]
  refine (awake_true _).mono ?_
  rintro e wq ⟨rfl, hb⟩
  have HX := Lib.hid (HX.out.below hb)
  have KA := Lib.hid (KA.out.call hb)
  have KB := Lib.hid (KB.out.call hb)
  obtain ⟨kA0, kA1, _⟩ := KA.out.kx.box; obtain ⟨kB0, kB1, _⟩ := KB.out.kx.box
  clear hb
  have HKV := Lib.hid (Below.refl wq.heap.size wq)
  have HKC := Lib.hid (fun V (h : Below wq.heap.size wq V) => (KA.out.kx.box.below h))
  go_upto_region 3 with fail
  go_region_held3 (fun w' => w'.cell? ⟨w.heap.size, 0, none⟩ = some (.slice A n c) ∧ w'.cell? ⟨w.heap.size, 1, none⟩ = some (.slice B m d)) (go_keep)
    (first
      | (go_at_call 8; refine (Q1 _ (KA.out.kx.lo.below (by repeat (first | exact HKV.out | refine below_more ?_ _ | refine Below.drew ?_))) (KA.out.kx.hi.below (by repeat (first | exact HKV.out | refine below_more ?_ _ | refine Below.drew ?_)))).out.mono ?_
         rintro e vv ⟨rfl, h3⟩
         have HKV := Lib.hid (below_step (W := wq) (by repeat (first | exact HKV.out | refine below_more ?_ _ | refine Below.drew ?_)) h3)
         obtain ⟨z1, z2, _⟩ := HKC.out _ HKV.out
         clear h3)
      | (go_at_call 9; refine (Q2 _ (KA.out.kx.lo.below (by repeat (first | exact HKV.out | refine below_more ?_ _ | refine Below.drew ?_))) (KA.out.kx.hi.below (by repeat (first | exact HKV.out | refine below_more ?_ _ | refine Below.drew ?_)))).out.mono ?_
         rintro e vv ⟨rfl, h3⟩
         have HKV := Lib.hid (below_step (W := wq) (by repeat (first | exact HKV.out | refine below_more ?_ _ | refine Below.drew ?_)) h3)
         obtain ⟨z1, z2, _⟩ := HKC.out _ HKV.out
         clear h3))
  all_goals
    have hb := HKV.out
    have HX := Lib.hid (HX.out.below hb)
    have KA := Lib.hid (KA.out.call hb)
    have KB := Lib.hid (KB.out.call hb)
    obtain ⟨kA0, kA1, _⟩ := KA.out.kx.box; obtain ⟨kB0, kB1, _⟩ := KB.out.kx.box
    clear hb
    go_wp2_with fail
    refine (P1 _ KA.out.kx.lo KA.out.kx.hi).out.mono ?_
    rintro e wv ⟨rfl, hb⟩
    have HX := Lib.hid (HX.out.below hb)
    have KA := Lib.hid (KA.out.call hb)
    have KB := Lib.hid (KB.out.call hb)
    obtain ⟨kA0, kA1, _⟩ := KA.out.kx.box; obtain ⟨kB0, kB1, _⟩ := KB.out.kx.box
    clear hb
    cases s1
    · go_wp2_with fail
      go_ret
      exact ⟨rfl, KA.out.aft⟩
    · cases s2
      · go_wp2_with fail
        refine (P2 _ KB.out.kx.lo KB.out.kx.hi).out.mono ?_
        rintro e wv ⟨rfl, hb⟩
        have KA := Lib.hid (KA.out.call hb)
        clear hb
        go_wp2_with fail
        go_ret
        exact ⟨rfl, KA.out.aft⟩
      · exact absurd ⟨rfl, rfl⟩ hs

set_option maxHeartbeats 8000000 in
set_option maxRecDepth 100000 in
theorem matches_right (A B A' B' C : Option Addr) (n c d n' c' d' l e : Nat) (al ah bl bh xs : List Int) (w : World) (ral : Rd w A n al) (rah : Rd w B n ah) (a0 : A = none → c = 0) (a1 : B = none → d = 0) (rbl : Rd w A' n' bl) (rbh : Rd w B' n' bh) (b0 : A' = none → c' = 0) (b1 : B' = none → d' = 0) (rx : Rd w C l xs) (hn : n ≤ 50) (hl : l ≤ 50) (h1 : smallB al ah 300 = true) (h2 : smallB bl bh 300 = true) :
    Calls Try.prog 3 #[.agg #[.slice A n c, .slice B n d], .agg #[.slice A' n' c', .slice B' n' d'], .slice C l e] w (HoldsX w) := by
  obtain ⟨g1, e1, f1, -, -⟩ := small_out h1
  obtain ⟨g2, e2, f2, -, -⟩ := small_out h2
  have an : n ≤ maxLen := by unfold maxLen; omega
  have bn : n' ≤ maxLen := by have := rbl.1; unfold maxLen; omega
  have ln : l ≤ maxLen := by unfold maxLen; omega
  have hd1 : decide ((50 : Int) < (n : Int)) = false := decide_eq_false (by omega)
  have hd2 : decide ((50 : Int) < (n : Int)) = false := decide_eq_false (by omega)
  have hd3 : decide ((50 : Int) < (l : Int)) = false := decide_eq_false (by omega)
  have Q1 := fun W x1 x2 => Lib.hid (right_any A B n c n d al ah W (by unfold maxLen; omega) (by unfold maxLen; omega) x1 x2)
  have Q2 := fun W x1 x2 => Lib.hid (refRight_any A B n c n d al ah W (by unfold maxLen; omega) (by unfold maxLen; omega) x1 x2)
  have S1 := fun W x1 x2 => Lib.hid (h1 ▸ refSmall_any A B n c n d al ah 300 W an an x1 x2 (by omega) (by omega))
  have S2 := fun W x1 x2 => Lib.hid (h2 ▸ refSmall_any A' B' n' c' n' d' bl bh 300 W bn bn x1 x2 (by omega) (by omega))
  obtain ⟨r1, hr1⟩ : ∃ r, meetT al ah bl bh = r := ⟨_, rfl⟩
  obtain ⟨L, hL⟩ : ∃ l, mxL al bl = l := ⟨_, rfl⟩
  obtain ⟨H, hH⟩ : ∃ l, mnL ah bh = l := ⟨_, rfl⟩
  obtain ⟨R, hR⟩ : ∃ l, rngs al ah = l := ⟨_, rfl⟩
  have PX := fun W x1 x2 x3 x4 x5 x6 => Lib.hid (meet_all (A := A) (B := B) (A' := A') (B' := B') (n := n) (c := c) (d := d) (n' := n') (c' := c') (d' := d') (w := W) r1 L H hr1 (fun _ => hL) (fun _ => hH) g1 g2 x1 x2 x3 x4 x5 x6)
  have PY := fun W x1 x2 x3 x4 => Lib.hid (refMeet_all (A := A) (B := B) (A' := A') (B' := B') (n := n) (c := c) (d := d) (n' := n') (c' := c') (d' := d') (w := W) r1 L H hr1 (fun _ => hL) (fun _ => hH) g1 g2 x1 x2 x3 x4)
  have PC := fun W x1 x2 => Lib.hid (hR ▸ cells_small (A := A) (B := B) (n := n) (c := c) (d := d) (w := W) 300 h1 (by omega) (by omega) x1 x2)
  have PZ := fun W x1 x2 => Lib.hid (hR ▸ size_small (A := A) (B := B) (n := n) (c := c) (d := d) (w := W) 300 h1 (by omega) (by omega) x1 x2)
  have PH := fun W x1 x2 x3 => Lib.hid (has_any A B C n c d l e al ah xs W an ln g1 x1 x2 x3)
  have PI := fun W x1 x2 x3 => Lib.hid (refHas_any A B C n c d l e al ah xs W an ln x1 x2 x3)
  clear hr1 hL hH hR h1 h2 g1 g2 e1 e2 f1 f2 bn an ln hn hl
  generalize rgtB al ah = r at *
  generalize insB al ah xs = q at *
  obtain ⟨W, hW⟩ : ∃ W, W = (w.alloc (.cells #[.slice A n c, .slice B n d] 24)).alloc (.cells #[.slice A' n' c', .slice B' n' d'] 24) := ⟨_, rfl⟩
  obtain ⟨q1, q2⟩ := kl_two hW ral rah a0 a1 rbl rbh b0 b1
  have KA := Lib.hid q1; have KB := Lib.hid q2; have HX := Lib.hid (rx.below q1.aft)
  have HW := Lib.hid hW
  clear hW q1 q2 ral rah a0 a1 rbl rbh b0 b1 rx
  obtain ⟨kA0, kA1, _⟩ := KA.out.kx.box; obtain ⟨kB0, kB1, _⟩ := KB.out.kx.box
  go_enter Try.func3, Try.ntmps3
  go_wp2_with fail
  rw [← HW.out]
  refine (awake_true _).mono ?_
  rintro e wq ⟨rfl, hb⟩
  have HX := Lib.hid (HX.out.below hb)
  have KA := Lib.hid (KA.out.call hb)
  have KB := Lib.hid (KB.out.call hb)
  obtain ⟨kA0, kA1, _⟩ := KA.out.kx.box; obtain ⟨kB0, kB1, _⟩ := KB.out.kx.box
  clear hb
  have HKV := Lib.hid (Below.refl wq.heap.size wq)
  have HKC := Lib.hid (fun V (h : Below wq.heap.size wq V) => (KA.out.kx.box.below h))
  go_upto_region 3 with fail
  go_region_held3 (fun w' => w'.cell? ⟨w.heap.size, 0, none⟩ = some (.slice A n c) ∧ w'.cell? ⟨w.heap.size, 1, none⟩ = some (.slice B n d)) (go_keep)
    (first
      | (go_at_call 8; refine (Q1 _ (KA.out.kx.lo.below (by repeat (first | exact HKV.out | refine below_more ?_ _ | refine Below.drew ?_))) (KA.out.kx.hi.below (by repeat (first | exact HKV.out | refine below_more ?_ _ | refine Below.drew ?_)))).out.mono ?_
         rintro e vv ⟨rfl, h3⟩
         have HKV := Lib.hid (below_step (W := wq) (by repeat (first | exact HKV.out | refine below_more ?_ _ | refine Below.drew ?_)) h3)
         obtain ⟨z1, z2, _⟩ := HKC.out _ HKV.out
         clear h3)
      | (go_at_call 9; refine (Q2 _ (KA.out.kx.lo.below (by repeat (first | exact HKV.out | refine below_more ?_ _ | refine Below.drew ?_))) (KA.out.kx.hi.below (by repeat (first | exact HKV.out | refine below_more ?_ _ | refine Below.drew ?_)))).out.mono ?_
         rintro e vv ⟨rfl, h3⟩
         have HKV := Lib.hid (below_step (W := wq) (by repeat (first | exact HKV.out | refine below_more ?_ _ | refine Below.drew ?_)) h3)
         obtain ⟨z1, z2, _⟩ := HKC.out _ HKV.out
         clear h3))
  all_goals
    have hb := HKV.out
    have HX := Lib.hid (HX.out.below hb)
    have KA := Lib.hid (KA.out.call hb)
    have KB := Lib.hid (KB.out.call hb)
    obtain ⟨kA0, kA1, _⟩ := KA.out.kx.box; obtain ⟨kB0, kB1, _⟩ := KB.out.kx.box
    clear hb
    go_wp2_with fail
    refine (S1 _ KA.out.kx.lo KA.out.kx.hi).out.mono ?_
    rintro e wv ⟨rfl, hb⟩
    have HX := Lib.hid (HX.out.below hb)
    have KA := Lib.hid (KA.out.call hb)
    have KB := Lib.hid (KB.out.call hb)
    obtain ⟨kA0, kA1, _⟩ := KA.out.kx.box; obtain ⟨kB0, kB1, _⟩ := KB.out.kx.box
    clear hb
    go_wp2_with fail
    refine (S2 _ KB.out.kx.lo KB.out.kx.hi).out.mono ?_
    rintro e wv ⟨rfl, hb⟩
    have HX := Lib.hid (HX.out.below hb)
    have KA := Lib.hid (KA.out.call hb)
    have KB := Lib.hid (KB.out.call hb)
    obtain ⟨kA0, kA1, _⟩ := KA.out.kx.box; obtain ⟨kB0, kB1, _⟩ := KB.out.kx.box
    clear hb
    go_wp2_with fail
    refine (PX _ KA.out.kx.lo KA.out.kx.hi KB.out.kx.lo KB.out.kx.hi KA.out.kx.a0 KA.out.kx.b0).out.mono ?_
    rintro e wvx ⟨xP, xm, xc, xQ, xd, rfl, x1, x2, hxm, xa, xb, hb⟩
    obtain ⟨Vx, hV⟩ : ∃ V, V = wvx.alloc (.cells #[.slice xP xm xc, .slice xQ xm xd] 27) := ⟨_, rfl⟩
    have hb2 := below_more hb (.cells #[.slice xP xm xc, .slice xQ xm xd] 27)
    rw [← hV] at hb2
    have HX := Lib.hid (HX.out.below hb2)
    have KX := Lib.hid (show Go.Proofs.Ytaegkiangjnmdaa.laws.KX Vx wvx.heap.size xP xm xc xQ xm xd _ _ by rw [hV]; exact kx_new x1 x2 xa xb _)
    have HMX := Lib.hid (show xm ≤ maxLen by unfold maxLen; omega)
    have KA := Lib.hid (KA.out.call hb2)
    have KB := Lib.hid (KB.out.call hb2)
    obtain ⟨kA0, kA1, _⟩ := KA.out.kx.box; obtain ⟨kB0, kB1, _⟩ := KB.out.kx.box
    clear hb2
    have HV := Lib.hid hV
    clear hb hV x1 x2 hxm xa xb
    obtain ⟨kX0, kX1, _⟩ := KX.out.box
    go_upto_region 8 with fail
    rw [← HV.out]
    go_wp2_with fail
    refine (PY _ KA.out.kx.lo KA.out.kx.hi KB.out.kx.lo KB.out.kx.hi).out.mono ?_
    rintro e wvy ⟨yP, ym, yc, yQ, yd, rfl, x1, x2, hxm, xa, xb, hb⟩
    obtain ⟨Vy, hV⟩ : ∃ V, V = wvy.alloc (.cells #[.slice yP ym yc, .slice yQ ym yd] 24) := ⟨_, rfl⟩
    have hb2 := below_more hb (.cells #[.slice yP ym yc, .slice yQ ym yd] 24)
    rw [← hV] at hb2
    have HX := Lib.hid (HX.out.below hb2)
    have KY := Lib.hid (show Go.Proofs.Ytaegkiangjnmdaa.laws.KX Vy wvy.heap.size yP ym yc yQ ym yd _ _ by rw [hV]; exact kx_new x1 x2 xa xb _)
    have HMY := Lib.hid (show ym ≤ maxLen by unfold maxLen; omega)
    have KA := Lib.hid (KA.out.call hb2)
    have KB := Lib.hid (KB.out.call hb2)
    have KX := Lib.hid (KX.out.below hb2)
    obtain ⟨kA0, kA1, _⟩ := KA.out.kx.box; obtain ⟨kB0, kB1, _⟩ := KB.out.kx.box; obtain ⟨kX0, kX1, _⟩ := KX.out.box
    clear hb2
    have HV := Lib.hid hV
    clear hb hV x1 x2 hxm xa xb
    obtain ⟨kY0, kY1, _⟩ := KY.out.box
    go_upto_region 9 with fail
    rw [← HV.out]
    have HKV := Lib.hid (Below.refl Vy.heap.size Vy)
    have HKC := Lib.hid (fun V (h : Below Vy.heap.size Vy V) => And.intro (KA.out.kx.box.below h) (And.intro (KX.out.box.below h) (KY.out.box.below h)))
    cases r1
    all_goals
      go_region_held3 (fun w' => w'.cell? ⟨w.heap.size, 0, none⟩ = some (.slice A n c) ∧ w'.cell? ⟨w.heap.size, 1, none⟩ = some (.slice B n d) ∧ w'.cell? ⟨wvx.heap.size, 0, none⟩ = some (.slice xP xm xc) ∧ w'.cell? ⟨wvx.heap.size, 1, none⟩ = some (.slice xQ xm xd) ∧ w'.cell? ⟨wvy.heap.size, 0, none⟩ = some (.slice yP ym yc) ∧ w'.cell? ⟨wvy.heap.size, 1, none⟩ = some (.slice yQ ym yd)) (go_keep)
        (first
          | (go_at_call 13; refine (same_at true (same_refl _ _) HMX.out HMX.out HMY.out HMY.out (KX.out.lo.below (by repeat (first | exact HKV.out | refine below_more ?_ _ | refine Below.drew ?_))) (KX.out.hi.below (by repeat (first | exact HKV.out | refine below_more ?_ _ | refine Below.drew ?_))) (KY.out.lo.below (by repeat (first | exact HKV.out | refine below_more ?_ _ | refine Below.drew ?_))) (KY.out.hi.below (by repeat (first | exact HKV.out | refine below_more ?_ _ | refine Below.drew ?_)))).mono ?_
             rintro e vv ⟨rfl, h3⟩
             have HKV := Lib.hid (below_step (W := Vy) (by repeat (first | exact HKV.out | refine below_more ?_ _ | refine Below.drew ?_)) h3)
             obtain ⟨⟨z1, z2, _⟩, ⟨z3, z4, _⟩, z5, z6, _⟩ := HKC.out _ HKV.out
             clear h3)
          | (go_at_call 14; refine ((PZ _ (KA.out.kx.lo.below (by repeat (first | exact HKV.out | refine below_more ?_ _ | refine Below.drew ?_))) (KA.out.kx.hi.below (by repeat (first | exact HKV.out | refine below_more ?_ _ | refine Below.drew ?_)))).out).mono ?_
             rintro e vv ⟨rfl, h3⟩
             have HKV := Lib.hid (below_step (W := Vy) (by repeat (first | exact HKV.out | refine below_more ?_ _ | refine Below.drew ?_)) h3)
             obtain ⟨⟨z1, z2, _⟩, ⟨z3, z4, _⟩, z5, z6, _⟩ := HKC.out _ HKV.out
             clear h3)
          | (go_at_call 15; refine ((PC _ (KA.out.kx.lo.below (by repeat (first | exact HKV.out | refine below_more ?_ _ | refine Below.drew ?_))) (KA.out.kx.hi.below (by repeat (first | exact HKV.out | refine below_more ?_ _ | refine Below.drew ?_)))).out).mono ?_
             rintro e vv ⟨lP, lc, rfl, _, _, _, _, h3⟩
             have HKV := Lib.hid (below_step (W := Vy) (by repeat (first | exact HKV.out | refine below_more ?_ _ | refine Below.drew ?_)) h3)
             obtain ⟨⟨z1, z2, _⟩, ⟨z3, z4, _⟩, z5, z6, _⟩ := HKC.out _ HKV.out
             clear h3)
          | (go_at_call 16; refine ((PH _ (KA.out.kx.lo.below (by repeat (first | exact HKV.out | refine below_more ?_ _ | refine Below.drew ?_))) (KA.out.kx.hi.below (by repeat (first | exact HKV.out | refine below_more ?_ _ | refine Below.drew ?_))) (HX.out.below (by repeat (first | exact HKV.out | refine below_more ?_ _ | refine Below.drew ?_)))).out).mono ?_
             rintro e vv ⟨rfl, h3⟩
             have HKV := Lib.hid (below_step (W := Vy) (by repeat (first | exact HKV.out | refine below_more ?_ _ | refine Below.drew ?_)) h3)
             obtain ⟨⟨z1, z2, _⟩, ⟨z3, z4, _⟩, z5, z6, _⟩ := HKC.out _ HKV.out
             clear h3)
          | (go_at_call 17; refine ((PI _ (KA.out.kx.lo.below (by repeat (first | exact HKV.out | refine below_more ?_ _ | refine Below.drew ?_))) (KA.out.kx.hi.below (by repeat (first | exact HKV.out | refine below_more ?_ _ | refine Below.drew ?_))) (HX.out.below (by repeat (first | exact HKV.out | refine below_more ?_ _ | refine Below.drew ?_)))).out).mono ?_
             rintro e vv ⟨rfl, h3⟩
             have HKV := Lib.hid (below_step (W := Vy) (by repeat (first | exact HKV.out | refine below_more ?_ _ | refine Below.drew ?_)) h3)
             obtain ⟨⟨z1, z2, _⟩, ⟨z3, z4, _⟩, z5, z6, _⟩ := HKC.out _ HKV.out
             clear h3))
      all_goals
        go_wp2_with fail
        go_ret
        first
          | exact ⟨rfl, below_step KA.out.aft HKV.out⟩
          | exact ⟨by simp, below_step KA.out.aft HKV.out⟩

theorem walk_BoxMatchesReference (A B A' B' C : Option Addr) (n c m d n' c' m' d' l e : Nat) (al ah bl bh xs : List Int) (w : World) (hal : In w A n c al) (hah : In w B m d ah) (hbl : In w A' n' c' bl) (hbh : In w B' m' d' bh) (hx : In w C l e xs) :
    Calls Try.prog 3 #[.agg #[.slice A n c, .slice B m d], .agg #[.slice A' n' c', .slice B' m' d'], .slice C l e] w (HoldsX w) := by
  by_cases hl : 50 < n ∨ 50 < m ∨ 50 < l
  · exact matches_long A B A' B' C n c m d n' c' m' d' l e al ah bl bh xs w hal.rd hah.rd hal.none_ hah.none_ hbl.rd hbh.rd hbl.none_ hbh.none_ hx.rd hl
  · by_cases hs : smallB al ah 300 = true ∧ smallB bl bh 300 = true
    · obtain ⟨h1, h2⟩ := hs
      obtain rfl : n = m := by have := (small_out h1).2.1; have := hal.rd.1; have := hah.rd.1; omega
      obtain rfl : n' = m' := by have := (small_out h2).2.1; have := hbl.rd.1; have := hbh.rd.1; omega
      exact matches_right A B A' B' C n c d n' c' d' l e al ah bl bh xs w hal.rd hah.rd hal.none_ hah.none_ hbl.rd hbh.rd hbl.none_ hbh.none_ hx.rd (by omega) (by omega) h1 h2
    · exact matches_wrong A B A' B' C n c m d n' c' m' d' l e al ah bl bh xs w hal.rd hah.rd hal.none_ hah.none_ hbl.rd hbh.rd hbl.none_ hbh.none_ hx.rd hbl.len hbh.len (by omega) (by omega) (by omega) hs
end Go.Proofs.Ytaegkiangjnmdaa.laws
