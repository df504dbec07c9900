/- The law BoxMeets. -/
import Derived.Test.YtaegkiangjnmdaaBoxLaw
namespace Go.Proofs.Ytaegkiangjnmdaa.laws
open Go.ChangeShapes Go.WideShapes Go.ChangeAt Go.RowKit Go.Proofs.Ytaegkiangjnmdaa.mem Go.Proofs.Ytaegkiangjnmdaa.prod Go.Proofs.Ytaegkiangjnmdaa.shp Go.Proofs.Ytaegkiangjnmdaa.strd Go.Proofs.Ytaegkiangjnmdaa.gam Go.Proofs.Ytaegkiangjnmdaa.sml Go.Proofs.Ytaegkiangjnmdaa.all Go.Proofs.Ytaegkiangjnmdaa.odo Go.Proofs.Ytaegkiangjnmdaa.eql Go.Proofs.Ytaegkiangjnmdaa.arr Go.Proofs.Ytaegkiangjnmdaa.bx
set_option linter.unusedVariables false

set_option maxHeartbeats 4000000 in
set_option maxRecDepth 100000 in
theorem meets_wrong (A B A' B' A2 B2 : Option Addr) (n c m d n' c' m' d' n2 c2 m2 d2 : Nat) (al ah bl bh cl ch : List Int) (w : World) (ral : Rd w A n al) (rah : Rd w B m ah) (a0 : A = none → c = 0) (a1 : B = none → d = 0) (an : n ≤ maxLen) (am : m ≤ maxLen) (rbl : Rd w A' n' bl) (rbh : Rd w B' m' bh) (b0 : A' = none → c' = 0) (b1 : B' = none → d' = 0) (bn : n' ≤ maxLen) (bm : m' ≤ maxLen) (rcl : Rd w A2 n2 cl) (rch : Rd w B2 m2 ch) (c0 : A2 = none → c2 = 0) (c1 : B2 = none → d2 = 0) (cn : n2 ≤ maxLen) (cm : m2 ≤ maxLen) (hs : ¬ (smallB al ah 300 = true ∧ smallB bl bh 300 = true ∧ smallB cl ch 300 = true)) :
    Calls Try.prog 6 #[.agg #[.slice A n c, .slice B m d], .agg #[.slice A' n' c', .slice B' m' d'], .agg #[.slice A2 n2 c2, .slice B2 m2 d2]] w (HoldsX w) := by
  have P1 := fun W h1 h2 => Lib.hid (refSmall_any A B n c m d al ah 300 W an am h1 h2 (by omega) (by omega))
  have P2 := fun W h1 h2 => Lib.hid (refSmall_any A' B' n' c' m' d' bl bh 300 W bn bm h1 h2 (by omega) (by omega))
  have P3 := fun W h1 h2 => Lib.hid (refSmall_any A2 B2 n2 c2 m2 d2 cl ch 300 W cn cm h1 h2 (by omega) (by omega))
  clear an am bn bm cn cm
  generalize smallB al ah 300 = s1 at *
  generalize smallB bl bh 300 = s2 at *
  generalize smallB cl ch 300 = s3 at *
  obtain ⟨W, hW⟩ : ∃ W, W = ((w.alloc (.cells #[.slice A n c, .slice B m d] 24)).alloc (.cells #[.slice A' n' c', .slice B' m' d'] 24)).alloc (.cells #[.slice A2 n2 c2, .slice B2 m2 d2] 24) := ⟨_, rfl⟩
  obtain ⟨q1, q2, q3⟩ := kl_three hW ral rah a0 a1 rbl rbh b0 b1 rcl rch c0 c1
  have KA := Lib.hid q1; have KB := Lib.hid q2; have KC := Lib.hid q3
  have HW := Lib.hid hW
  clear hW q1 q2 q3 ral rah a0 a1 rbl rbh b0 b1 rcl rch c0 c1
  obtain ⟨kA0, kA1, _⟩ := KA.out.kx.box; obtain ⟨kB0, kB1, _⟩ := KB.out.kx.box; obtain ⟨kC0, kC1, _⟩ := KC.out.kx.box
  go_enter Try.func6, Try.ntmps6
  go_wp2_with fail
  rw [← HW.out]
  refine (awake_true _).mono ?_
  rintro e wv ⟨rfl, hb⟩
  have KA := Lib.hid (KA.out.call hb)
  have KB := Lib.hid (KB.out.call hb)
  have KC := Lib.hid (KC.out.call hb)
  obtain ⟨kA0, kA1, _⟩ := KA.out.kx.box; obtain ⟨kB0, kB1, _⟩ := KB.out.kx.box; obtain ⟨kC0, kC1, _⟩ := KC.out.kx.box
  clear hb
  cases s1
  rotate_left
  cases s2
  rotate_left
  cases s3
  rotate_left
  · exact absurd ⟨rfl, rfl, rfl⟩ hs
  all_goals
    clear hs
    go_wp2_with (first
      | (go_at_call 7; refine (awake_true _).mono ?_
         rintro e wv ⟨rfl, hb⟩
         have KA := Lib.hid (KA.out.call hb)
         have KB := Lib.hid (KB.out.call hb)
         have KC := Lib.hid (KC.out.call hb)
         obtain ⟨kA0, kA1, _⟩ := KA.out.kx.box; obtain ⟨kB0, kB1, _⟩ := KB.out.kx.box; obtain ⟨kC0, kC1, _⟩ := KC.out.kx.box
         clear hb)
      | (go_at_call 10; with_reducible refine (P1 _ KA.out.kx.lo KA.out.kx.hi).out.mono ?_
         rintro e wv ⟨rfl, hb⟩
         have KA := Lib.hid (KA.out.call hb)
         have KB := Lib.hid (KB.out.call hb)
         have KC := Lib.hid (KC.out.call hb)
         obtain ⟨kA0, kA1, _⟩ := KA.out.kx.box; obtain ⟨kB0, kB1, _⟩ := KB.out.kx.box; obtain ⟨kC0, kC1, _⟩ := KC.out.kx.box
         clear hb)
      | (go_at_call 10; with_reducible refine (P2 _ KB.out.kx.lo KB.out.kx.hi).out.mono ?_
         rintro e wv ⟨rfl, hb⟩
         have KA := Lib.hid (KA.out.call hb)
         have KB := Lib.hid (KB.out.call hb)
         have KC := Lib.hid (KC.out.call hb)
         obtain ⟨kA0, kA1, _⟩ := KA.out.kx.box; obtain ⟨kB0, kB1, _⟩ := KB.out.kx.box; obtain ⟨kC0, kC1, _⟩ := KC.out.kx.box
         clear hb)
      | (go_at_call 10; with_reducible refine (P3 _ KC.out.kx.lo KC.out.kx.hi).out.mono ?_
         rintro e wv ⟨rfl, hb⟩
         have KA := Lib.hid (KA.out.call hb)
         have KB := Lib.hid (KB.out.call hb)
         have KC := Lib.hid (KC.out.call hb)
         obtain ⟨kA0, kA1, _⟩ := KA.out.kx.box; obtain ⟨kB0, kB1, _⟩ := KB.out.kx.box; obtain ⟨kC0, kC1, _⟩ := KC.out.kx.box
         clear hb))
    go_ret
    exact ⟨rfl, KA.out.aft⟩

set_option maxHeartbeats 8000000 in
set_option maxRecDepth 100000 in
theorem meets_right (A B A' B' A2 B2 : Option Addr) (n c d n' c' d' n2 c2 d2 : Nat) (al ah bl bh cl ch : List Int) (w : World) (ral : Rd w A n al) (rah : Rd w B n ah) (a0 : A = none → c = 0) (a1 : B = none → d = 0) (rbl : Rd w A' n' bl) (rbh : Rd w B' n' bh) (b0 : A' = none → c' = 0) (b1 : B' = none → d' = 0) (rcl : Rd w A2 n2 cl) (rch : Rd w B2 n2 ch) (c0 : A2 = none → c2 = 0) (c1 : B2 = none → d2 = 0) (h1 : smallB al ah 300 = true) (h2 : smallB bl bh 300 = true) (h3 : smallB cl ch 300 = true) :
    Calls Try.prog 6 #[.agg #[.slice A n c, .slice B n d], .agg #[.slice A' n' c', .slice B' n' d'], .agg #[.slice A2 n2 c2, .slice B2 n2 d2]] w (HoldsX w) := by
  obtain ⟨g1, e1, f1, -, -⟩ := small_out h1
  obtain ⟨g2, e2, f2, -, -⟩ := small_out h2
  obtain ⟨g3, e3, f3, -, -⟩ := small_out h3
  have an : n ≤ maxLen := by have := ral.1; unfold maxLen; omega
  have bn : n' ≤ maxLen := by have := rbl.1; unfold maxLen; omega
  have cn : n2 ≤ maxLen := by have := rcl.1; unfold maxLen; omega
  have S1 := fun W x1 x2 => Lib.hid (h1 ▸ refSmall_any A B n c n d al ah 300 W an an x1 x2 (by omega) (by omega))
  have S2 := fun W x1 x2 => Lib.hid (h2 ▸ refSmall_any A' B' n' c' n' d' bl bh 300 W bn bn x1 x2 (by omega) (by omega))
  have S3 := fun W x1 x2 => Lib.hid (h3 ▸ refSmall_any A2 B2 n2 c2 n2 d2 cl ch 300 W cn cn x1 x2 (by omega) (by omega))
  obtain ⟨r1, hr1⟩ : ∃ r, meetT al ah bl bh = r := ⟨_, rfl⟩
  obtain ⟨r3, hr3⟩ : ∃ r, insB al ah al = r := ⟨_, rfl⟩
  obtain ⟨r4, hr4⟩ : ∃ r, meetT bl bh cl ch = r := ⟨_, rfl⟩
  obtain ⟨L, hL⟩ : ∃ l, mxL al bl = l := ⟨_, rfl⟩
  obtain ⟨H, hH⟩ : ∃ l, mnL ah bh = l := ⟨_, rfl⟩
  obtain ⟨D, hD⟩ : ∃ l, mxL bl cl = l := ⟨_, rfl⟩
  obtain ⟨E, hE⟩ : ∃ l, mnL bh ch = l := ⟨_, rfl⟩
  obtain ⟨M, hM⟩ : ∃ l, mxL L cl = l := ⟨_, rfl⟩
  obtain ⟨N, hN⟩ : ∃ l, mnL H ch = l := ⟨_, rfl⟩
  obtain ⟨r5, hr5⟩ : ∃ r, meetT L H cl ch = r := ⟨_, rfl⟩
  obtain ⟨R, hR⟩ : ∃ l, rngs al ah = l := ⟨_, rfl⟩
  have PX := fun W x1 x2 x3 x4 x5 x6 => Lib.hid (meet_all (A := A) (B := B) (A' := A') (B' := B') (n := n) (c := c) (d := d) (n' := n') (c' := c') (d' := d') (w := W) r1 L H hr1 (fun _ => hL) (fun _ => hH) g1 g2 x1 x2 x3 x4 x5 x6)
  have PY := fun W x1 x2 x3 x4 x5 x6 => Lib.hid (meet_all (A := A') (B := B') (A' := A) (B' := B) (n := n') (c := c') (d := d') (n' := n) (c' := c) (d' := d) (w := W) r1 L H (by rw [meetT_comm]; exact hr1) (fun _ => by rw [mx_comm]; exact hL) (fun _ => by rw [mn_comm]; exact hH) g2 g1 x1 x2 x3 x4 x5 x6)
  have PS := fun W x1 x2 x5 x6 => Lib.hid (meet_all (A := A) (B := B) (A' := A) (B' := B) (n := n) (c := c) (d := d) (n' := n) (c' := c) (d' := d) (w := W) r3 al ah (by rw [meetT_self]; exact hr3) (fun _ => mx_self _) (fun _ => mn_self _) g1 g1 x1 x2 x1 x2 x5 x6)
  have PD := fun W x1 x2 x3 x4 x5 x6 => Lib.hid (meet_all (A := A') (B := B') (A' := A2) (B' := B2) (n := n') (c := c') (d := d') (n' := n2) (c' := c2) (d' := d2) (w := W) r4 D E hr4 (fun _ => hD) (fun _ => hE) g2 g3 x1 x2 x3 x4 x5 x6)
  have PC := fun W x1 x2 => Lib.hid (hR ▸ cells_small (A := A) (B := B) (n := n) (c := c) (d := d) (w := W) 300 h1 (by omega) (by omega) x1 x2)
  have HR3 := Lib.hid (show r3 = decide (0 < R.length) by rw [← hr3, ← hR]; exact ins_rng e1)
  have HLH := Lib.hid (fun (h : r1 = true) => show rgtB L H = true by rw [← hL, ← hH]; exact meetT_right g1 g2 (hr1.trans h))
  have HDE := Lib.hid (fun (h : r4 = true) => show rgtB D E = true by rw [← hD, ← hE]; exact meetT_right g2 g3 (hr4.trans h))
  have HR5 := Lib.hid (fun (h : r1 = true) (h' : r4 = true) => show meetT al ah D E = r5 by rw [← hr5, ← hL, ← hH, ← hD, ← hE]; exact (meetT_assoc (meetT_out (hr1.trans h)).1 (meetT_out (hr4.trans h')).1).symm)
  have HM1 := Lib.hid (show mxL al D = M by rw [← hM, ← hL, ← hD, mx_assoc])
  have HN1 := Lib.hid (show mnL ah E = N by rw [← hN, ← hH, ← hE, mn_assoc])
  have HHM := Lib.hid hM; have HHN := Lib.hid hN; have HHR := Lib.hid hr5; have HG1 := Lib.hid g1; have HG3 := Lib.hid g3; have HAN := Lib.hid an
  clear hr1 hr3 hr4 hL hH hD hE hM hN hr5 hR h1 h2 h3 g1 g2 g3 e1 e2 e3 f1 f2 f3 bn cn an
  obtain ⟨W, hW⟩ : ∃ W, W = ((w.alloc (.cells #[.slice A n c, .slice B n d] 24)).alloc (.cells #[.slice A' n' c', .slice B' n' d'] 24)).alloc (.cells #[.slice A2 n2 c2, .slice B2 n2 d2] 24) := ⟨_, rfl⟩
  obtain ⟨q1, q2, q3⟩ := kl_three hW ral rah a0 a1 rbl rbh b0 b1 rcl rch c0 c1
  have KA := Lib.hid q1; have KB := Lib.hid q2; have KC := Lib.hid q3
  have HW := Lib.hid hW
  clear hW q1 q2 q3 ral rah a0 a1 rbl rbh b0 b1 rcl rch c0 c1
  obtain ⟨kA0, kA1, _⟩ := KA.out.kx.box; obtain ⟨kB0, kB1, _⟩ := KB.out.kx.box; obtain ⟨kC0, kC1, _⟩ := KC.out.kx.box
  go_enter Try.func6, Try.ntmps6
  go_wp2_with fail
  rw [← HW.out]
  refine (awake_true _).mono ?_
  rintro e wv ⟨rfl, hb⟩
  have KA := Lib.hid (KA.out.call hb)
  have KB := Lib.hid (KB.out.call hb)
  have KC := Lib.hid (KC.out.call hb)
  obtain ⟨kA0, kA1, _⟩ := KA.out.kx.box; obtain ⟨kB0, kB1, _⟩ := KB.out.kx.box; obtain ⟨kC0, kC1, _⟩ := KC.out.kx.box
  clear hb
  go_wp2_with fail
  refine (S1 _ KA.out.kx.lo KA.out.kx.hi).out.mono ?_
  rintro e wv ⟨rfl, hb⟩
  have KA := Lib.hid (KA.out.call hb)
  have KB := Lib.hid (KB.out.call hb)
  have KC := Lib.hid (KC.out.call hb)
  obtain ⟨kA0, kA1, _⟩ := KA.out.kx.box; obtain ⟨kB0, kB1, _⟩ := KB.out.kx.box; obtain ⟨kC0, kC1, _⟩ := KC.out.kx.box
  clear hb
  go_wp2_with fail
  refine (S2 _ KB.out.kx.lo KB.out.kx.hi).out.mono ?_
  rintro e wv ⟨rfl, hb⟩
  have KA := Lib.hid (KA.out.call hb)
  have KB := Lib.hid (KB.out.call hb)
  have KC := Lib.hid (KC.out.call hb)
  obtain ⟨kA0, kA1, _⟩ := KA.out.kx.box; obtain ⟨kB0, kB1, _⟩ := KB.out.kx.box; obtain ⟨kC0, kC1, _⟩ := KC.out.kx.box
  clear hb
  go_wp2_with fail
  refine (S3 _ KC.out.kx.lo KC.out.kx.hi).out.mono ?_
  rintro e wv ⟨rfl, hb⟩
  have KA := Lib.hid (KA.out.call hb)
  have KB := Lib.hid (KB.out.call hb)
  have KC := Lib.hid (KC.out.call hb)
  obtain ⟨kA0, kA1, _⟩ := KA.out.kx.box; obtain ⟨kB0, kB1, _⟩ := KB.out.kx.box; obtain ⟨kC0, kC1, _⟩ := KC.out.kx.box
  clear hb
  go_wp2_with fail
  refine (PX _ KA.out.kx.lo KA.out.kx.hi KB.out.kx.lo KB.out.kx.hi KA.out.kx.a0 KA.out.kx.b0).out.mono ?_
  rintro e wv ⟨xP, xm, xc, xQ, xd, rfl, x1, x2, hxm, xa, xb, hb⟩
  obtain ⟨Vx, hV⟩ : ∃ V, V = wv.alloc (.cells #[.slice xP xm xc, .slice xQ xm xd] 27) := ⟨_, rfl⟩
  have hb2 := below_more hb (.cells #[.slice xP xm xc, .slice xQ xm xd] 27)
  rw [← hV] at hb2
  have KX := Lib.hid (show Go.Proofs.Ytaegkiangjnmdaa.laws.KX Vx wv.heap.size xP xm xc xQ xm xd _ _ by rw [hV]; exact kx_new x1 x2 xa xb _)
  have HMX := Lib.hid (show xm ≤ maxLen by unfold maxLen; omega)
  have KA := Lib.hid (KA.out.call hb2)
  have KB := Lib.hid (KB.out.call hb2)
  have KC := Lib.hid (KC.out.call hb2)
  obtain ⟨kA0, kA1, _⟩ := KA.out.kx.box; obtain ⟨kB0, kB1, _⟩ := KB.out.kx.box; obtain ⟨kC0, kC1, _⟩ := KC.out.kx.box
  clear hb2
  have HV := Lib.hid hV
  clear hb hV x1 x2 hxm xa xb
  obtain ⟨kX0, kX1, _⟩ := KX.out.box
  go_upto_region 4 with fail
  rw [← HV.out]
  go_wp2_with fail
  refine (PY _ KB.out.kx.lo KB.out.kx.hi KA.out.kx.lo KA.out.kx.hi KB.out.kx.a0 KB.out.kx.b0).out.mono ?_
  rintro e wv ⟨yP, ym, yc, yQ, yd, rfl, x1, x2, hxm, xa, xb, hb⟩
  obtain ⟨Vy, hV⟩ : ∃ V, V = wv.alloc (.cells #[.slice yP ym yc, .slice yQ ym yd] 27) := ⟨_, rfl⟩
  have hb2 := below_more hb (.cells #[.slice yP ym yc, .slice yQ ym yd] 27)
  rw [← hV] at hb2
  have KY := Lib.hid (show Go.Proofs.Ytaegkiangjnmdaa.laws.KX Vy wv.heap.size yP ym yc yQ ym yd _ _ by rw [hV]; exact kx_new x1 x2 xa xb _)
  have HMY := Lib.hid (show ym ≤ maxLen by unfold maxLen; omega)
  have KA := Lib.hid (KA.out.call hb2)
  have KB := Lib.hid (KB.out.call hb2)
  have KC := Lib.hid (KC.out.call hb2)
  have KX := Lib.hid (KX.out.below hb2)
  obtain ⟨kA0, kA1, _⟩ := KA.out.kx.box; obtain ⟨kB0, kB1, _⟩ := KB.out.kx.box; obtain ⟨kC0, kC1, _⟩ := KC.out.kx.box; obtain ⟨kX0, kX1, _⟩ := KX.out.box
  clear hb2
  have HV := Lib.hid hV
  clear hb hV x1 x2 hxm xa xb
  obtain ⟨kY0, kY1, _⟩ := KY.out.box
  go_upto_region 5 with fail
  rw [← HV.out]
  go_wp2_with fail
  refine (PS _ KA.out.kx.lo KA.out.kx.hi KA.out.kx.a0 KA.out.kx.b0).out.mono ?_
  rintro e wv ⟨sP, sm, sc, sQ, sd, rfl, x1, x2, hxm, xa, xb, hb⟩
  obtain ⟨Vs, hV⟩ : ∃ V, V = wv.alloc (.cells #[.slice sP sm sc, .slice sQ sm sd] 27) := ⟨_, rfl⟩
  have hb2 := below_more hb (.cells #[.slice sP sm sc, .slice sQ sm sd] 27)
  rw [← hV] at hb2
  have KS := Lib.hid (show Go.Proofs.Ytaegkiangjnmdaa.laws.KX Vs wv.heap.size sP sm sc sQ sm sd _ _ by rw [hV]; exact kx_new x1 x2 xa xb _)
  have HMS := Lib.hid (show sm ≤ maxLen by unfold maxLen; omega)
  have KA := Lib.hid (KA.out.call hb2)
  have KB := Lib.hid (KB.out.call hb2)
  have KC := Lib.hid (KC.out.call hb2)
  have KX := Lib.hid (KX.out.below hb2)
  have KY := Lib.hid (KY.out.below hb2)
  obtain ⟨kA0, kA1, _⟩ := KA.out.kx.box; obtain ⟨kB0, kB1, _⟩ := KB.out.kx.box; obtain ⟨kC0, kC1, _⟩ := KC.out.kx.box; obtain ⟨kX0, kX1, _⟩ := KX.out.box; obtain ⟨kY0, kY1, _⟩ := KY.out.box
  clear hb2
  have HV := Lib.hid hV
  clear hb hV x1 x2 hxm xa xb
  obtain ⟨kS0, kS1, _⟩ := KS.out.box
  go_upto_region 6 with fail
  rw [← HV.out]
  cases r1 <;> cases r3
  all_goals
    have hd1 := HR3.out
    have hd2 : decide (0 < R.length) = _ := hd1.symm
    have hd3 : decide ((0 : Int) < (R.length : Int)) = _ := (decide_eq_decide.2 (by omega)).trans hd2
    clear hd1
    go_wp2_with (first
      | (go_at_call 13; with_reducible refine (same_at true (same_refl _ _) HMX.out HMX.out HMY.out HMY.out KX.out.lo KX.out.hi KY.out.lo KY.out.hi).mono ?_
         rintro e wv ⟨rfl, hb⟩
         have KA := Lib.hid (KA.out.call hb)
         have KB := Lib.hid (KB.out.call hb)
         have KC := Lib.hid (KC.out.call hb)
         have KX := Lib.hid (KX.out.below hb)
         have KY := Lib.hid (KY.out.below hb)
         have KS := Lib.hid (KS.out.below hb)
         obtain ⟨kA0, kA1, _⟩ := KA.out.kx.box; obtain ⟨kB0, kB1, _⟩ := KB.out.kx.box; obtain ⟨kC0, kC1, _⟩ := KC.out.kx.box; obtain ⟨kX0, kX1, _⟩ := KX.out.box; obtain ⟨kY0, kY1, _⟩ := KY.out.box; obtain ⟨kS0, kS1, _⟩ := KS.out.box
         clear hb)
      | (go_at_call 13; refine (same_at true (same_refl al ah) HMS.out HMS.out HAN.out HAN.out KS.out.lo KS.out.hi KA.out.kx.lo KA.out.kx.hi).mono ?_
         rintro e wv ⟨rfl, hb⟩
         have KA := Lib.hid (KA.out.call hb)
         have KB := Lib.hid (KB.out.call hb)
         have KC := Lib.hid (KC.out.call hb)
         have KX := Lib.hid (KX.out.below hb)
         have KY := Lib.hid (KY.out.below hb)
         have KS := Lib.hid (KS.out.below hb)
         obtain ⟨kA0, kA1, _⟩ := KA.out.kx.box; obtain ⟨kB0, kB1, _⟩ := KB.out.kx.box; obtain ⟨kC0, kC1, _⟩ := KC.out.kx.box; obtain ⟨kX0, kX1, _⟩ := KX.out.box; obtain ⟨kY0, kY1, _⟩ := KY.out.box; obtain ⟨kS0, kS1, _⟩ := KS.out.box
         clear hb)
      | (go_at_call 15; refine (PC _ KA.out.kx.lo KA.out.kx.hi).out.mono ?_
         rintro e wv ⟨lP, lc, rfl, _, _, _, _, hb⟩
         have KA := Lib.hid (KA.out.call hb)
         have KB := Lib.hid (KB.out.call hb)
         have KC := Lib.hid (KC.out.call hb)
         have KX := Lib.hid (KX.out.below hb)
         have KY := Lib.hid (KY.out.below hb)
         have KS := Lib.hid (KS.out.below hb)
         obtain ⟨kA0, kA1, _⟩ := KA.out.kx.box; obtain ⟨kB0, kB1, _⟩ := KB.out.kx.box; obtain ⟨kC0, kC1, _⟩ := KC.out.kx.box; obtain ⟨kX0, kX1, _⟩ := KX.out.box; obtain ⟨kY0, kY1, _⟩ := KY.out.box; obtain ⟨kS0, kS1, _⟩ := KS.out.box
         clear hb))

    refine (PD _ KB.out.kx.lo KB.out.kx.hi KC.out.kx.lo KC.out.kx.hi KB.out.kx.a0 KB.out.kx.b0).out.mono ?_
    rintro e wv ⟨zP, zm, zc, zQ, zd, rfl, x1, x2, hxm, xa, xb, hb⟩
    obtain ⟨Vz, hV⟩ : ∃ V, V = wv.alloc (.cells #[.slice zP zm zc, .slice zQ zm zd] 27) := ⟨_, rfl⟩
    have hb2 := below_more hb (.cells #[.slice zP zm zc, .slice zQ zm zd] 27)
    rw [← hV] at hb2
    have KZ := Lib.hid (show Go.Proofs.Ytaegkiangjnmdaa.laws.KX Vz wv.heap.size zP zm zc zQ zm zd _ _ by rw [hV]; exact kx_new x1 x2 xa xb _)
    have HMZ := Lib.hid (show zm ≤ maxLen by unfold maxLen; omega)
    have KA := Lib.hid (KA.out.call hb2)
    have KB := Lib.hid (KB.out.call hb2)
    have KC := Lib.hid (KC.out.call hb2)
    have KX := Lib.hid (KX.out.below hb2)
    have KY := Lib.hid (KY.out.below hb2)
    have KS := Lib.hid (KS.out.below hb2)
    obtain ⟨kA0, kA1, _⟩ := KA.out.kx.box; obtain ⟨kB0, kB1, _⟩ := KB.out.kx.box; obtain ⟨kC0, kC1, _⟩ := KC.out.kx.box; obtain ⟨kX0, kX1, _⟩ := KX.out.box; obtain ⟨kY0, kY1, _⟩ := KY.out.box; obtain ⟨kS0, kS1, _⟩ := KS.out.box
    clear hb2
    have HV := Lib.hid hV
    clear hb hV x1 x2 hxm xa xb
    obtain ⟨kZ0, kZ1, _⟩ := KZ.out.box
    go_upto_region 9 with fail
    rw [← HV.out]
    cases r4
    · go_wp2_with fail
      go_ret
      exact ⟨rfl, KA.out.aft⟩
    · go_wp2_with fail
      first
        | (go_ret; exact ⟨rfl, KA.out.aft⟩; done)
        | (refine (meet_all r5 M N HHR.out (fun _ => HHM.out) (fun _ => HHN.out) (HLH.out (by trivial)) HG3.out KX.out.lo KX.out.hi KC.out.kx.lo KC.out.kx.hi KX.out.a0 KX.out.b0).mono ?_
           rintro e wv ⟨uP, um, uc, uQ, ud, rfl, x1, x2, hxm, xa, xb, hb⟩
           obtain ⟨Vu, hV⟩ : ∃ V, V = wv.alloc (.cells #[.slice uP um uc, .slice uQ um ud] 27) := ⟨_, rfl⟩
           have hb2 := below_more hb (.cells #[.slice uP um uc, .slice uQ um ud] 27)
           rw [← hV] at hb2
           have KU := Lib.hid (show Go.Proofs.Ytaegkiangjnmdaa.laws.KX Vu wv.heap.size uP um uc uQ um ud _ _ by rw [hV]; exact kx_new x1 x2 xa xb _)
           have HMU := Lib.hid (show um ≤ maxLen by unfold maxLen; omega)
           have KA := Lib.hid (KA.out.call hb2)
           have KB := Lib.hid (KB.out.call hb2)
           have KC := Lib.hid (KC.out.call hb2)
           have KX := Lib.hid (KX.out.below hb2)
           have KY := Lib.hid (KY.out.below hb2)
           have KS := Lib.hid (KS.out.below hb2)
           have KZ := Lib.hid (KZ.out.below hb2)
           obtain ⟨kA0, kA1, _⟩ := KA.out.kx.box; obtain ⟨kB0, kB1, _⟩ := KB.out.kx.box; obtain ⟨kC0, kC1, _⟩ := KC.out.kx.box; obtain ⟨kX0, kX1, _⟩ := KX.out.box; obtain ⟨kY0, kY1, _⟩ := KY.out.box; obtain ⟨kS0, kS1, _⟩ := KS.out.box; obtain ⟨kZ0, kZ1, _⟩ := KZ.out.box
           clear hb2
           have HV := Lib.hid hV
           clear hb hV x1 x2 hxm xa xb
           obtain ⟨kU0, kU1, _⟩ := KU.out.box
           go_upto_region 12 with fail
           rw [← HV.out]
           go_wp2_with fail
           refine (meet_all r5 M N (HR5.out (by trivial) (by trivial)) (fun _ => HM1.out) (fun _ => HN1.out) HG1.out (HDE.out (by trivial)) KA.out.kx.lo KA.out.kx.hi KZ.out.lo KZ.out.hi KA.out.kx.a0 KA.out.kx.b0).mono ?_
           rintro e wv ⟨vP, vm, vc, vQ, vd, rfl, x1, x2, hxm, xa, xb, hb⟩
           obtain ⟨Vv, hV⟩ : ∃ V, V = wv.alloc (.cells #[.slice vP vm vc, .slice vQ vm vd] 27) := ⟨_, rfl⟩
           have hb2 := below_more hb (.cells #[.slice vP vm vc, .slice vQ vm vd] 27)
           rw [← hV] at hb2
           have KV := Lib.hid (show Go.Proofs.Ytaegkiangjnmdaa.laws.KX Vv wv.heap.size vP vm vc vQ vm vd _ _ by rw [hV]; exact kx_new x1 x2 xa xb _)
           have HMV := Lib.hid (show vm ≤ maxLen by unfold maxLen; omega)
           have KA := Lib.hid (KA.out.call hb2)
           have KB := Lib.hid (KB.out.call hb2)
           have KC := Lib.hid (KC.out.call hb2)
           have KX := Lib.hid (KX.out.below hb2)
           have KY := Lib.hid (KY.out.below hb2)
           have KS := Lib.hid (KS.out.below hb2)
           have KZ := Lib.hid (KZ.out.below hb2)
           have KU := Lib.hid (KU.out.below hb2)
           obtain ⟨kA0, kA1, _⟩ := KA.out.kx.box; obtain ⟨kB0, kB1, _⟩ := KB.out.kx.box; obtain ⟨kC0, kC1, _⟩ := KC.out.kx.box; obtain ⟨kX0, kX1, _⟩ := KX.out.box; obtain ⟨kY0, kY1, _⟩ := KY.out.box; obtain ⟨kS0, kS1, _⟩ := KS.out.box; obtain ⟨kZ0, kZ1, _⟩ := KZ.out.box; obtain ⟨kU0, kU1, _⟩ := KU.out.box
           clear hb2
           have HV := Lib.hid hV
           clear hb hV x1 x2 hxm xa xb
           obtain ⟨kV0, kV1, _⟩ := KV.out.box
           go_upto_region 13 with fail
           rw [← HV.out]
           cases r5
           all_goals
             go_wp2_with (first
               | (go_at_call 13; refine (same_at true (same_refl _ _) HMU.out HMU.out HMV.out HMV.out KU.out.lo KU.out.hi KV.out.lo KV.out.hi).mono ?_
                  rintro e wv ⟨rfl, hb⟩
                  have KA := Lib.hid (KA.out.call hb)
                  have KB := Lib.hid (KB.out.call hb)
                  have KC := Lib.hid (KC.out.call hb)
                  have KX := Lib.hid (KX.out.below hb)
                  have KY := Lib.hid (KY.out.below hb)
                  have KS := Lib.hid (KS.out.below hb)
                  have KZ := Lib.hid (KZ.out.below hb)
                  have KU := Lib.hid (KU.out.below hb)
                  have KV := Lib.hid (KV.out.below hb)
                  obtain ⟨kA0, kA1, _⟩ := KA.out.kx.box; obtain ⟨kB0, kB1, _⟩ := KB.out.kx.box; obtain ⟨kC0, kC1, _⟩ := KC.out.kx.box; obtain ⟨kX0, kX1, _⟩ := KX.out.box; obtain ⟨kY0, kY1, _⟩ := KY.out.box; obtain ⟨kS0, kS1, _⟩ := KS.out.box; obtain ⟨kZ0, kZ1, _⟩ := KZ.out.box; obtain ⟨kU0, kU1, _⟩ := KU.out.box; obtain ⟨kV0, kV1, _⟩ := KV.out.box
                  clear hb))
             go_ret
             exact ⟨rfl, KA.out.aft⟩)

theorem walk_BoxMeets (A B A' B' A2 B2 : Option Addr) (n c m d n' c' m' d' n2 c2 m2 d2 : Nat) (al ah bl bh cl ch : List Int) (w : World) (hal : In w A n c al) (hah : In w B m d ah) (hbl : In w A' n' c' bl) (hbh : In w B' m' d' bh) (hcl : In w A2 n2 c2 cl) (hch : In w B2 m2 d2 ch) :
    Calls Try.prog 6 #[.agg #[.slice A n c, .slice B m d], .agg #[.slice A' n' c', .slice B' m' d'], .agg #[.slice A2 n2 c2, .slice B2 m2 d2]] w (HoldsX w) := by
  by_cases hs : smallB al ah 300 = true ∧ smallB bl bh 300 = true ∧ smallB cl ch 300 = true
  · obtain ⟨h1, h2, h3⟩ := hs
    obtain rfl : n = m := by have := (small_out h1).2.1; have := hal.rd.1; have := hah.rd.1; omega
    obtain rfl : n' = m' := by have := (small_out h2).2.1; have := hbl.rd.1; have := hbh.rd.1; omega
    obtain rfl : n2 = m2 := by have := (small_out h3).2.1; have := hcl.rd.1; have := hch.rd.1; omega
    exact meets_right A B A' B' A2 B2 n c d n' c' d' n2 c2 d2 al ah bl bh cl ch w hal.rd hah.rd hal.none_ hah.none_ hbl.rd hbh.rd hbl.none_ hbh.none_ hcl.rd hch.rd hcl.none_ hch.none_ h1 h2 h3
  · exact meets_wrong A B A' B' A2 B2 n c m d n' c' m' d' n2 c2 m2 d2 al ah bl bh cl ch w hal.rd hah.rd hal.none_ hah.none_ hal.len hah.len hbl.rd hbh.rd hbl.none_ hbh.none_ hbl.len hbh.len hcl.rd hch.rd hcl.none_ hch.none_ hcl.len hch.len hs
end Go.Proofs.Ytaegkiangjnmdaa.laws
