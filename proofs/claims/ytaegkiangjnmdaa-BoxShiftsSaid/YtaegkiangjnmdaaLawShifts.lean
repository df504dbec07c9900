/- The law BoxShifts. -/
import Derived.Test.YtaegkiangjnmdaaBoxLaw
import Derived.Deep.RegionHeld3
namespace Go.Proofs.Ytaegkiangjnmdaa.laws
open Go.ChangeShapes Go.WideShapes Go.ChangeAt Go.RowKit Go.Proofs.Ytaegkiangjnmdaa.mem Go.Proofs.Ytaegkiangjnmdaa.prod Go.Proofs.Ytaegkiangjnmdaa.shp Go.Proofs.Ytaegkiangjnmdaa.strd Go.Proofs.Ytaegkiangjnmdaa.gam Go.Proofs.Ytaegkiangjnmdaa.sml Go.Proofs.Ytaegkiangjnmdaa.all Go.Proofs.Ytaegkiangjnmdaa.odo Go.Proofs.Ytaegkiangjnmdaa.eql Go.Proofs.Ytaegkiangjnmdaa.arr Go.Proofs.Ytaegkiangjnmdaa.bx
set_option linter.unusedVariables false

theorem end_set : ∀ {lo hi : List Int} {k : Nat} {x y p q : Int}, endB lo hi = true → lo[k]? = some x → hi[k]? = some y → endB (lo.set k p) (hi.set k q) = decide (0 ≤ p ∧ p ≤ q ∧ q ≤ 65536)
  | [], _, k, x, y, p, q, _, h, _ => by simp at h
  | _ :: _, [], k, x, y, p, q, _, _, h => by simp at h
  | a :: lo, b :: hi, 0, x, y, p, q, h, _, _ => by
    simp only [endB, Bool.and_eq_true] at h
    show (decide (0 ≤ p ∧ p ≤ q ∧ q ≤ 65536) && endB lo hi) = _
    rw [h.2, Bool.and_true]
  | a :: lo, b :: hi, k + 1, x, y, p, q, h, hx, hy => by
    simp only [endB, Bool.and_eq_true] at h
    show (decide (0 ≤ a ∧ a ≤ b ∧ b ≤ 65536) && endB (lo.set k p) (hi.set k q)) = _
    rw [h.1, Bool.true_and]
    exact end_set h.2 (by simpa using hx) (by simpa using hy)
theorem rgt_set {lo hi : List Int} {k : Nat} {x y p q : Int} (h : rgtB lo hi = true) (hx : lo[k]? = some x) (hy : hi[k]? = some y) : rgtB (lo.set k p) (hi.set k q) = decide (0 ≤ p ∧ p ≤ q ∧ q ≤ 65536) := by
  obtain ⟨h1, h2, h3⟩ := rgt_out h
  unfold rgtB
  rw [end_set h3 hx hy, decide_eq_true (by simpa using ⟨h1, h2⟩), Bool.true_and]
theorem ins_sets : ∀ {lo hi xs : List Int} {k : Nat} {x y v : Int} (z : Int), insB lo hi xs = true → lo[k]? = some x → hi[k]? = some y → xs[k]? = some v → insB (lo.set k (x + z)) (hi.set k (y + z)) (xs.set k (v + z)) = true
  | [], _, _, k, x, y, v, z, _, h, _, _ => by simp at h
  | _ :: _, [], _, k, x, y, v, z, _, _, h, _ => by simp at h
  | _ :: _, _ :: _, [], k, x, y, v, z, _, _, _, h => by simp at h
  | a :: lo, b :: hi, c :: xs, 0, x, y, v, z, h, hx, hy, hv => by
    simp at hx hy hv
    subst hx hy hv
    simp only [insB, Bool.and_eq_true, decide_eq_true_eq] at h
    show (decide _ && insB lo hi xs) = true
    rw [h.2, Bool.and_true]
    exact decide_eq_true (by omega)
  | a :: lo, b :: hi, c :: xs, k + 1, x, y, v, z, h, hx, hy, hv => by
    simp only [insB, Bool.and_eq_true] at h
    show (decide _ && insB (lo.set k (x + z)) (hi.set k (y + z)) (xs.set k (v + z))) = true
    rw [ins_sets z h.2 (by simpa using hx) (by simpa using hy) (by simpa using hv), Bool.and_true]
    exact h.1
theorem dims_sets : ∀ {lo hi : List Int} {k : Nat} {x y : Int} (z : Int), lo[k]? = some x → hi[k]? = some y → dimsL (lo.set k (x + z)) (hi.set k (y + z)) = dimsL lo hi
  | [], _, k, x, y, z, h, _ => by simp at h
  | _ :: _, [], k, x, y, z, _, h => by simp at h
  | a :: lo, b :: hi, 0, x, y, z, hx, hy => by
    simp at hx hy
    subst hx hy
    show max (b + z - (a + z)) 0 :: dimsL lo hi = max (b - a) 0 :: dimsL lo hi
    congr 2
    omega
  | a :: lo, b :: hi, k + 1, x, y, z, hx, hy => by
    show max (b - a) 0 :: dimsL (lo.set k (x + z)) (hi.set k (y + z)) = max (b - a) 0 :: dimsL lo hi
    rw [dims_sets z (by simpa using hx) (by simpa using hy)]
theorem wrap_split (s : Int) : -9223372036854775808 ≤ wrap64 s ∧ wrap64 s ≤ 9223372036854775807 ∧ ∃ m : Int, wrap64 s = s + m * 18446744073709551616 := by
  unfold wrap64
  refine ⟨by omega, by omega, ?_⟩
  refine ⟨-((s + 9223372036854775808) / 18446744073709551616), ?_⟩
  omega
/-- Too far a shift leaves no right box. -/
theorem far_no {lo hi : List Int} {k : Nat} {x y z : Int} (h : rgtB lo hi = true) (hx : lo[k]? = some x) (hy : hi[k]? = some y) (hz : -9223372036854775808 ≤ z ∧ z ≤ 9223372036854775807) (hf : 65536 < z ∨ z < -65536 ∨ x + z < 0 ∨ 65536 < y + z) :
    rgtB (lo.set k (wrap64 (x + z))) (hi.set k (wrap64 (y + z))) = false := by
  rw [rgt_set h hx hy]
  have hb := end_at (rgt_out h).2.2 hx hy
  obtain ⟨a1, a2, m1, a3⟩ := wrap_split (x + z)
  obtain ⟨b1, b2, m2, b3⟩ := wrap_split (y + z)
  exact decide_eq_false (by omega)
theorem near_yes {lo hi : List Int} {k : Nat} {x y z : Int} (h : rgtB lo hi = true) (hx : lo[k]? = some x) (hy : hi[k]? = some y) (h1 : 0 ≤ x + z) (h2 : y + z ≤ 65536) : rgtB (lo.set k (x + z)) (hi.set k (y + z)) = true := by
  rw [rgt_set h hx hy]
  have hb := end_at (rgt_out h).2.2 hx hy
  exact decide_eq_true (by omega)
theorem set_at : ∀ {l : List Int} {k : Nat} {x : Int}, l[k]? = some x → l.set k x = l
  | [], k, x, h => by simp at h
  | a :: l, 0, x, h => by simp at h; rw [h]; rfl
  | a :: l, k + 1, x, h => by show a :: l.set k x = a :: l; rw [set_at (by simpa using h)]
theorem ins_at : ∀ {lo hi xs : List Int} {k : Nat} {x y v : Int}, insB lo hi xs = true → lo[k]? = some x → hi[k]? = some y → xs[k]? = some v → x ≤ v ∧ v < y
  | [], _, _, k, x, y, v, _, h, _, _ => by simp at h
  | _ :: _, [], _, k, x, y, v, _, _, h, _ => by simp at h
  | _ :: _, _ :: _, [], k, x, y, v, _, _, _, h => by simp at h
  | a :: lo, b :: hi, c :: xs, 0, x, y, v, h, hx, hy, hv => by
    simp at hx hy hv
    subst hx hy hv
    simp only [insB, Bool.and_eq_true, decide_eq_true_eq] at h
    omega
  | a :: lo, b :: hi, c :: xs, k + 1, x, y, v, h, hx, hy, hv => by
    simp only [insB, Bool.and_eq_true] at h
    exact ins_at h.2 (by simpa using hx) (by simpa using hy) (by simpa using hv)
/-- The first k rows moved. -/
def moved (a : Nat) (z : Int) (p : List Int) : List Int := p.set a (p.getD a 0 + z)
def mixF (a : Nat) (z : Int) (L : List (List Int)) (k : Nat) : List (List Int) := (L.take k).map (moved a z) ++ L.drop k
theorem mixF_at {a : Nat} {z : Int} {L : List (List Int)} {k : Nat} {p : List Int} (h : L[k]? = some p) : (mixF a z L k)[k]? = some p := by
  obtain ⟨hk, _⟩ := List.getElem?_eq_some_iff.1 h
  unfold mixF
  rw [List.getElem?_append_right (by simp; omega)]
  have e : k - ((L.take k).map (moved a z)).length = 0 := by simp; omega
  rw [e, List.getElem?_drop]
  simpa using h
theorem mixF_step {a : Nat} {z : Int} {L : List (List Int)} {k : Nat} {p : List Int} (h : L[k]? = some p) : (mixF a z L k).set k (moved a z p) = mixF a z L (k + 1) := by
  obtain ⟨hk, _⟩ := List.getElem?_eq_some_iff.1 h
  have hl : ((L.take k).map (moved a z)).length = k := by simp; omega
  unfold mixF
  rw [List.set_append_right _ _ (by omega), hl, drop_at h, take_snoc h]
  simp
theorem mixF_len (a : Nat) (z : Int) (L : List (List Int)) (k : Nat) : (mixF a z L k).length = L.length := by simp [mixF]; omega
theorem mixF_done {a : Nat} {z : Int} {L : List (List Int)} {k : Nat} {p : List Int} (h : L[k]? = some p) : (mixF a z L (k + 1))[k]? = some (moved a z p) := by
  obtain ⟨hk, _⟩ := List.getElem?_eq_some_iff.1 h
  rw [← mixF_step h, List.getElem?_set_self (by rw [mixF_len]; exact hk)]

set_option maxHeartbeats 4000000 in
set_option maxRecDepth 100000 in
theorem shifts_wrong (A B : Option Addr) (n c m d : Nat) (i z : Int) (al ah : List Int) (w : World) (ral : Rd w A n al) (rah : Rd w B m ah) (a0 : A = none → c = 0) (a1 : B = none → d = 0) (an : n ≤ maxLen) (am : m ≤ maxLen) (hs : smallB al ah 200 = false) :
    Calls Try.prog 5 #[.agg #[.slice A n c, .slice B m d], .int .i64 i, .int .i64 z] w (HoldsX w) := by
  have P1 := fun W h1 h2 => Lib.hid (hs ▸ refSmall_any A B n c m d al ah 200 W an am h1 h2 (by omega) (by omega))
  clear hs an am
  have KA := Lib.hid (kl_one (c := c) (d := d) ral rah a0 a1 24)
  clear ral rah a0 a1
  obtain ⟨kA0, kA1, _⟩ := KA.out.kx.box
  go_enter Try.func5, Try.ntmps5
  go_wp2_with fail
  refine (awake_true _).mono ?_
  rintro e wv ⟨rfl, hb⟩
  have KA := Lib.hid (KA.out.call hb)
  obtain ⟨kA0, kA1, _⟩ := KA.out.kx.box
  clear hb
  go_wp2_with fail
  refine (P1 _ KA.out.kx.lo KA.out.kx.hi).out.mono ?_
  rintro e wv ⟨rfl, hb⟩
  have KA := Lib.hid (KA.out.call hb)
  obtain ⟨kA0, kA1, _⟩ := KA.out.kx.box
  clear hb
  go_wp2_with fail
  refine (awake_true _).mono ?_
  rintro e wv ⟨rfl, hb⟩
  have KA := Lib.hid (KA.out.call hb)
  obtain ⟨kA0, kA1, _⟩ := KA.out.kx.box
  clear hb
  go_wp2_with fail
  go_ret
  exact ⟨rfl, KA.out.aft⟩

set_option maxHeartbeats 4000000 in
set_option maxRecDepth 100000 in
theorem shifts_no1 (A B : Option Addr) (n c d : Nat) (i z : Int) (al ah : List Int) (w : World) (ral : Rd w A n al) (rah : Rd w B n ah) (a0 : A = none → c = 0) (a1 : B = none → d = 0) (hs : smallB al ah 200 = true) (hS : ∀ W, Rd W A n al → Rd W B n ah → Hid (Calls Try.prog 20 #[.agg #[.slice A n c, .slice B n d], .int .i64 i, .int .i64 z] W (NoX W))) (hl : i < 0 ∨ (n : Int) ≤ i ∨ 65536 < z ∨ z < -65536) :
    Calls Try.prog 5 #[.agg #[.slice A n c, .slice B n d], .int .i64 i, .int .i64 z] w (HoldsX w) := by
  have an : n ≤ maxLen := by have := (rgt_out (small_out hs).1).2.1; have := ral.1; unfold maxLen; omega
  have S1 := fun W x1 x2 => Lib.hid (hs ▸ refSmall_any A B n c n d al ah 200 W an an x1 x2 (by omega) (by omega))
  have hl' : ¬ (decide (i < 0) = false ∧ decide ((n : Int) ≤ i) = false ∧ decide (65536 < z) = false ∧ decide (z < -65536) = false) := by
    rintro ⟨e1, e2, e3, e4⟩
    have := of_decide_eq_false e1; have := of_decide_eq_false e2; have := of_decide_eq_false e3; have := of_decide_eq_false e4
    omega
  obtain ⟨t1, h1⟩ : ∃ t, decide (i < 0) = t := ⟨_, rfl⟩
  obtain ⟨t2, h2⟩ : ∃ t, decide ((n : Int) ≤ i) = t := ⟨_, rfl⟩
  obtain ⟨t3, h3⟩ : ∃ t, decide (65536 < z) = t := ⟨_, rfl⟩
  obtain ⟨t4, h4⟩ : ∃ t, decide (z < -65536) = t := ⟨_, rfl⟩
  rw [h1, h2, h3, h4] at hl'
  have HL := Lib.hid hl'
  clear hl hl' hs an
  have KA := Lib.hid (kl_one (c := c) (d := d) ral rah a0 a1 24)
  clear ral rah a0 a1
  obtain ⟨kA0, kA1, _⟩ := KA.out.kx.box
  go_enter Try.func5, Try.ntmps5
  go_wp2_with fail
  refine (awake_true _).mono ?_
  rintro e wv ⟨rfl, hb⟩
  have KA := Lib.hid (KA.out.call hb)
  obtain ⟨kA0, kA1, _⟩ := KA.out.kx.box
  clear hb
  go_wp2_with fail
  refine (S1 _ KA.out.kx.lo KA.out.kx.hi).out.mono ?_
  rintro e wv ⟨rfl, hb⟩
  have KA := Lib.hid (KA.out.call hb)
  obtain ⟨kA0, kA1, _⟩ := KA.out.kx.box
  clear hb
  go_wp2_with fail
  refine ((hS _ KA.out.kx.lo KA.out.kx.hi).out.mono fun e w' h => noX_u (lo := []) (hi := []) h).mono ?_
  rintro e wvx ⟨xP, xm, xc, xQ, xd, rfl, x1, x2, hxm, xa, xb, hb⟩
  obtain ⟨Vx, hV⟩ : ∃ V, V = wvx.alloc (.cells #[.slice xP xm xc, .slice xQ xm xd] 27) := ⟨_, rfl⟩
  have hb2 := below_more hb (.cells #[.slice xP xm xc, .slice xQ xm xd] 27)
  rw [← hV] at hb2
  have KX := Lib.hid (show Go.Proofs.Ytaegkiangjnmdaa.laws.KX Vx wvx.heap.size xP xm xc xQ xm xd _ _ by rw [hV]; exact kx_new x1 x2 xa xb _)
  have HMX := Lib.hid (show xm ≤ maxLen by unfold maxLen; omega)
  have KA := Lib.hid (KA.out.call hb2)
  obtain ⟨kA0, kA1, _⟩ := KA.out.kx.box
  clear hb2
  have HV := Lib.hid hV
  clear hb hV x1 x2 hxm xa xb
  obtain ⟨kX0, kX1, _⟩ := KX.out.box
  go_upto_region 4 with fail
  rw [← HV.out]
  cases t1 <;> cases t2 <;> cases t3 <;> cases t4
  all_goals first
    | (exfalso; exact HL.out ⟨rfl, rfl, rfl, rfl⟩; done)
    | (obtain rfl : xm = 0 := by have := KX.out.lo.1; simpa using this.symm
       go_wp2_with fail
       go_ret
       exact ⟨rfl, KA.out.aft⟩)

set_option maxHeartbeats 4000000 in
set_option maxRecDepth 100000 in
theorem shifts_no2 (A B : Option Addr) (n c d k : Nat) (z x y : Int) (al ah : List Int) (w : World) (ral : Rd w A n al) (rah : Rd w B n ah) (a0 : A = none → c = 0) (a1 : B = none → d = 0) (hs : smallB al ah 200 = true) (hk : k < n) (hx : al[k]? = some x) (hy : ah[k]? = some y) (hz1 : -65536 ≤ z) (hz2 : z ≤ 65536) (hS : ∀ W, Rd W A n al → Rd W B n ah → Hid (Calls Try.prog 20 #[.agg #[.slice A n c, .slice B n d], .int .i64 (k : Int), .int .i64 z] W (NoX W))) (hl : x + z < 0 ∨ 65536 < y + z) :
    Calls Try.prog 5 #[.agg #[.slice A n c, .slice B n d], .int .i64 (k : Int), .int .i64 z] w (HoldsX w) := by
  have an : n ≤ maxLen := by have := (rgt_out (small_out hs).1).2.1; have := ral.1; unfold maxLen; omega
  have S1 := fun W x1 x2 => Lib.hid (hs ▸ refSmall_any A B n c n d al ah 200 W an an x1 x2 (by omega) (by omega))
  have hl' : ¬ (decide (x + z < 0) = false ∧ decide (65536 < y + z) = false) := by
    rintro ⟨e1, e2⟩
    have := of_decide_eq_false e1; have := of_decide_eq_false e2
    omega
  obtain ⟨t1, h1⟩ : ∃ t, decide (x + z < 0) = t := ⟨_, rfl⟩
  obtain ⟨t2, h2⟩ : ∃ t, decide (65536 < y + z) = t := ⟨_, rfl⟩
  rw [h1, h2] at hl'
  have hb := end_at (rgt_out (small_out hs).1).2.2 hx hy
  have w1 : IntKind.i64.wrap (x + z) = x + z := wrap_in (by omega) (by omega)
  have w2 : IntKind.i64.wrap (y + z) = y + z := wrap_in (by omega) (by omega)
  have d1 : decide ((k : Int) < 0) = false := decide_eq_false (by omega)
  have d2 : decide ((n : Int) ≤ (k : Int)) = false := decide_eq_false (by omega)
  have d3 : decide (65536 < z) = false := decide_eq_false (by omega)
  have d4 : decide (z < -65536) = false := decide_eq_false (by omega)
  have hkn : (k : Int) < (n : Int) := by omega
  obtain ⟨ad1, x', rfl, hxx, -⟩ := ral.at_ hk
  obtain rfl : x = x' := by rw [hx] at hxx; exact Option.some.inj hxx
  obtain ⟨ad2, y', rfl, hyy, -⟩ := rah.at_ hk
  obtain rfl : y = y' := by rw [hy] at hyy; exact Option.some.inj hyy
  have HXX := Lib.hid hx; have HYY := Lib.hid hy; have HKN := Lib.hid hk
  have HL := Lib.hid hl'
  clear hl hl' hs an hb hx hy hxx hyy hz1 hz2
  have KA := Lib.hid (kl_one (c := c) (d := d) ral rah a0 a1 24)
  clear ral rah a0 a1
  obtain ⟨kA0, kA1, _⟩ := KA.out.kx.box
  go_enter Try.func5, Try.ntmps5
  go_wp2_with fail
  refine (awake_true _).mono ?_
  rintro e wv ⟨rfl, hb⟩
  have KA := Lib.hid (KA.out.call hb)
  obtain ⟨kA0, kA1, _⟩ := KA.out.kx.box
  clear hb
  go_wp2_with fail
  refine (S1 _ KA.out.kx.lo KA.out.kx.hi).out.mono ?_
  rintro e wv ⟨rfl, hb⟩
  have KA := Lib.hid (KA.out.call hb)
  obtain ⟨kA0, kA1, _⟩ := KA.out.kx.box
  clear hb
  go_wp2_with fail
  refine ((hS _ KA.out.kx.lo KA.out.kx.hi).out.mono fun e w' h => noX_u (lo := []) (hi := []) h).mono ?_
  rintro e wvx ⟨xP, xm, xc, xQ, xd, rfl, x1, x2, hxm, xa, xb, hb⟩
  obtain ⟨Vx, hV⟩ : ∃ V, V = wvx.alloc (.cells #[.slice xP xm xc, .slice xQ xm xd] 27) := ⟨_, rfl⟩
  have hb2 := below_more hb (.cells #[.slice xP xm xc, .slice xQ xm xd] 27)
  rw [← hV] at hb2
  have KX := Lib.hid (show Go.Proofs.Ytaegkiangjnmdaa.laws.KX Vx wvx.heap.size xP xm xc xQ xm xd _ _ by rw [hV]; exact kx_new x1 x2 xa xb _)
  have HMX := Lib.hid (show xm ≤ maxLen by unfold maxLen; omega)
  have KA := Lib.hid (KA.out.call hb2)
  obtain ⟨kA0, kA1, _⟩ := KA.out.kx.box
  clear hb2
  have HV := Lib.hid hV
  clear hb hV x1 x2 hxm xa xb
  obtain ⟨kX0, kX1, _⟩ := KX.out.box
  go_upto_region 4 with fail
  rw [← HV.out]
  have c1 := KA.out.kx.lo.cell_ HXX.out
  have c2 := KA.out.kx.hi.cell_ HYY.out
  obtain rfl : xm = 0 := by have := KX.out.lo.1; simpa using this.symm
  cases t1 <;> cases t2
  all_goals first
    | (exfalso; exact HL.out ⟨rfl, rfl⟩; done)
    | (go_wp2_with fail
       go_ret
       exact ⟨rfl, KA.out.aft⟩)

set_option maxHeartbeats 8000000 in
set_option maxRecDepth 100000 in
theorem shifts_yes (A B : Option Addr) (n c d k : Nat) (z x y : Int) (al ah : List Int) (w : World) (ral : Rd w A n al) (rah : Rd w B n ah) (a0 : A = none → c = 0) (a1 : B = none → d = 0) (hs : smallB al ah 200 = true) (hk : k < n) (hx : al[k]? = some x) (hy : ah[k]? = some y) (hz1 : -65536 ≤ z) (hz2 : z ≤ 65536) (hl : 0 ≤ x + z) (hh : y + z ≤ 65536) :
    Calls Try.prog 5 #[.agg #[.slice A n c, .slice B n d], .int .i64 (k : Int), .int .i64 z] w (HoldsX w) := by
  have an : n ≤ maxLen := by have := (rgt_out (small_out hs).1).2.1; have := ral.1; unfold maxLen; omega
  have S1 := fun W x1 x2 => Lib.hid (hs ▸ refSmall_any A B n c n d al ah 200 W an an x1 x2 (by omega) (by omega))
  obtain ⟨g1, e1, f1, -, -⟩ := small_out hs
  have hb := end_at (rgt_out g1).2.2 hx hy
  have w1 : IntKind.i64.wrap (x + z) = x + z := wrap_in (by omega) (by omega)
  have w2 : IntKind.i64.wrap (y + z) = y + z := wrap_in (by omega) (by omega)
  have w3 : IntKind.i64.wrap (-z) = -z := wrap_in (by omega) (by omega)
  have d1 : decide ((k : Int) < 0) = false := decide_eq_false (by omega)
  have d2 : decide ((n : Int) ≤ (k : Int)) = false := decide_eq_false (by omega)
  have d3 : decide (65536 < z) = false := decide_eq_false (by omega)
  have d4 : decide (z < -65536) = false := decide_eq_false (by omega)
  have d5 : decide (x + z < 0) = false := decide_eq_false (by omega)
  have d6 : decide (65536 < y + z) = false := decide_eq_false (by omega)
  have hkn : (k : Int) < (n : Int) := by omega
  obtain ⟨ad1, x', rfl, hxx, -⟩ := ral.at_ hk
  obtain rfl : x = x' := by rw [hx] at hxx; exact Option.some.inj hxx
  obtain ⟨ad2, y', rfl, hyy, -⟩ := rah.at_ hk
  obtain rfl : y = y' := by rw [hy] at hyy; exact Option.some.inj hyy
  obtain ⟨lo, hlo⟩ : ∃ l, al.set k (x + z) = l := ⟨_, rfl⟩
  obtain ⟨hi, hhi⟩ : ∃ l, ah.set k (y + z) = l := ⟨_, rfl⟩
  obtain ⟨R, hR⟩ : ∃ l, rngs al ah = l := ⟨_, rfl⟩
  have wr1 : wrap64 (x + z) = x + z := by have := wrap_split (x + z); unfold wrap64; omega
  have wr2 : wrap64 (y + z) = y + z := by have := wrap_split (y + z); unfold wrap64; omega
  have g2 : rgtB lo hi = true := by rw [← hlo, ← hhi]; exact near_yes g1 hx hy hl hh
  have hlx : lo[k]? = some (x + z) := by rw [← hlo, List.getElem?_set_self (by rw [ral.1]; exact hk)]
  have hhx : hi[k]? = some (y + z) := by rw [← hhi, List.getElem?_set_self (by rw [rah.1]; exact hk)]
  have hal : al.set k x = al := set_at hx
  have hah : ah.set k y = ah := set_at hy
  have hb1 : lo.set k (wrap64 (x + z + -z)) = al := by rw [show x + z + -z = x by omega, show wrap64 x = x by unfold wrap64; omega, ← hlo, List.set_set, hal]
  have hb2 : hi.set k (wrap64 (y + z + -z)) = ah := by rw [show y + z + -z = y by omega, show wrap64 y = y by unfold wrap64; omega, ← hhi, List.set_set, hah]
  have P1 := fun W x1 x2 => Lib.hid ((shift_at (A := some ad1) (B := some ad2) (c := c) (d := d) (w := W) k x y lo hi rfl (by rw [wr1]; exact hlo) (by rw [wr2]; exact hhi) g1 hk x1 x2 (fun h => by cases h) (fun h => by cases h) hx hy).mono fun e w' h => (by rw [ShiftsTo, if_pos g2] at h; exact meetsR_u (r := true) (MeetsR.yes h) (by have := ral.1; omega)))
  have P2 := fun W X Y p q x1 x2 x3 x4 => Lib.hid ((shift_at (A := X) (B := Y) (n := n) (c := p) (d := q) (w := W) (z := -z) k (x + z) (y + z) al ah rfl hb1 hb2 g2 hk x1 x2 x3 x4 hlx hhx).mono fun e w' h => (by rw [ShiftsTo, if_pos g1] at h; exact meetsR_u (r := true) (MeetsR.yes h) (by have := ral.1; omega)))
  have PC := fun W x1 x2 => Lib.hid (hR ▸ cells_small (A := some ad1) (B := some ad2) (n := n) (c := c) (d := d) (w := W) 200 hs (by omega) (by omega) x1 x2)
  have PR := fun W X Y p q x1 x2 => Lib.hid (g2 ▸ refRight_any X Y n p n q lo hi W an an x1 x2)
  have PZ := fun W X Y p q x1 x2 => Lib.hid (size_at (A := X) (B := Y) (n := n) (c := p) (d := q) (w := W) (R.length : Int) (by rw [← hlo, ← hhi, dims_sets z hx hy, ← hR]; exact prod_rng e1) g2 x1 x2 (by rw [← hR, ← prod_rng e1]; have := prod_small hs (by omega); omega))
  have PH := fun W X Y p q C l e xs x1 x2 x3 (hl : l ≤ maxLen) (h : insB lo hi xs = true) => Lib.hid (h ▸ has_any X Y C n p q l e lo hi xs W an hl g2 x1 x2 x3)
  have hrn : R.length ≤ 100000 := by rw [← hR]; have h1 := prod_small hs (by omega); rw [prod_rng e1] at h1; omega
  have HIN := Lib.hid (fun (j : Nat) p (hp : R[j]? = some p) => show p.length = n ∧ (∃ v, p[k]? = some v ∧ 0 ≤ v ∧ v ≤ 65536) ∧ insB lo hi (moved k z p) = true by
    rw [← hR] at hp
    have hi1 := (rng_next e1 j p hp).2.2
    have hpl := rng_each e1 hp
    have hpn : p.length = n := by rw [hpl, ral.1]
    obtain ⟨v, hv⟩ : ∃ v, p[k]? = some v := ⟨_, List.getElem?_eq_getElem (by omega)⟩
    have hvb := ins_at hi1 hx hy hv
    refine ⟨hpn, ⟨v, hv, by omega, by omega⟩, ?_⟩
    have e : p.getD k 0 = v := by rw [List.getD_eq_getElem?_getD, hv]; rfl
    rw [moved, e, ← hlo, ← hhi]
    exact ins_sets z hi1 hx hy hv)
  have HXX := Lib.hid hx; have HYY := Lib.hid hy; have HKN := Lib.hid hk; have HAN := Lib.hid an
  have HZ := Lib.hid (And.intro hz1 hz2)
  have HLL := Lib.hid (show lo.length = n by rw [← hlo, List.length_set, ral.1])
  clear hs an hb hx hy hxx hyy hz1 hz2 hl hh g1 e1 f1 hlo hhi hR wr1 wr2 g2 hlx hhx hal hah hb1 hb2
  have KA := Lib.hid (kl_one (c := c) (d := d) ral rah a0 a1 24)
  clear ral rah a0 a1
  obtain ⟨kA0, kA1, _⟩ := KA.out.kx.box
  go_enter Try.func5, Try.ntmps5
  go_wp2_with fail
  refine (awake_true _).mono ?_
  rintro e wv ⟨rfl, hb⟩
  have KA := Lib.hid (KA.out.call hb)
  obtain ⟨kA0, kA1, _⟩ := KA.out.kx.box
  clear hb
  go_wp2_with fail
  refine (S1 _ KA.out.kx.lo KA.out.kx.hi).out.mono ?_
  rintro e wv ⟨rfl, hb⟩
  have KA := Lib.hid (KA.out.call hb)
  obtain ⟨kA0, kA1, _⟩ := KA.out.kx.box
  clear hb
  go_wp2_with fail
  refine (P1 _ KA.out.kx.lo KA.out.kx.hi).out.mono ?_
  rintro e wvx ⟨xP, xm, xc, xQ, xd, rfl, x1, x2, hxm, xa, xb, hb⟩
  obtain ⟨Vx, hV⟩ : ∃ V, V = wvx.alloc (.cells #[.slice xP xm xc, .slice xQ xm xd] 27) := ⟨_, rfl⟩
  have hb2 := below_more hb (.cells #[.slice xP xm xc, .slice xQ xm xd] 27)
  rw [← hV] at hb2
  have KX := Lib.hid (show Go.Proofs.Ytaegkiangjnmdaa.laws.KX Vx wvx.heap.size xP xm xc xQ xm xd _ _ by rw [hV]; exact kx_new x1 x2 xa xb _)
  have HMX := Lib.hid (show xm ≤ maxLen by unfold maxLen; omega)
  have KA := Lib.hid (KA.out.call hb2)
  obtain ⟨kA0, kA1, _⟩ := KA.out.kx.box
  clear hb2
  have HV := Lib.hid hV
  clear hb hV x1 x2 hxm xa xb
  obtain ⟨kX0, kX1, _⟩ := KX.out.box
  go_upto_region 4 with fail
  rw [← HV.out]
  obtain rfl : xm = n := by have h1 : lo.length = xm := (by simpa using KX.out.lo.1); rw [← h1, HLL.out]
  have KX := Lib.hid (show Go.Proofs.Ytaegkiangjnmdaa.laws.KX Vx wvx.heap.size xP xm xc xQ xm xd lo hi from KX.out)
  have c1 := KA.out.kx.lo.cell_ HXX.out
  have c2 := KA.out.kx.hi.cell_ HYY.out
  go_upto_region 8 with fail
  clear c1 c2
  go_wp2_with fail
  refine (P2 _ _ _ _ _ KX.out.lo KX.out.hi KX.out.a0 KX.out.b0).out.mono ?_
  rintro e wvy ⟨yP, ym, yc, yQ, yd, rfl, x1, x2, hxm, xa, xb, hb⟩
  obtain ⟨Vy, hV⟩ : ∃ V, V = wvy.alloc (.cells #[.slice yP ym yc, .slice yQ ym yd] 27) := ⟨_, rfl⟩
  have hb2 := below_more hb (.cells #[.slice yP ym yc, .slice yQ ym yd] 27)
  rw [← hV] at hb2
  have KY := Lib.hid (show Go.Proofs.Ytaegkiangjnmdaa.laws.KX Vy wvy.heap.size yP ym yc yQ ym yd _ _ by rw [hV]; exact kx_new x1 x2 xa xb _)
  have HMY := Lib.hid (show ym ≤ maxLen by unfold maxLen; omega)
  have KA := Lib.hid (KA.out.call hb2)
  have KX := Lib.hid (KX.out.below hb2)
  obtain ⟨kA0, kA1, _⟩ := KA.out.kx.box; obtain ⟨kX0, kX1, _⟩ := KX.out.box
  clear hb2
  have HV := Lib.hid hV
  clear hb hV x1 x2 hxm xa xb
  obtain ⟨kY0, kY1, _⟩ := KY.out.box
  go_upto_region 9 with fail
  rw [← HV.out]
  go_wp2_with fail
  refine (same_at (lo := al) (hi := ah) true (same_refl al ah) HMY.out HMY.out HAN.out HAN.out KY.out.lo KY.out.hi KA.out.kx.lo KA.out.kx.hi).mono ?_
  rintro e wv ⟨rfl, hb⟩
  have KA := Lib.hid (KA.out.call hb)
  have KX := Lib.hid (KX.out.below hb)
  have KY := Lib.hid (KY.out.below hb)
  obtain ⟨kA0, kA1, _⟩ := KA.out.kx.box; obtain ⟨kX0, kX1, _⟩ := KX.out.box; obtain ⟨kY0, kY1, _⟩ := KY.out.box
  clear hb
  go_wp2_with fail
  refine (PR _ _ _ _ _ KX.out.lo KX.out.hi).out.mono ?_
  rintro e wb ⟨rfl, hb⟩
  have KA := Lib.hid (KA.out.call hb)
  have KX := Lib.hid (KX.out.below hb)
  have KY := Lib.hid (KY.out.below hb)
  obtain ⟨kA0, kA1, _⟩ := KA.out.kx.box; obtain ⟨kX0, kX1, _⟩ := KX.out.box; obtain ⟨kY0, kY1, _⟩ := KY.out.box
  clear hb
  go_wp2_with fail
  refine (PC _ KA.out.kx.lo KA.out.kx.hi).out.mono ?_
  rintro e wc ⟨Q, C, rfl, hom, -, -, -, hbc⟩
  have HST := Lib.hid (show OwnM wc wb.heap.size (.slice Q R.length C) (mixF k z R 0) by simpa [mixF] using hom)
  have HBC := Lib.hid hbc
  clear hom hbc kA0 kA1 kX0 kX1 kY0 kY1
  go_wp2_with fail
  go_loopw [12] (fun i wr => ∃ j : Nat, j ≤ R.length ∧ i = .int .i64 j ∧ Hid (OwnM wr wb.heap.size (.slice Q R.length C) (mixF k z R j)) ∧ Hid (Below wb.heap.size wb wr)) (fun i _ => R.length - (intOf i).toNat)
  case atStart => exact ⟨0, Nat.zero_le _, rfl, HST, HBC⟩
  case round =>
    obtain ⟨j, hj, rfl, HO, HBL⟩ := hrel
    by_cases hlt : j < R.length
    · obtain ⟨p, hp⟩ : ∃ p, R[j]? = some p := ⟨_, List.getElem?_eq_getElem hlt⟩
      obtain ⟨hpn, ⟨v, hv, hv0, hv1⟩, hin⟩ := HIN.out j p hp
      obtain ⟨gv, u, hQ, hcu, hou⟩ := OwnM.at_ HO.out (mixF_at hp)
      obtain ⟨g, cap, rfl, hgB, _⟩ := World.ownsRow.form hou (by have := HKN.out; omega)
      subst hQ
      have hcy := hou.cellAt hv
      have hfz := hou.frozenAt k
      have hset := OwnM.set_ (i := k) (y := v + z) HO.out (mixF_at hp) hcu
      have hmv : p.set k (v + z) = moved k z p := by rw [moved, List.getD_eq_getElem?_getD, hv]; rfl
      rw [hmv, mixF_step hp] at hset
      rw [hpn] at hcu
      have hB4 : Below wb.heap.size wb (wr.setCell ⟨g, k, none⟩ (.int .i64 (v + z))) := HBL.out.setCell hgB _
      have HSET := Lib.hid hset
      have HB4 := Lib.hid hB4
      have HLT := Lib.hid hlt
      have HP := Lib.hid hp; have HHI := Lib.hid hin; have HML := Lib.hid (show (moved k z p).length = xm by rw [moved, List.length_set, hpn])
      have hi1 : (j : Int) < (R.length : Int) := by omega
      have hw1 : IntKind.i64.wrap (v + z) = v + z := wrap_in (by have := HZ.out; omega) (by have := HZ.out; omega)
      clear hset hB4 hp hin hou hgB hv hv0 hv1 hpn hmv
      go_wp2_with fail
      go_still_tail 15, (by kernel_rfl)
      have hcd : wr.drew.cell? ⟨g, k, none⟩ = some (.int .i64 v) := hcy
      have hfd : wr.drew.frozen? ⟨g, k, none⟩ = false := hfz
      have HSD := Lib.hid (show OwnM (wr.drew.setCell ⟨g, k, none⟩ (.int .i64 (v + z))) wb.heap.size (.slice (some ⟨gv, 0, none⟩) R.length C) (mixF k z R (j + 1)) from HSET.out.below (below_drewN (Below.refl _ _) 1))
      have HBD := Lib.hid (show Below wb.heap.size wb (wr.drew.setCell ⟨g, k, none⟩ (.int .i64 (v + z))) from below_drewN HB4.out 1)
      change wpList _ _ _ _ _ wr.drew
      generalize wr.drew = w4 at *
      clear hcu hcy hw1
      obtain ⟨w5, hw5⟩ : ∃ w5, w5 = w4.setCell ⟨g, k, none⟩ (.int .i64 (v + z)) := ⟨_, rfl⟩
      rw [← hw5] at HSD HBD
      have HW5 := Lib.hid hw5
      clear hw5
      go_upto_region 16 with fail
      rw [← HW5.out]
      clear hcd hfd
      have KX5 := Lib.hid (KX.out.below HBD.out)
      obtain ⟨y0, y1, _⟩ := KX5.out.box
      obtain ⟨gv2, u2, hQ2, hcu2, hou2⟩ := OwnM.at_ HSD.out (mixF_done HP.out)
      obtain rfl : gv = gv2 := by injection hQ2 with hQ2; injection hQ2
      obtain ⟨g2, cap2, rfl, hgB2, _⟩ := World.ownsRow.form hou2 (by have := HKN.out; have := HML.out; omega)
      rw [HML.out] at hcu2
      have HRD := Lib.hid (show Rd w5 (some ⟨g2, 0, none⟩) xm (moved k z p) by have := hou2.rd; rw [HML.out] at this; exact this)
      have HKC := Lib.hid (fun V (h : Below w5.heap.size w5 V) => And.intro (KX5.out.box.below h) (h.cell (p := ⟨gv, j, none⟩) (cell_lt hcu2) |>.trans hcu2))
      have HKV := Lib.hid (Below.refl w5.heap.size w5)
      clear hQ2 hou2 hgB2
      go_region_held3 (fun w' => w'.cell? ⟨wvx.heap.size, 0, none⟩ = some (.slice xP xm xc) ∧ w'.cell? ⟨wvx.heap.size, 1, none⟩ = some (.slice xQ xm xd) ∧ w'.cell? ⟨gv, j, none⟩ = some (.slice (some ⟨g2, 0, none⟩) xm cap2)) (go_keep)
        ((go_at_call 16; refine (PH _ _ _ _ _ _ _ _ _ (KX5.out.lo.below (by repeat (first | exact HKV.out | refine below_more ?_ _ | refine Below.drew ?_))) (KX5.out.hi.below (by repeat (first | exact HKV.out | refine below_more ?_ _ | refine Below.drew ?_))) (HRD.out.below (by repeat (first | exact HKV.out | refine below_more ?_ _ | refine Below.drew ?_))) HAN.out HHI.out).out.mono ?_
          rintro e vv ⟨rfl, h3⟩
          have HKV := Lib.hid (below_step (W := w5) (by repeat (first | exact HKV.out | refine below_more ?_ _ | refine Below.drew ?_)) h3)
          obtain ⟨⟨z1, z2, _⟩, z3⟩ := HKC.out _ HKV.out
          clear h3))
      all_goals
        have HO6 := Lib.hid (HSD.out.below HKV.out)
        have HB6 := Lib.hid (HBD.out.trans (HKV.out.mono HBD.out.size))
        go_wp2_with fail
        go_roundw
        case rel => exact ⟨j + 1, by have := HLT.out; omega, by go_num, HO6, HB6⟩
        case measure => have hlt := HLT.out; first | (simp [intOf]; done) | (simp [intOf]; omega)
    · obtain rfl : j = R.length := by omega
      have KXE := Lib.hid (KX.out.below HBL.out)
      have HAE := Lib.hid (below_step KA.out.aft HBL.out)
      obtain ⟨y0, y1, _⟩ := KXE.out.box
      go_wp2_with fail
      refine (PZ _ _ _ _ _ KXE.out.lo KXE.out.hi).out.mono ?_
      rintro e wz ⟨rfl, hbz⟩
      have HAZ := Lib.hid (below_step HAE.out hbz)
      clear hbz
      go_wp2_with fail
      go_ret
      first
        | exact ⟨rfl, HAZ.out⟩
        | exact ⟨by simp, HAZ.out⟩

theorem walk_BoxShifts (A B : Option Addr) (n c m d : Nat) (i z : Int) (al ah : List Int) (w : World) (hal : In w A n c al) (hah : In w B m d ah) (hz : -9223372036854775808 ≤ z ∧ z ≤ 9223372036854775807) :
    Calls Try.prog 5 #[.agg #[.slice A n c, .slice B m d], .int .i64 i, .int .i64 z] w (HoldsX w) := by
  cases hs : smallB al ah 200
  · exact shifts_wrong A B n c m d i z al ah w hal.rd hah.rd hal.none_ hah.none_ hal.len hah.len hs
  · obtain ⟨g1, e1, f1, -, -⟩ := small_out hs
    obtain rfl : n = m := by have := hal.rd.1; have := hah.rd.1; omega
    by_cases hi : i < 0 ∨ (n : Int) ≤ i
    · exact shifts_no1 A B n c d i z al ah w hal.rd hah.rd hal.none_ hah.none_ hs (fun W x1 x2 => Lib.hid (shift_out A B n c d al ah i z W g1 x1 x2 hi)) (by omega)
    · obtain ⟨k, rfl⟩ : ∃ k : Nat, i = (k : Int) := ⟨i.toNat, by omega⟩
      have hk : k < n := by omega
      obtain ⟨x, hx⟩ : ∃ x, al[k]? = some x := ⟨_, List.getElem?_eq_getElem (by rw [hal.rd.1]; exact hk)⟩
      obtain ⟨y, hy⟩ : ∃ y, ah[k]? = some y := ⟨_, List.getElem?_eq_getElem (by rw [hah.rd.1]; exact hk)⟩
      by_cases hf : 65536 < z ∨ z < -65536 ∨ x + z < 0 ∨ 65536 < y + z
      · have hS : ∀ W, Rd W A n al → Rd W B n ah → Hid (Calls Try.prog 20 #[.agg #[.slice A n c, .slice B n d], .int .i64 (k : Int), .int .i64 z] W (NoX W)) := fun W x1 x2 =>
          Lib.hid ((shift_in A B n c d k al ah x y z W g1 hk x1 x2 hal.none_ hah.none_ hx hy).mono fun e w' h => by rw [ShiftsTo, if_neg (by rw [far_no g1 hx hy hz hf]; simp)] at h; exact h)
        by_cases hz2 : 65536 < z ∨ z < -65536
        · exact shifts_no1 A B n c d k z al ah w hal.rd hah.rd hal.none_ hah.none_ hs hS (by omega)
        · exact shifts_no2 A B n c d k z x y al ah w hal.rd hah.rd hal.none_ hah.none_ hs hk hx hy (by omega) (by omega) hS (by omega)
      · exact shifts_yes A B n c d k z x y al ah w hal.rd hah.rd hal.none_ hah.none_ hs hk hx hy (by omega) (by omega) (by omega) (by omega)
end Go.Proofs.Ytaegkiangjnmdaa.laws
