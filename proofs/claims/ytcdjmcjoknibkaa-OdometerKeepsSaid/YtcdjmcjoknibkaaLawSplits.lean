/- The walk of OdometerSplits. -/
import Derived.Test.YtcdjmcjoknibkaaOdoAwake
import Derived.Deep.CutBlock
namespace Go.Proofs.Ytcdjmcjoknibkaa.laws
open Go.ChangeShapes Go.WideShapes Go.ChangeAt Go.RowKit Go.Proofs.Ytcdjmcjoknibkaa.mem Go.Proofs.Ytcdjmcjoknibkaa.shp Go.Proofs.Ytcdjmcjoknibkaa.eql Go.Proofs.Ytcdjmcjoknibkaa.strd Go.Proofs.Ytcdjmcjoknibkaa.gam Go.Proofs.Ytcdjmcjoknibkaa.sml Go.Proofs.Ytcdjmcjoknibkaa.all Go.Proofs.Ytcdjmcjoknibkaa.odo
set_option linter.unusedVariables false

theorem prodL_set : ∀ {ds : List Int} {k : Nat} {d : Int} (y : Int), ds[k]? = some d → prodL (ds.set k y) = prodL (ds.set k 1) * y
  | [], k, d, y, h => by simp at h
  | x :: xs, 0, d, y, h => by
    show prodL xs * y = prodL xs * 1 * y
    rw [Int.mul_one]
  | x :: xs, k + 1, d, y, h => by
    have ih := prodL_set (ds := xs) (k := k) (d := d) y (by simpa using h)
    show prodL (xs.set k y) * x = prodL (xs.set k 1) * x * y
    rw [ih, Int.mul_assoc, Int.mul_assoc, Int.mul_comm x y]
theorem prodL_self {ds : List Int} {k : Nat} {d : Int} (h : ds[k]? = some d) : prodL ds = prodL (ds.set k 1) * d := by
  rw [← prodL_set d h]
  obtain ⟨hl, rfl⟩ := List.getElem?_eq_some_iff.1 h
  rw [List.set_getElem_self]
theorem dims_set_hi : ∀ {lo hi : List Int} {k : Nat} {a : Int} (y : Int), lo[k]? = some a → dimsL lo (hi.set k y) = (dimsL lo hi).set k (max (y - a) 0)
  | [], _, k, a, y, h => by simp at h
  | x :: xs, [], k, a, y, h => by simp [dimsL]
  | x :: xs, z :: zs, 0, a, y, h => by
    simp at h
    subst h
    rfl
  | x :: xs, z :: zs, k + 1, a, y, h => by
    have ih := dims_set_hi (lo := xs) (hi := zs) (k := k) (a := a) y (by simpa using h)
    show max (z - x) 0 :: dimsL xs (zs.set k y) = max (z - x) 0 :: (dimsL xs zs).set k _
    rw [ih]
theorem dims_set_lo : ∀ {lo hi : List Int} {k : Nat} {b : Int} (y : Int), hi[k]? = some b → dimsL (lo.set k y) hi = (dimsL lo hi).set k (max (b - y) 0)
  | [], _, k, b, y, h => by simp [dimsL]
  | x :: xs, [], k, b, y, h => by simp at h
  | x :: xs, z :: zs, 0, b, y, h => by
    simp at h
    subst h
    rfl
  | x :: xs, z :: zs, k + 1, b, y, h => by
    have ih := dims_set_lo (lo := xs) (hi := zs) (k := k) (b := b) y (by simpa using h)
    show max (z - x) 0 :: dimsL (xs.set k y) zs = max (z - x) 0 :: (dimsL xs zs).set k _
    rw [ih]
/-- The indices of the parts of a range are as many as those of the range. -/
theorem split_sum {lo hi : List Int} {k : Nat} {a b y : Int} (ha : lo[k]? = some a) (hb : hi[k]? = some b) (h1 : a ≤ y) (h2 : y ≤ b) :
    prodL (dimsL lo (hi.set k y)) + prodL (dimsL (lo.set k y) hi) = prodL (dimsL lo hi) ∧ 0 ≤ prodL (dimsL lo (hi.set k y)) ∧ 0 ≤ prodL (dimsL (lo.set k y) hi) := by
  have hd := dims_at ha hb
  refine ⟨?_, (prodL_max dims_nonneg).1, (prodL_max dims_nonneg).1⟩
  rw [dims_set_hi y ha, dims_set_lo y hb, prodL_set (max (y - a) 0) hd, prodL_set (max (b - y) 0) hd, prodL_self hd, ← Int.mul_add]
  congr 1
  omega
theorem set_bound {M y : Int} {xs : List Int} {k : Nat} (h : ∀ x ∈ xs, -M ≤ x ∧ x ≤ M) (hy : -M ≤ y ∧ y ≤ M) : ∀ x ∈ xs.set k y, -M ≤ x ∧ x ≤ M := by
  intro x hx
  rcases List.mem_or_eq_of_mem_set hx with h1 | h1
  · exact h x h1
  · rw [h1]; exact hy

/-- Few, its draws left open. -/
theorem few_says {A B : Option Addr} {n m c d : Nat} {lo hi : List Int} {most : Int} {w : World} (r : Bool) (hr : fewB lo hi most = r) (hn : n ≤ maxLen) (hm : m ≤ maxLen) (ha : Rd w A n lo) (hb : Rd w B m hi) (hm1 : 1 ≤ most) (hm2 : most ≤ 1000) :
    Calls Try.prog 8 #[.slice A n c, .slice B m d, .int .i64 most] w (Says w r) := by
  subst hr
  refine (few_any A B n m c d lo hi most w hn hm ha hb hm1 hm2).mono ?_
  rintro e w' ⟨rfl, q, rfl⟩
  exact ⟨rfl, below_drewN (Below.refl _ _) q⟩

set_option maxHeartbeats 1000000 in
theorem splits_wrong (A B : Option Addr) (n m c d x : Nat) (lo hi : List Int) (y : Int) (w : World) (hx : In w A n c lo) (hy : In w B m d hi) (hx8 : x ≤ 255) (h : fewB lo hi 300 = false) :
    Calls Try.prog 6 #[.slice A n c, .slice B m d, .int .u8 (x : Int), .int .i64 y] w (Holds w) := by
  have PF := fun W h1 h2 => Lib.hid (few_says (A := A) (B := B) (n := n) (m := m) (c := c) (d := d) (w := W) false h hx.len hy.len h1 h2 (by omega) (by omega))
  have HX := Lib.hid hx.rd; have HY := Lib.hid hy.rd
  clear hx hy h
  go_enter Try.func6, Try.ntmps6
  go_wp2_with fail
  refine (awake_true _).mono ?_
  rintro e w1 ⟨rfl, hb⟩
  have T1 := Lib.hid ((Aft.refl w).call hb)
  clear hb
  go_wp2_with fail
  refine (PF _ (T1.out.rd HX.out) (T1.out.rd HY.out)).out.mono ?_
  rintro e w2 ⟨rfl, hb⟩
  have T2 := Lib.hid (T1.out.call hb)
  clear hb
  go_wp2_with fail
  refine (awake_true _).mono ?_
  rintro e w3 ⟨rfl, hb⟩
  have T3 := Lib.hid (T2.out.call hb)
  clear hb
  go_wp2_with fail
  go_ret
  exact ⟨rfl, T3.out⟩

set_option maxHeartbeats 1000000 in
theorem splits_none (A B : Option Addr) (m c d x : Nat) (lo hi : List Int) (y : Int) (w : World) (hx : In w A 0 c lo) (hy : In w B m d hi) (hx8 : x ≤ 255) (h : fewB lo hi 300 = true) :
    Calls Try.prog 6 #[.slice A 0 c, .slice B m d, .int .u8 (x : Int), .int .i64 y] w (Holds w) := by
  have PF := fun W h1 h2 => Lib.hid (few_says (A := A) (B := B) (n := 0) (m := m) (c := c) (d := d) (w := W) true h hx.len hy.len h1 h2 (by omega) (by omega))
  have HX := Lib.hid hx.rd; have HY := Lib.hid hy.rd
  clear hx hy h
  go_enter Try.func6, Try.ntmps6
  go_wp2_with fail
  refine (awake_true _).mono ?_
  rintro e w1 ⟨rfl, hb⟩
  have T1 := Lib.hid ((Aft.refl w).call hb)
  clear hb
  go_wp2_with fail
  refine (PF _ (T1.out.rd HX.out) (T1.out.rd HY.out)).out.mono ?_
  rintro e w2 ⟨rfl, hb⟩
  have T2 := Lib.hid (T1.out.call hb)
  clear hb
  go_wp2_with fail
  refine (awake_true _).mono ?_
  rintro e w3 ⟨rfl, hb⟩
  have T3 := Lib.hid (T2.out.call hb)
  clear hb
  go_wp2_with fail
  go_ret
  exact ⟨rfl, T3.out⟩

set_option maxHeartbeats 4000000 in
set_option maxRecDepth 100000 in
theorem splits_right (A B : Option Addr) (n m c d x : Nat) (lo hi : List Int) (y : Int) (w : World) (hx : In w A n c lo) (hy : In w B m d hi) (hx8 : x ≤ 255) (hn0 : 0 < n) (h : fewB lo hi 300 = true) :
    Calls Try.prog 6 #[.slice A n c, .slice B m d, .int .u8 (x : Int), .int .i64 y] w (Holds w) := by
  have PF := fun W h1 h2 => Lib.hid (few_says (A := A) (B := B) (n := n) (m := m) (c := c) (d := d) (w := W) true h hx.len hy.len h1 h2 (by omega) (by omega))
  obtain ⟨hll, hl5, hla, hlb, hmany⟩ := few_out h
  obtain rfl : n = m := by rw [← hx.rd.1, ← hy.rd.1]; exact hll
  have hn5 : n ≤ 5 := by rw [← hx.rd.1]; exact hl5
  have hD : prodL (dimsL lo hi) ≤ 30000 := by
    have h1 := (prodL_max (xs := dimsL lo hi) dims_nonneg).2
    omega
  obtain ⟨k, hk⟩ : ∃ k, k = x % n := ⟨_, rfl⟩
  have hkn : k < n := by rw [hk]; exact Nat.mod_lt _ hn0
  have hem : (x : Int) % (n : Int) = (k : Int) := by rw [hk]; simp
  have htm : (x : Int).tmod (n : Int) = (k : Int) := by rw [Int.tmod_eq_emod_of_nonneg (by omega)]; exact hem
  have hcA := hx.none_
  have hcB := hy.none_
  obtain ⟨adA, a, rfl, hka, hca⟩ := hx.rd.at_ hkn
  obtain ⟨adB, b, rfl, hkb, hcb⟩ := hy.rd.at_ hkn
  have hab := hla a (mem_at hka)
  have hbb := hlb b (mem_at hkb)
  have HX := Lib.hid hx.rd; have HY := Lib.hid hy.rd; have HKA := Lib.hid hka; have HKB := Lib.hid hkb
  have HLA := Lib.hid hla; have HLB := Lib.hid hlb
  have HLE := Lib.hid (And.intro hx.len hy.len)
  clear hx hy h hmany hll hl5 hla hlb hk hka hkb hca hcb
  go_enter Try.func6, Try.ntmps6
  go_wp2_with fail
  refine (awake_true _).mono ?_
  rintro e w1 ⟨rfl, hb⟩
  have T1 := Lib.hid ((Aft.refl w).call hb)
  clear hb
  go_wp2_with fail
  refine (PF _ (T1.out.rd HX.out) (T1.out.rd HY.out)).out.mono ?_
  rintro e w2 ⟨rfl, hb⟩
  have T2 := Lib.hid (T1.out.call hb)
  clear hb
  have hca := (T2.out.rd HX.out).cell_ HKA.out
  have hcb := (T2.out.rd HY.out).cell_ HKB.out
  have hnz : ¬ (n : Int) = 0 := by omega
  by_cases h1 : y < a
  · go_wp2_with fail
    go_ret
    exact ⟨rfl, T2.out⟩
  by_cases h2 : b < y
  · go_wp2_with fail
    go_ret
    exact ⟨rfl, T2.out⟩
  have ha1 := hab.1
  have ha2 := hab.2
  have hb1 := hbb.1
  have hb2 := hbb.2
  have hsum := split_sum HKA.out HKB.out (show a ≤ y by omega) (show y ≤ b by omega)
  have HSUM := Lib.hid hsum
  have hl1 : lo.length = (hi.set k y).length := by rw [List.length_set, HX.out.1, HY.out.1]
  have hl2 : (lo.set k y).length = hi.length := by rw [List.length_set, HX.out.1, HY.out.1]
  have HN1 := Lib.hid (rng_len hl1); have HN2 := Lib.hid (rng_len hl2); have HN3 := Lib.hid (rng_len (show lo.length = hi.length by rw [HX.out.1, HY.out.1]))
  have HLA2 := Lib.hid (fun x hx => show -4294967296 ≤ x ∧ x ≤ 4294967296 by have := HLA.out x hx; omega)
  have HLB2 := Lib.hid (fun x hx => show -4294967296 ≤ x ∧ x ≤ 4294967296 by have := HLB.out x hx; omega)
  have HSA := Lib.hid (set_bound (k := k) (y := y) HLA2.out (by omega))
  have HSB := Lib.hid (set_bound (k := k) (y := y) HLB2.out (by omega))
  have HH := Lib.hid (And.intro h1 h2)
  have HCA := Lib.hid hcA; have HCB := Lib.hid hcB
  have HD := Lib.hid hD
  have HX2 := Lib.hid ((T2.out.rd HX.out)); have HY2 := Lib.hid ((T2.out.rd HY.out))
  have HE1 := Lib.hid (own_empty w2)
  have HM1 := Lib.hid ((Below.refl w2.heap.size w2).alloc (Nat.le_refl _) (.cells #[] 3))
  have HS1 := Lib.hid (show w2.heap.size ≤ (w2.alloc (.cells #[] 3)).heap.size by simp)
  have HL1 := Lib.hid (show ([] : List Int).length + n ≤ 1099511627776 by simp; omega)
  have HR1 := Lib.hid (HY2.out.below HM1.out)
  clear hsum hl1 hl2 hcA hcB hD hab hbb
  have HPA := Lib.hid (show 0 < lo.length by rw [HX.out.1]; exact hn0)
  have HPB := Lib.hid (show 0 < hi.length by rw [HY.out.1]; exact hn0)
  go_upto_region 7 with (at_builtin; refine wpList_append rfl (.tmp 45) (.tmp 46) rfl _ _ [] rfl HE1.out _ _ _ hi rfl HR1.out HCB.out HL1.out HS1.out ?_; intro v4 w4 ho4 hg4 _; obtain ⟨g4, e4, hv4, hge4, _⟩ := World.ownsRow.form ho4 HPB.out; rw [show ([] ++ hi : List Int).length = n from HY.out.1] at hv4; subst hv4; have HO4 := Lib.hid (show mem.Own w4 w2.heap.size (.slice (some ⟨g4, 0, none⟩) n e4) hi from ho4); have HB4 := Lib.hid (Own.below_grown HM1.out HE1.out hg4 HS1.out); clear ho4 hg4)
  have hcy := HO4.out.cellAt HKB.out
  have hfz := HO4.out.frozenAt k
  obtain ⟨w5, hw5⟩ : ∃ w5, w5 = w4.setCell ⟨g4, k, none⟩ (.int .i64 y) := ⟨_, rfl⟩
  have HO5 := Lib.hid (show mem.Own w5 w2.heap.size (.slice (some ⟨g4, 0, none⟩) n e4) (hi.set k y) by rw [hw5]; exact HO4.out.set_ k y)
  have HB5 := Lib.hid (show Below w2.heap.size w2 w5 by rw [hw5]; exact HB4.out.setCell (p := ⟨g4, k, none⟩) hge4 _)
  have hn4 : (0 : Int) ≤ (k : Int) := by omega
  clear hca hcb hge4 HO4 HB4
  go_upto_region 8 with fail
  rw [← hw5]
  clear hcy hfz hw5
  have HX5 := Lib.hid (HX2.out.below HB5.out)
  have HE6 := Lib.hid (own_empty w5)
  have HM6 := Lib.hid ((Below.refl w5.heap.size w5).alloc (Nat.le_refl _) (.cells #[] 3))
  have HS6 := Lib.hid (show w5.heap.size ≤ (w5.alloc (.cells #[] 3)).heap.size by simp)
  have HR6 := Lib.hid (HX5.out.below HM6.out)
  go_upto_region 9 with (at_builtin; refine wpList_append rfl (.tmp 52) (.tmp 53) rfl _ _ [] rfl HE6.out _ _ _ lo rfl HR6.out HCA.out HL1.out HS6.out ?_; intro v7 w7 ho7 hg7 _; obtain ⟨g7, e7, hv7, hge7, _⟩ := World.ownsRow.form ho7 HPA.out; rw [show ([] ++ lo : List Int).length = n from HX.out.1] at hv7; subst hv7; have HO7 := Lib.hid (show mem.Own w7 w5.heap.size (.slice (some ⟨g7, 0, none⟩) n e7) lo from ho7); have HB7 := Lib.hid (Own.below_grown HM6.out HE6.out hg7 HS6.out); clear ho7 hg7)
  have hcy := HO7.out.cellAt HKA.out
  have hfz := HO7.out.frozenAt k
  obtain ⟨w8, hw8⟩ : ∃ w8, w8 = w7.setCell ⟨g7, k, none⟩ (.int .i64 y) := ⟨_, rfl⟩
  have HO8 := Lib.hid (show mem.Own w8 w5.heap.size (.slice (some ⟨g7, 0, none⟩) n e7) (lo.set k y) by rw [hw8]; exact HO7.out.set_ k y)
  have HB8 := Lib.hid (show Below w5.heap.size w5 w8 by rw [hw8]; exact HB7.out.setCell (p := ⟨g7, k, none⟩) hge7 _)
  clear hge7 HO7 HB7
  go_upto_region 10 with fail
  rw [← hw8]
  clear hcy hfz hw8
  have HT8 := Lib.hid (show Aft w w8 from T2.out.call (HB5.out.trans (HB8.out.mono HB5.out.size)))
  have HXR := Lib.hid (HT8.out.rd HX.out)
  have HYR := Lib.hid (HT8.out.rd HY.out)
  have HAR := Lib.hid (HO5.out.below HB8.out).rd
  have HBR := Lib.hid HO8.out.rd
  obtain ⟨N1, hN1⟩ := Int.eq_ofNat_of_zero_le HSUM.out.2.1
  obtain ⟨N2, hN2⟩ := Int.eq_ofNat_of_zero_le HSUM.out.2.2
  obtain ⟨N3, hN3⟩ := Int.eq_ofNat_of_zero_le (prodL_max (xs := dimsL lo hi) dims_nonneg).1
  have hs := HSUM.out.1
  rw [hN1, hN2, hN3] at hs
  have hd3 := HD.out
  rw [hN3] at hd3
  have hL1 := HN1.out
  have hL2 := HN2.out
  have hL3 := HN3.out
  rw [hN1] at hL1
  rw [hN2] at hL2
  rw [hN3] at hL3
  simp only [Int.toNat_natCast] at hL1 hL2 hL3
  have C1 := Lib.hid (count_at (c := c) (d := e4) (N1 : Int) hN1 (by omega) (by omega) HXR.out HAR.out HLA2.out HSB.out)
  have C2 := Lib.hid (count_at (c := e7) (d := d) (N2 : Int) hN2 (by omega) (by omega) HBR.out HYR.out HSA.out HLB2.out)
  have C3 := Lib.hid (count_at (c := c) (d := d) (N3 : Int) hN3 (by omega) (by omega) HXR.out HYR.out HLA2.out HLB2.out)
  have K1 := fun W (h : Aft w8 W) => Lib.hid (collect_any (some adA) (some ⟨g4, 0, none⟩) n c e4 lo (hi.set k y) W (by omega) (h.rd HXR.out) (h.rd HAR.out) HCA.out (fun h => by cases h) HLA2.out HSB.out (by omega))
  have K2 := fun W (h : Aft w8 W) => Lib.hid (collect_any (some ⟨g7, 0, none⟩) (some adB) n e7 d (lo.set k y) hi W (by omega) (h.rd HBR.out) (h.rd HYR.out) (fun h => by cases h) HCB.out HSA.out HLB2.out (by omega))
  have K3 := fun W (h : Aft w8 W) => Lib.hid (collect_any (some adA) (some adB) n c d lo hi W (by omega) (h.rd HXR.out) (h.rd HYR.out) HCA.out HCB.out HLA2.out HLB2.out (by omega))
  have HL1' := Lib.hid hL1; have HL2' := Lib.hid hL2; have HL3' := Lib.hid hL3
  have hq : ((N1 : Int) + (N2 : Int) == (N3 : Int)) = true := by rw [hs]; simp
  have hb1' : N1 ≤ 30000 := by omega
  have hb2' : N2 ≤ 30000 := by omega
  clear hL1 hL2 hL3 hN1 hN2 hN3 hs hd3
  go_wp2_with fail
  refine C1.out.mono ?_
  rintro e w' ⟨rfl, rfl⟩
  go_wp2_with fail
  refine C2.out.mono ?_
  rintro e w' ⟨rfl, rfl⟩
  go_wp2_with fail
  refine C3.out.mono ?_
  rintro e w' ⟨rfl, rfl⟩
  go_wp2_with fail
  refine (K1 _ (Aft.refl _)).out.mono ?_
  rintro e w9 ⟨Q1, D1, rfl, _, _, _, _, hb9⟩
  rw [HL1'.out]
  have U9 := Lib.hid ((Aft.refl w8).call hb9)
  clear hb9
  go_wp2_with fail
  refine (K2 _ U9.out).out.mono ?_
  rintro e w10 ⟨Q2, D2, rfl, _, _, _, _, hb10⟩
  rw [HL2'.out]
  have U10 := Lib.hid (U9.out.call hb10)
  clear hb10
  go_wp2_with fail
  refine (K3 _ U10.out).out.mono ?_
  rintro e w11 ⟨Q3, D3, rfl, _, _, _, _, hb11⟩
  rw [HL3'.out]
  have U11 := Lib.hid (U10.out.call hb11)
  clear hb11
  go_wp2_with fail
  go_ret
  exact ⟨rfl, HT8.out.call U11.out⟩

theorem walk_OdometerSplits (A B : Option Addr) (n m c d : Nat) (lo hi : List Int) (ax y : Int) (w : World) (hx : In w A n c lo) (hy : In w B m d hi) (hax : 0 ≤ ax ∧ ax ≤ 255) :
    Calls Try.prog 6 #[.slice A n c, .slice B m d, .int .u8 ax, .int .i64 y] w (Holds w) := by
  obtain ⟨x, rfl⟩ := Int.eq_ofNat_of_zero_le hax.1
  have hx8 : x ≤ 255 := by omega
  cases h : fewB lo hi 300
  · exact splits_wrong A B n m c d x lo hi y w hx hy hx8 h
  · rcases Nat.eq_zero_or_pos n with rfl | h0
    · exact splits_none A B m c d x lo hi y w hx hy hx8 h
    · exact splits_right A B n m c d x lo hi y w hx hy hx8 h0 h
end Go.Proofs.Ytcdjmcjoknibkaa.laws
