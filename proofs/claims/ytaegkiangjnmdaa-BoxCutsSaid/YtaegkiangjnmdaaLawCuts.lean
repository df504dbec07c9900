/- The law BoxCuts. -/
import Derived.Test.YtaegkiangjnmdaaBoxBoth
import Derived.Deep.RegionHeld3
namespace Go.Proofs.Ytaegkiangjnmdaa.laws
open Go.ChangeShapes Go.WideShapes Go.ChangeAt Go.RowKit Go.Proofs.Ytaegkiangjnmdaa.mem Go.Proofs.Ytaegkiangjnmdaa.prod Go.Proofs.Ytaegkiangjnmdaa.shp Go.Proofs.Ytaegkiangjnmdaa.strd Go.Proofs.Ytaegkiangjnmdaa.gam Go.Proofs.Ytaegkiangjnmdaa.sml Go.Proofs.Ytaegkiangjnmdaa.all Go.Proofs.Ytaegkiangjnmdaa.odo Go.Proofs.Ytaegkiangjnmdaa.eql Go.Proofs.Ytaegkiangjnmdaa.arr Go.Proofs.Ytaegkiangjnmdaa.bx
set_option linter.unusedVariables false

theorem sumN_step {l : List Nat} {k x : Nat} (h : l[k]? = some x) : (l.take (k + 1)).sum = (l.take k).sum + x := by
  rw [take_snoc h, List.sum_append]
  simp
theorem sumN_le (l : List Nat) (k : Nat) : (l.take k).sum ≤ l.sum := by
  have h : l.sum = (l.take k).sum + (l.drop k).sum := by rw [← List.sum_append, List.take_append_drop]
  omega
theorem sumN_len : ∀ {l : List Nat}, (∀ x ∈ l, x ≤ 1) → l.sum ≤ l.length
  | [], _ => by simp
  | a :: l, h => by
    have h1 := h a (by simp)
    have h2 := sumN_len (l := l) fun x hx => h x (by simp [hx])
    simp only [List.sum_cons, List.length_cons]
    omega
theorem cnt_step {f : Bx → Bool} {L : List Bx} {k : Nat} {p : Bx} (h : L[k]? = some p) : (L.take (k + 1)).countP f = (L.take k).countP f + (if f p = true then 1 else 0) := by
  rw [take_snoc h, List.countP_append, List.countP_cons, List.countP_nil]
  simp
set_option maxHeartbeats 4000000 in
set_option maxRecDepth 100000 in
theorem cuts_wrong (A B A' B' : Option Addr) (n c m d n' c' m' d' : Nat) (al ah bl bh : List Int) (w : World) (ral : Rd w A n al) (rah : Rd w B m ah) (a0 : A = none → c = 0) (a1 : B = none → d = 0) (rbl : Rd w A' n' bl) (rbh : Rd w B' m' bh) (b0 : A' = none → c' = 0) (b1 : B' = none → d' = 0) (an : n ≤ maxLen) (am : m ≤ maxLen) (bn : n' ≤ maxLen) (bm : m' ≤ maxLen) (hs : ¬ (smallB al ah 200 = true ∧ smallB bl bh 200 = true)) :
    Calls Try.prog 4 #[.agg #[.slice A n c, .slice B m d], .agg #[.slice A' n' c', .slice B' m' d']] w (HoldsX w) := by
  have P1 := fun W h1 h2 => Lib.hid (refSmall_any A B n c m d al ah 200 W an am h1 h2 (by omega) (by omega))
  have P2 := fun W h1 h2 => Lib.hid (refSmall_any A' B' n' c' m' d' bl bh 200 W bn bm h1 h2 (by omega) (by omega))
  clear an am bn bm
  generalize smallB al ah 200 = s1 at *
  generalize smallB bl bh 200 = s2 at *
  obtain ⟨W, hW⟩ : ∃ W, W = (w.alloc (.cells #[.slice A n c, .slice B m d] 24)).alloc (.cells #[.slice A' n' c', .slice B' m' d'] 24) := ⟨_, rfl⟩
  obtain ⟨q1, q2⟩ := kl_two hW ral rah a0 a1 rbl rbh b0 b1
  have KA := Lib.hid q1; have KB := Lib.hid q2
  have HW := Lib.hid hW
  clear hW q1 q2 ral rah a0 a1 rbl rbh b0 b1
  obtain ⟨kA0, kA1, _⟩ := KA.out.kx.box; obtain ⟨kB0, kB1, _⟩ := KB.out.kx.box
  go_enter Try.func4, Try.ntmps4
  go_wp2_with fail
  rw [← HW.out]
  refine (awake_true _).mono ?_
  rintro e wv ⟨rfl, hb⟩
  have KA := Lib.hid (KA.out.call hb)
  have KB := Lib.hid (KB.out.call hb)
  obtain ⟨kA0, kA1, _⟩ := KA.out.kx.box; obtain ⟨kB0, kB1, _⟩ := KB.out.kx.box
  clear hb
  cases s1
  rotate_left
  cases s2
  rotate_left
  · exact absurd ⟨rfl, rfl⟩ hs
  all_goals
    clear hs
    go_wp2_with (first
      | (go_at_call 7; refine (awake_true _).mono ?_
         rintro e wv ⟨rfl, hb⟩
         have KA := Lib.hid (KA.out.call hb)
         have KB := Lib.hid (KB.out.call hb)
         obtain ⟨kA0, kA1, _⟩ := KA.out.kx.box; obtain ⟨kB0, kB1, _⟩ := KB.out.kx.box
         clear hb)
      | (go_at_call 10; with_reducible refine (P1 _ KA.out.kx.lo KA.out.kx.hi).out.mono ?_
         rintro e wv ⟨rfl, hb⟩
         have KA := Lib.hid (KA.out.call hb)
         have KB := Lib.hid (KB.out.call hb)
         obtain ⟨kA0, kA1, _⟩ := KA.out.kx.box; obtain ⟨kB0, kB1, _⟩ := KB.out.kx.box
         clear hb)
      | (go_at_call 10; with_reducible refine (P2 _ KB.out.kx.lo KB.out.kx.hi).out.mono ?_
         rintro e wv ⟨rfl, hb⟩
         have KA := Lib.hid (KA.out.call hb)
         have KB := Lib.hid (KB.out.call hb)
         obtain ⟨kA0, kA1, _⟩ := KA.out.kx.box; obtain ⟨kB0, kB1, _⟩ := KB.out.kx.box
         clear hb))
    go_ret
    exact ⟨rfl, KA.out.aft⟩

set_option maxHeartbeats 16000000 in
set_option maxRecDepth 100000 in
theorem cuts_right (A B A' B' : Option Addr) (n c d n' c' d' : Nat) (al ah bl bh : List Int) (w : World) (ral : Rd w A n al) (rah : Rd w B n ah) (a0 : A = none → c = 0) (a1 : B = none → d = 0) (rbl : Rd w A' n' bl) (rbh : Rd w B' n' bh) (b0 : A' = none → c' = 0) (b1 : B' = none → d' = 0)
    (hnc : n ≤ c) (hcm : c ≤ maxLen) (hnd : n ≤ d) (hdm : d ≤ maxLen) (h1 : smallB al ah 200 = true) (h2 : smallB bl bh 200 = true) :
    Calls Try.prog 4 #[.agg #[.slice A n c, .slice B n d], .agg #[.slice A' n' c', .slice B' n' d']] w (HoldsX w) := by
  obtain ⟨g1, e1, f1, -, -⟩ := small_out h1
  obtain ⟨g2, e2, f2, -, -⟩ := small_out h2
  have hn5 : n ≤ 5 := by rw [← ral.1]; exact f1
  have an : n ≤ maxLen := by unfold maxLen; omega
  have bn : n' ≤ maxLen := by have := rbl.1; unfold maxLen; omega
  have S1 := fun W x1 x2 => Lib.hid (h1 ▸ refSmall_any A B n c n d al ah 200 W an an x1 x2 (by omega) (by omega))
  have S2 := fun W x1 x2 => Lib.hid (h2 ▸ refSmall_any A' B' n' c' n' d' bl bh 200 W bn bn x1 x2 (by omega) (by omega))
  obtain ⟨L, hL⟩ : ∃ l, minL al ah bl bh = l := ⟨_, rfl⟩
  obtain ⟨R, hR⟩ : ∃ l, rngs al ah = l := ⟨_, rfl⟩
  have PM := fun W x1 x2 x3 x4 => Lib.hid (hL ▸ minus_all (A := A) (B := B) (A' := A') (B' := B') (n := n) (c := c) (d := d) (n' := n') (c' := c') (d' := d') (w := W) g1 g2 x1 x2 x3 x4 a0 a1 hcm hdm hnc hnd)
  have PN := fun W x1 x2 x3 x4 => Lib.hid (hL ▸ refMinus_all (A := A) (B := B) (A' := A') (B' := B') (n := n) (c := c) (d := d) (n' := n') (c' := c') (d' := d') (w := W) g1 g2 x1 x2 x3 x4 a0 a1 b0 b1 hcm hdm hnc hnd)
  have HPL := Lib.hid (fun (k : Nat) p (hp : L[k]? = some p) => show p.1.length = n ∧ p.2.length = n by
    have hm : p ∈ minL al ah bl bh := by rw [hL]; exact List.mem_of_getElem? hp
    have := wi_len (min_wi e1 e2 p hm)
    have := ral.1
    omega)
  have HLL := Lib.hid (show L.length ≤ 11 by have h := min_len (al := al) (ah := ah) (bl := bl) (bh := bh); rw [hL] at h; omega)
  have PP := fun W X Y p q (k : Nat) b (hp : L[k]? = some b) x1 x2 => Lib.hid (cells_piece (A := X) (B := Y) (n := n) (c := p) (d := q) (w := W) (p := b) 200 h1 (by omega) (by omega) e2 (by rw [hL]; exact List.mem_of_getElem? hp) x1 x2)
  have PC := fun W x1 x2 => Lib.hid (hR ▸ cells_small (A := A) (B := B) (n := n) (c := c) (d := d) (w := W) 200 h1 (by omega) (by omega) x1 x2)
  have HXL := Lib.hid (fun (j : Nat) x (hx : R[j]? = some x) => show x.length = n ∧ L.countP (hasB x) = (if insB bl bh x = true then 0 else 1) by
    rw [← hR] at hx
    have hi := (rng_next e1 j x hx).2.2
    have hl := rng_each e1 hx
    exact ⟨by rw [hl, ral.1], by rw [← hL]; exact min_count e1 e2 hi⟩)
  have hrn : R.length ≤ 20000 := by rw [← hR]; have h := prod_small h1 (by omega); rw [prod_rng e1] at h; omega
  obtain ⟨F1, hF1⟩ : ∃ l, L.map (fun p => (rngs p.1 p.2).length) = l := ⟨_, rfl⟩
  obtain ⟨F2, hF2⟩ : ∃ l, R.map (fun x => L.countP (hasB x)) = l := ⟨_, rfl⟩
  have HSUM := Lib.hid (show F1.sum = F2.sum by rw [← hF1, ← hF2, ← hL, ← hR]; exact min_sum e1 e2)
  have HF1 := Lib.hid (fun (k : Nat) p (hp : L[k]? = some p) => show F1[k]? = some (rngs p.1 p.2).length by rw [← hF1, List.getElem?_map, hp]; rfl)
  have HF2 := Lib.hid (fun (k : Nat) x (hx : R[k]? = some x) => show F2[k]? = some (L.countP (hasB x)) by rw [← hF2, List.getElem?_map, hx]; rfl)
  have HFL := Lib.hid (show F1.length = L.length ∧ F2.length = R.length by rw [← hF1, ← hF2]; simp)
  have hfb : F1.sum ≤ 20000 := by
    rw [HSUM.out]
    have h : F2.sum ≤ F2.length := sumN_len fun y hy => by
      obtain ⟨j, hj, he⟩ := List.getElem_of_mem hy
      have hj2 : j < R.length := by rw [← HFL.out.2]; exact hj
      have h3 := HF2.out j _ (List.getElem?_eq_getElem hj2)
      rw [List.getElem?_eq_getElem hj, he] at h3
      have h4 := (HXL.out j _ (List.getElem?_eq_getElem hj2)).2
      have h5 : y = L.countP (hasB R[j]) := Option.some.inj h3
      rw [h5, h4]
      split <;> omega
    rw [HFL.out.2] at h
    omega
  have HAN := Lib.hid an; have HBN := Lib.hid bn; have HFB := Lib.hid hfb; have HRN := Lib.hid hrn
  have hll := HLL.out
  clear h1 h2 g1 g2 e1 e2 f1 f2 an bn hL hR hnc hcm hnd hdm hF1 hF2 hfb
  obtain ⟨W, hW⟩ : ∃ W, W = (w.alloc (.cells #[.slice A n c, .slice B n d] 24)).alloc (.cells #[.slice A' n' c', .slice B' n' d'] 24) := ⟨_, rfl⟩
  obtain ⟨q1, q2⟩ := kl_two hW ral rah a0 a1 rbl rbh b0 b1
  have KA := Lib.hid q1; have KB := Lib.hid q2
  have HW := Lib.hid hW
  clear hW q1 q2 ral rah a0 a1 rbl rbh b0 b1
  obtain ⟨kA0, kA1, _⟩ := KA.out.kx.box; obtain ⟨kB0, kB1, _⟩ := KB.out.kx.box
  go_enter Try.func4, Try.ntmps4
  go_wp2_with fail
  rw [← HW.out]
  refine (awake_true _).mono ?_
  rintro e wv ⟨rfl, hb⟩
  have KA := Lib.hid (KA.out.call hb)
  have KB := Lib.hid (KB.out.call hb)
  obtain ⟨kA0, kA1, _⟩ := KA.out.kx.box; obtain ⟨kB0, kB1, _⟩ := KB.out.kx.box
  clear hb
  go_wp2_with fail
  refine (S1 _ KA.out.kx.lo KA.out.kx.hi).out.mono ?_
  rintro e wv ⟨rfl, hb⟩
  have KA := Lib.hid (KA.out.call hb)
  have KB := Lib.hid (KB.out.call hb)
  obtain ⟨kA0, kA1, _⟩ := KA.out.kx.box; obtain ⟨kB0, kB1, _⟩ := KB.out.kx.box
  clear hb
  go_wp2_with fail
  refine (S2 _ KB.out.kx.lo KB.out.kx.hi).out.mono ?_
  rintro e wv ⟨rfl, hb⟩
  have KA := Lib.hid (KA.out.call hb)
  have KB := Lib.hid (KB.out.call hb)
  obtain ⟨kA0, kA1, _⟩ := KA.out.kx.box; obtain ⟨kB0, kB1, _⟩ := KB.out.kx.box
  clear hb
  go_wp2_with fail
  refine (PM _ KA.out.kx.lo KA.out.kx.hi KB.out.kx.lo KB.out.kx.hi).out.mono ?_
  rintro e wm ⟨PL, cl, rfl, hrm, hb⟩
  have HM := Lib.hid hrm
  have KA := Lib.hid (KA.out.call hb)
  have KB := Lib.hid (KB.out.call hb)
  obtain ⟨kA0, kA1, _⟩ := KA.out.kx.box; obtain ⟨kB0, kB1, _⟩ := KB.out.kx.box
  clear hb
  clear hrm
  go_wp2_with fail
  refine (PN _ KA.out.kx.lo KA.out.kx.hi KB.out.kx.lo KB.out.kx.hi).out.mono ?_
  rintro e wb ⟨QL, dl, rfl, hrm, hb⟩
  have HN := Lib.hid hrm
  have HM := Lib.hid (HM.out.below hb)
  have KA := Lib.hid (KA.out.call hb)
  have KB := Lib.hid (KB.out.call hb)
  obtain ⟨kA0, kA1, _⟩ := KA.out.kx.box; obtain ⟨kB0, kB1, _⟩ := KB.out.kx.box
  clear hb
  clear hrm
  clear kA0 kA1 kB0 kB1
  go_wp2_with fail
  go_loopw [7, 8] (fun v i wr => ∃ k : Nat, k ≤ L.length ∧ i = .int .i64 k ∧ v = .int .i64 ((F1.take k).sum : Nat) ∧ Hid (Below wb.heap.size wb wr)) (fun _ i _ => L.length - (intOf i).toNat)
  case atStart => exact ⟨0, Nat.zero_le _, rfl, rfl, Lib.hid (Below.refl _ _)⟩
  case round =>
    obtain ⟨k, hk, rfl, rfl, HBL⟩ := hrel
    by_cases hlt : k < L.length
    · obtain ⟨p, hp⟩ : ∃ p, L[k]? = some p := ⟨_, List.getElem?_eq_getElem hlt⟩
      have HP := Lib.hid hp; have HLT := Lib.hid hlt
      obtain ⟨ad1, P1, m1, c1, Q1, l1, d1, rfl, hb1, hc1, hc2, rd1, rd2, -, -, -, -⟩ := (HM.out.below HBL.out).at_ hp
      obtain ⟨ad2, P2, m2, c2, Q2, l2, d2, rfl, hb2, hc3, hc4, rd3, rd4, -, -, -, -⟩ := (HN.out.below HBL.out).at_ hp
      have q1 := (HPL.out k p hp).1; have q2 := (HPL.out k p hp).2
      have qa : m1 = n := by rw [← rd1.1, q1]
      have qb : l1 = n := by rw [← rd2.1, q2]
      have qc : m2 = n := by rw [← rd3.1, q1]
      have qd : l2 = n := by rw [← rd4.1, q2]
      rw [qa] at rd1 hc1
      rw [qb] at rd2 hc2
      rw [qc] at rd3 hc3
      rw [qd] at rd4 hc4
      clear qa qb qc qd q1 q2
      have hc2 := cell_one hc2
      have hc4 := cell_one hc4
      have R1 := Lib.hid rd1; have R2 := Lib.hid rd2; have R3 := Lib.hid rd3; have R4 := Lib.hid rd4
      have HKC := Lib.hid (fun V (h : Below wr.heap.size wr V) => (show V.cell? (ad1.add (k * 2)) = some (.slice P1 n c1) ∧ V.cell? ⟨(ad1.add (k * 2)).block, (ad1.add (k * 2)).off + 1, none⟩ = some (.slice Q1 n d1) ∧ V.cell? (ad2.add (k * 2)) = some (.slice P2 n c2) ∧ V.cell? ⟨(ad2.add (k * 2)).block, (ad2.add (k * 2)).off + 1, none⟩ = some (.slice Q2 n d2) from
        ⟨(h.cell (cell_lt hc1)).trans hc1, (h.cell (cell_lt hc2)).trans hc2, (h.cell (cell_lt hc3)).trans hc3, (h.cell (cell_lt hc4)).trans hc4⟩))
      have HKV := Lib.hid (Below.refl wr.heap.size wr)
      have hi1 : (k : Int) < (L.length : Int) := by omega
      have hst := sumN_step (HF1.out k p hp)
      have hle := sumN_le F1 (k + 1)
      have hfb := HFB.out
      have hw1 : IntKind.i64.wrap (((F1.take k).sum : Int) + ((rngs p.1 p.2).length : Int)) = ((F1.take (k + 1)).sum : Int) := by
        rw [hst]
        exact (wrap_in (by omega) (by omega)).trans (by omega)
      clear hp rd1 rd2 rd3 rd4 hb1 hb2 hst hle hfb
      go_upto_region 11 with fail
      go_region_held3 (fun w' => w'.cell? (ad1.add (k * 2)) = some (.slice P1 n c1) ∧ w'.cell? ⟨(ad1.add (k * 2)).block, (ad1.add (k * 2)).off + 1, none⟩ = some (.slice Q1 n d1) ∧ w'.cell? (ad2.add (k * 2)) = some (.slice P2 n c2) ∧ w'.cell? ⟨(ad2.add (k * 2)).block, (ad2.add (k * 2)).off + 1, none⟩ = some (.slice Q2 n d2)) (go_keep)
        ((go_at_call 13; refine (same_at true (same_refl p.1 p.2) HAN.out HAN.out HAN.out HAN.out (R1.out.below (by repeat (first | exact HKV.out | refine below_more ?_ _ | refine Below.drew ?_))) (R2.out.below (by repeat (first | exact HKV.out | refine below_more ?_ _ | refine Below.drew ?_))) (R3.out.below (by repeat (first | exact HKV.out | refine below_more ?_ _ | refine Below.drew ?_))) (R4.out.below (by repeat (first | exact HKV.out | refine below_more ?_ _ | refine Below.drew ?_)))).mono ?_
          rintro e vv ⟨rfl, h3⟩
          have HKV := Lib.hid (below_step (W := wr) (by repeat (first | exact HKV.out | refine below_more ?_ _ | refine Below.drew ?_)) h3)
          obtain ⟨z1, z2, z3, z4⟩ := HKC.out _ HKV.out
          clear h3))
      all_goals
        go_wp2_with fail
        refine (PP _ _ _ _ _ k p HP.out (R3.out.below HKV.out) (R4.out.below HKV.out)).out.mono ?_
        rintro e w6 ⟨lP, lc, rfl, _, _, _, _, h6⟩
        have HB6 := Lib.hid (below_step HBL.out (below_step HKV.out h6))
        clear h6
        go_wp2_with fail
        go_roundw
        case rel => exact ⟨k + 1, by have := HLT.out; omega, by go_num, by first | rfl | (rw [hw1]) | simp, HB6⟩
        case measure => have hlt := HLT.out; first | (simp [intOf]; done) | (simp [intOf]; omega)
    · obtain rfl : k = L.length := by omega
      have KA := Lib.hid (KA.out.call HBL.out)
      have KB := Lib.hid (KB.out.call HBL.out)
      have HN := Lib.hid (HN.out.below HBL.out)
      obtain ⟨kA0, kA1, _⟩ := KA.out.kx.box
      rw [show (F1.take L.length).sum = F1.sum by rw [List.take_of_length_le (by rw [HFL.out.1]; exact Nat.le_refl _)]]
      clear HM HBL
      go_wp2_with fail
      refine (PC _ KA.out.kx.lo KA.out.kx.hi).out.mono ?_
      rintro e wd ⟨QC, cC, rfl, hom, -, -, -, hb⟩
      have HR := Lib.hid hom.rdM
      have HN := Lib.hid (HN.out.below hb)
      have KA := Lib.hid (KA.out.call hb)
      have KB := Lib.hid (KB.out.call hb)
      clear hb hom kA0 kA1
      go_wp2_with fail
      go_loopw [7, 10] (fun v i wr => ∃ k : Nat, k ≤ R.length ∧ i = .int .i64 k ∧ v = .int .i64 ((F1.sum : Int) - ((F2.take k).sum : Nat)) ∧ Hid (Below wd.heap.size wd wr)) (fun _ i _ => R.length - (intOf i).toNat)
      case atStart => exact ⟨0, Nat.zero_le _, rfl, by simp, Lib.hid (Below.refl _ _)⟩
      case round =>
        obtain ⟨k, hk, rfl, rfl, HBL⟩ := hrel
        obtain ⟨wo, rfl⟩ : ∃ wo : World, wo = wr := ⟨_, rfl⟩
        by_cases hlt : k < R.length
        · obtain ⟨x, hx⟩ : ∃ x, R[k]? = some x := ⟨_, List.getElem?_eq_getElem hlt⟩
          have HX := Lib.hid hx; have HLT := Lib.hid hlt
          have hi1 : (k : Int) < (R.length : Int) := by omega
          have hrn2 := HRN.out
          obtain ⟨hxl, hxc⟩ := HXL.out k x hx
          have HXN := Lib.hid hxl; have HXC := Lib.hid hxc
          clear hx hxl hxc
          go_wp2_with fail
          go_loopw [11, 12] (fun v i w3 => ∃ j : Nat, j ≤ L.length ∧ i = .int .i64 j ∧ v = .int .i64 ((L.take j).countP (hasB x) : Nat) ∧ Hid (Below wd.heap.size wd w3)) (fun _ i _ => L.length - (intOf i).toNat)
          case atStart => exact ⟨0, Nat.zero_le _, rfl, by simp, HBL⟩
          case round =>
            obtain ⟨j, hj, rfl, rfl, HB3⟩ := hrel
            by_cases hjl : j < L.length
            · obtain ⟨p, hp⟩ : ∃ p, L[j]? = some p := ⟨_, List.getElem?_eq_getElem hjl⟩
              have HJL := Lib.hid hjl
              obtain ⟨ad2, P2, m2, c2, Q2, l2, d2, rfl, hb2, hc3, hc4, rd3, rd4, -, -, -, -⟩ := (HN.out.below HB3.out).at_ hp
              obtain ⟨ad3, P3, c3, rfl, hb3, hc5, rd5, -, -, -⟩ := (HR.out.below HB3.out).at_ HX.out
              have q1 := (HPL.out j p hp).1; have q2 := (HPL.out j p hp).2
              have qc : m2 = n := by rw [← rd3.1, q1]
              have qd : l2 = n := by rw [← rd4.1, q2]
              rw [qc] at rd3 hc3
              rw [qd] at rd4 hc4
              rw [HXN.out] at rd5 hc5
              clear qc qd q1 q2
              have hc4 := cell_one hc4
              have R3 := Lib.hid rd3; have R4 := Lib.hid rd4; have R5 := Lib.hid rd5
              have HKC := Lib.hid (fun V (h : Below wr.heap.size wr V) => (show (V.cell? (ad2.add (j * 2)) = some (.slice P2 n c2) ∧ V.cell? ⟨(ad2.add (j * 2)).block, (ad2.add (j * 2)).off + 1, none⟩ = some (.slice Q2 n d2)) ∧ V.cell? (ad3.add k) = some (.slice P3 n c3) from
                ⟨⟨(h.cell (cell_lt hc3)).trans hc3, (h.cell (cell_lt hc4)).trans hc4⟩, (h.cell (cell_lt hc5)).trans hc5⟩))
              have HKV := Lib.hid (Below.refl wr.heap.size wr)
              have hi2 : (j : Int) < (L.length : Int) := by omega
              obtain ⟨q, hq⟩ : ∃ q, insB p.1 p.2 x = q := ⟨_, rfl⟩
              have PH := fun W x1 x2 x3 => Lib.hid (hq ▸ refHas_any P2 Q2 P3 n c2 d2 n c3 p.1 p.2 x W HAN.out HAN.out x1 x2 x3)
              have hst := cnt_step (f := hasB x) hp
              rw [show hasB x p = q from hq] at hst
              have HST := Lib.hid hst
              have hle : (L.take j).countP (hasB x) ≤ 11 := by
                have h1 := List.countP_le_length (p := hasB x) (l := L.take j)
                have h2 : (L.take j).length ≤ L.length := by rw [List.length_take]; exact Nat.min_le_right _ _
                have := HLL.out
                omega
              have hw1 : IntKind.i64.wrap (((L.take j).countP (hasB x) : Int) + 1) = (((L.take j).countP (hasB x) : Nat) : Int) + 1 := wrap_in (by omega) (by omega)
              clear hp rd3 rd4 rd5 hb2 hb3 hst hle hq
              go_upto_region 22 with fail
              go_region_held3 (fun w' => (w'.cell? (ad2.add (j * 2)) = some (.slice P2 n c2) ∧ w'.cell? ⟨(ad2.add (j * 2)).block, (ad2.add (j * 2)).off + 1, none⟩ = some (.slice Q2 n d2)) ∧ w'.cell? (ad3.add k) = some (.slice P3 n c3)) (go_keep)
                ((go_at_call 17; refine (PH _ (R3.out.below (by repeat (first | exact HKV.out | refine below_more ?_ _ | refine Below.drew ?_))) (R4.out.below (by repeat (first | exact HKV.out | refine below_more ?_ _ | refine Below.drew ?_))) (R5.out.below (by repeat (first | exact HKV.out | refine below_more ?_ _ | refine Below.drew ?_)))).out.mono ?_
                  rintro e vv ⟨rfl, h3⟩
                  have HKV := Lib.hid (below_step (W := wr) (by repeat (first | exact HKV.out | refine below_more ?_ _ | refine Below.drew ?_)) h3)
                  obtain ⟨⟨z1, z2⟩, z3⟩ := HKC.out _ HKV.out
                  clear h3))
              all_goals
                have HB6 := Lib.hid (below_step HB3.out HKV.out)
                cases q
                · go_wp2_with fail
                  go_roundw
                  case rel => exact ⟨j + 1, by have := HJL.out; omega, by go_num, by rw [HST.out]; simp, HB6⟩
                  case measure => have hlt := HJL.out; first | (simp [intOf]; done) | (simp [intOf]; omega)
                · go_wp2_with fail
                  go_roundw
                  case rel => exact ⟨j + 1, by have := HJL.out; omega, by go_num, by rw [HST.out]; simp, HB6⟩
                  case measure => have hlt := HJL.out; first | (simp [intOf]; done) | (simp [intOf]; omega)
            · obtain rfl : j = L.length := by omega
              obtain ⟨ad3, P3, c3, rfl, hb3, hc5, rd5, -, -, -⟩ := (HR.out.below HB3.out).at_ HX.out
              rw [HXN.out] at rd5 hc5
              have R5 := Lib.hid rd5
              have KB3 := Lib.hid (KB.out.call HB3.out)
              obtain ⟨k1, k2, _⟩ := KB3.out.kx.box
              obtain ⟨q, hq⟩ : ∃ q, insB bl bh x = q := ⟨_, rfl⟩
              have PH := fun W x1 x2 x3 => Lib.hid (hq ▸ refHas_any A' B' P3 n' c' d' n c3 bl bh x W HBN.out HAN.out x1 x2 x3)
              obtain ⟨mv, hmv⟩ : ∃ mv : Int, (((L.take L.length).countP (hasB x) : Nat) : Int) = mv := ⟨_, rfl⟩
              have hmq : mv = if q = true then 0 else 1 := by
                rw [← hmv, List.take_of_length_le (Nat.le_refl _), HXC.out, hq]
                cases q <;> rfl
              have hst := sumN_step (HF2.out k x HX.out)
              have hle := sumN_le F2 (k + 1)
              have hle2 := sumN_le F2 k
              have hfb := HFB.out
              have hsum := HSUM.out
              have hmc : (L.countP (hasB x) : Int) = mv := by rw [← hmv, List.take_of_length_le (Nat.le_refl _)]
              have hw2 : IntKind.i64.wrap ((F1.sum : Int) - ((F2.take k).sum : Nat) - mv) = (F1.sum : Int) - ((F2.take (k + 1)).sum : Nat) := by
                rw [hst]
                have : mv = 0 ∨ mv = 1 := by rw [hmq]; cases q <;> simp
                exact (wrap_in (by omega) (by omega)).trans (by omega)
              rw [hmv]
              have HKC := Lib.hid (fun V (h : Below wr.heap.size wr V) => (show (V.cell? ⟨w.heap.size + 1, 0, none⟩ = some (.slice A' n' c') ∧ V.cell? ⟨w.heap.size + 1, 1, none⟩ = some (.slice B' n' d')) ∧ V.cell? (ad3.add k) = some (.slice P3 n c3) from
                ⟨⟨(h.cell (cell_lt k1)).trans k1, (h.cell (cell_lt k2)).trans k2⟩, (h.cell (cell_lt hc5)).trans hc5⟩))
              have HKV := Lib.hid (Below.refl wr.heap.size wr)
              have HMQ := Lib.hid hmq
              clear rd5 hb3 hq hmv hst hle hle2 hfb hsum hmc hmq
              have m3 : decide (1 < mv) = false := by rw [HMQ.out]; cases q <;> decide
              have hq1 : (mv == 1) = !q := by rw [HMQ.out]; cases q <;> rfl
              cases q
              all_goals
                simp only [Bool.not_true, Bool.not_false] at hq1
                go_upto_region 24 with fail
                go_region_held3 (fun w' => (w'.cell? ⟨w.heap.size + 1, 0, none⟩ = some (.slice A' n' c') ∧ w'.cell? ⟨w.heap.size + 1, 1, none⟩ = some (.slice B' n' d')) ∧ w'.cell? (ad3.add k) = some (.slice P3 n c3)) (go_keep)
                  ((go_at_call 17; refine (PH _ (KB3.out.kx.lo.below (by repeat (first | exact HKV.out | refine below_more ?_ _ | refine Below.drew ?_))) (KB3.out.kx.hi.below (by repeat (first | exact HKV.out | refine below_more ?_ _ | refine Below.drew ?_))) (R5.out.below (by repeat (first | exact HKV.out | refine below_more ?_ _ | refine Below.drew ?_)))).out.mono ?_
                    rintro e vv ⟨rfl, h3⟩
                    have HKV := Lib.hid (below_step (W := wr) (by repeat (first | exact HKV.out | refine below_more ?_ _ | refine Below.drew ?_)) h3)
                    obtain ⟨⟨z1, z2⟩, z3⟩ := HKC.out _ HKV.out
                    clear h3))
                all_goals
                  have HB6 := Lib.hid (below_step HB3.out HKV.out)
                  go_wp2_with fail
                  go_roundw
                  case rel => exact ⟨k + 1, by have := HLT.out; omega, by go_num, by first | rfl | rw [hw2], HB6⟩
                  case measure => have hlt := HLT.out; first | (simp [intOf]; done) | (simp [intOf]; omega)
        · obtain rfl : k = R.length := by omega
          have HEND := Lib.hid (below_step KA.out.aft HBL.out)
          have hz : (F1.sum : Int) - ((F2.take R.length).sum : Nat) = 0 := by
            rw [List.take_of_length_le (by rw [HFL.out.2]; exact Nat.le_refl _), HSUM.out]
            omega
          rw [hz]
          clear hz
          go_wp2_with fail
          go_ret
          exact ⟨rfl, HEND.out⟩

theorem walk_BoxCuts (A B A' B' : Option Addr) (n c m d n' c' m' d' : Nat) (al ah bl bh : List Int) (w : World) (hal : In w A n c al) (hah : In w B m d ah) (hbl : In w A' n' c' bl) (hbh : In w B' m' d' bh) :
    Calls Try.prog 4 #[.agg #[.slice A n c, .slice B m d], .agg #[.slice A' n' c', .slice B' m' d']] w (HoldsX w) := by
  by_cases hs : smallB al ah 200 = true ∧ smallB bl bh 200 = true
  · obtain ⟨h1, h2⟩ := hs
    obtain rfl : n = m := by have := (small_out h1).2.1; have := hal.rd.1; have := hah.rd.1; omega
    obtain rfl : n' = m' := by have := (small_out h2).2.1; have := hbl.rd.1; have := hbh.rd.1; omega
    exact cuts_right A B A' B' n c d n' c' d' al ah bl bh w hal.rd hah.rd hal.none_ hah.none_ hbl.rd hbh.rd hbl.none_ hbh.none_ hal.le hal.max hah.le hah.max h1 h2
  · exact cuts_wrong A B A' B' n c m d n' c' m' d' al ah bl bh w hal.rd hah.rd hal.none_ hah.none_ hbl.rd hbh.rd hbl.none_ hbh.none_ hal.len hah.len hbl.len hbh.len hs
end Go.Proofs.Ytaegkiangjnmdaa.laws
