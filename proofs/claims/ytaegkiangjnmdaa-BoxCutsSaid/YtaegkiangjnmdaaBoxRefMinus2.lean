/- The reference's Minus, where there is a box in between. -/
import Derived.Test.YtaegkiangjnmdaaBoxRefMinus
namespace Go.Proofs.Ytaegkiangjnmdaa.laws
open Go.ChangeShapes Go.WideShapes Go.ChangeAt Go.RowKit Go.Proofs.Ytaegkiangjnmdaa.mem Go.Proofs.Ytaegkiangjnmdaa.prod Go.Proofs.Ytaegkiangjnmdaa.shp Go.Proofs.Ytaegkiangjnmdaa.strd Go.Proofs.Ytaegkiangjnmdaa.gam Go.Proofs.Ytaegkiangjnmdaa.sml Go.Proofs.Ytaegkiangjnmdaa.all Go.Proofs.Ytaegkiangjnmdaa.odo Go.Proofs.Ytaegkiangjnmdaa.eql Go.Proofs.Ytaegkiangjnmdaa.arr Go.Proofs.Ytaegkiangjnmdaa.bx
set_option linter.unusedVariables false

theorem wpList_pushT2 {w0 w : World} {B q : Nat} {ops : Array Oper} {rest : List Oper} {o : Oper} {a : Act} {Q : Exit → Act → World → Prop} (hgd : o.guard = none) (s x : Operand)
    (ho : o.op = .call { callee := .builtin .append, args := #[s, x], argTypes := #[22, 22] })
    (u v : Value) (xs ys : List Int) (hs : a.eval s = u) (hT : Two w B u v xs ys) (hb : Below B w0 w) (hB : B ≤ w.heap.size) (y : Int) (t : TypeId) (hx : a.eval x = .slice (some ⟨q, 0, none⟩) 1 1) (hq : q = w.heap.size)
    (l : Nat) (hl : xs.length = l) (h40 : l < 1099511627776)
    (h : ∀ P p w', Two w' B (.slice P (l + 1) p) v (xs ++ [y]) ys → Below B w0 w' → wpList Try.prog ops Q rest (a.put o.dst (.slice P (l + 1) p)) w') : wpList Try.prog ops Q (o :: rest) a (w.alloc (.cells #[.int .i64 y] t)) := by
  subst hq
  exact wpList_pushT hgd s x ho u v xs ys hs hT hb hB y t hx l hl h40 h
theorem piece_at {U V : List Int} {k n : Nat} {u : Int} (hU : U.length = n) (hV : V.length = n) (hk : k < n) (j : Nat) (hj : j < n) : ∃ x, ((mixU U V k).set k u)[j]? = some x ∧ (j < k → U[j]? = some x) ∧ (j = k → x = u) ∧ (k < j → V[j]? = some x) := by
  have hl : (mixU U V k).length = n := by rw [mixU_len _ (by omega), hV]
  rcases Nat.lt_trichotomy j k with h | h | h
  · obtain ⟨x, hx⟩ : ∃ x, U[j]? = some x := ⟨_, List.getElem?_eq_getElem (by omega)⟩
    exact ⟨x, set_other (by omega) (mixU_lt h (by omega) hx), fun _ => hx, fun e => by omega, fun e => by omega⟩
  · subst h
    exact ⟨u, set_here (by omega), fun e => by omega, fun _ => rfl, fun e => by omega⟩
  · obtain ⟨x, hx⟩ : ∃ x, V[j]? = some x := ⟨_, List.getElem?_eq_getElem (by omega)⟩
    exact ⟨x, set_other (by omega) (mixU_ge (by omega) (by omega) hx), fun e => by omega, fun e => by omega, fun _ => hx⟩

set_option maxHeartbeats 16000000 in
set_option maxRecDepth 100000 in
theorem refMinus_in (A B A' B' : Option Addr) (n c d c' d' : Nat) (al ah bl bh : List Int) (w : World) (hn : n ≤ 16) (ha : Rd w A n al) (hb : Rd w B n ah) (a0 : A = none → c = 0) (a1 : B = none → d = 0) (he : insB al ah al = true)
    (hbl : Rd w A' n bl) (hbh : Rd w B' n bh) (b0 : A' = none → c' = 0) (b1 : B' = none → d' = 0) (hm : insB (mxL al bl) (mnL ah bh) (mxL al bl) = true) :
    Calls Try.prog 19 #[.agg #[.slice A n c, .slice B n d], .agg #[.slice A' n c', .slice B' n d']] w (ListsX w (pcs [] [] al ah (mxL al bl) (mnL ah bh))) := by
  have P1 := fun W h1 h2 => Lib.hid (he ▸ refEmpty_any A B n c d al ah W (by unfold maxLen; omega) h1 h2)
  have P2 := fun W h1 h2 h3 h4 => Lib.hid ((refMeet_in A B A' B' n c d c' d' al ah bl bh W (by omega) h1 h2 h3 h4).mono fun e w' h => (by rw [hm] at h; exact h.out : MakesXB W n n _ _ e w'))
  have PE := fun W X p Y q lo hi h1 h2 => Lib.hid (refEmpty_any X Y n p q lo hi W (by unfold maxLen; omega) h1 h2)
  have HLA := Lib.hid ha.1; have HLB := Lib.hid hb.1
  have HL1 := Lib.hid (show (mxL al bl).length = n by rw [mx_len (by rw [ha.1, hbl.1]), ha.1]); have HL2 := Lib.hid (show (mnL ah bh).length = n by rw [mn_len (by rw [hb.1, hbh.1]), hb.1])
  obtain ⟨U1, hU1⟩ : ∃ U, U = mxL al bl := ⟨_, rfl⟩
  obtain ⟨U2, hU2⟩ : ∃ U, U = mnL ah bh := ⟨_, rfl⟩
  rw [← hU1, ← hU2] at P2 ⊢
  rw [← hU1] at HL1
  rw [← hU2] at HL2
  obtain ⟨T, hT⟩ : ∃ T, T = pcs [] [] al ah U1 U2 := ⟨_, rfl⟩
  rw [← hT]
  have HT0 := Lib.hid (show ([] : List Bx) ++ pcs (U1.take 0) (U2.take 0) (al.drop 0) (ah.drop 0) (U1.drop 0) (U2.drop 0) = T by rw [hT]; simp)
  have HTL := Lib.hid (show T.length ≤ 2 * n by rw [hT, ← ha.1]; exact pcs_len)
  obtain ⟨W, hW⟩ : ∃ W, W = (w.alloc (.cells #[.slice A n c, .slice B n d] 24)).alloc (.cells #[.slice A' n c', .slice B' n d'] 24) := ⟨_, rfl⟩
  obtain ⟨q1, q2⟩ := kl_two hW ha hb a0 a1 hbl hbh b0 b1
  have KA := Lib.hid q1; have KB := Lib.hid q2
  have HW := Lib.hid hW
  clear ha hb a0 a1 he hbl hbh b0 b1 hW q1 q2 hm hU1 hU2 hT
  obtain ⟨k1, k2, _⟩ := KA.out.kx.box
  obtain ⟨k3, k4, _⟩ := KB.out.kx.box
  go_enter Try.func19, Try.ntmps19
  go_wp2_with fail
  rw [← HW.out]
  go_wp2_with fail
  refine (P1 _ KA.out.kx.lo KA.out.kx.hi).out.mono ?_
  rintro e w1 ⟨rfl, hb⟩
  have KA := Lib.hid (KA.out.call hb)
  have KB := Lib.hid (KB.out.call hb)
  clear hb
  obtain ⟨k1, k2, _⟩ := KA.out.kx.box
  obtain ⟨k3, k4, _⟩ := KB.out.kx.box
  go_wp2_with fail
  refine (P2 _ KA.out.kx.lo KA.out.kx.hi KB.out.kx.lo KB.out.kx.hi).out.mono ?_
  rintro e w2 ⟨PC, cc, QC, dc, rfl, hTC, hb⟩
  obtain ⟨V, hV⟩ : ∃ V, V = w2.alloc (.cells #[.slice PC n cc, .slice QC n dc] 24) := ⟨_, rfl⟩
  have hb2 := below_more hb (.cells #[.slice PC n cc, .slice QC n dc] 24)
  rw [← hV] at hb2
  have KC := Lib.hid (show Go.Proofs.Ytaegkiangjnmdaa.laws.KX V w2.heap.size PC n cc QC n dc U1 U2 by rw [hV]; exact kx_new hTC.fst.rd hTC.snd.rd (own_cap hTC.fst).2.2 (own_cap hTC.snd).2.2 _)
  have KA := Lib.hid (KA.out.call hb2)
  have HV := Lib.hid hV
  clear hb hb2 hV hTC KB
  clear k1 k2 k3 k4
  go_upto_region 6 with fail
  rw [← HV.out]
  go_wp2_with fail
  go_loopw [7, 8] (fun v i wr => ∃ k : Nat, k ≤ n ∧ i = .int .i64 k ∧ ∃ P' n' c' L, v = .slice P' n' c' ∧ Hid (L.length = n') ∧ Hid (OwnX 24 wr V.heap.size (.slice P' n' c') L) ∧ Hid (L ++ pcs (U1.take k) (U2.take k) (al.drop k) (ah.drop k) (U1.drop k) (U2.drop k) = T) ∧ Hid (Below V.heap.size V wr)) (fun _ i _ => n - (intOf i).toNat)
  case atStart => exact ⟨0, Nat.zero_le _, rfl, none, 0, 0, [], rfl, Lib.hid rfl, Lib.hid (ownX_nil _ _ _), HT0, Lib.hid (Below.refl _ _)⟩
  case round =>
    obtain ⟨k, hk, rfl, P', n', c', L, rfl, HLL, HO, HT, HBW⟩ := hrel
    obtain ⟨wo1, rfl⟩ : ∃ wo : World, wo = wr := ⟨_, rfl⟩
    have KAo := Lib.hid (KA.out.kx.below HBW.out)
    obtain ⟨k1, k2, _⟩ := KAo.out.box
    by_cases hlt : k < n
    · obtain ⟨a, hla⟩ : ∃ a, al[k]? = some a := ⟨_, List.getElem?_eq_getElem (by rw [HLA.out]; exact hlt)⟩
      obtain ⟨h, hlh⟩ : ∃ a, ah[k]? = some a := ⟨_, List.getElem?_eq_getElem (by rw [HLB.out]; exact hlt)⟩
      obtain ⟨f, hlf⟩ : ∃ a, U1[k]? = some a := ⟨_, List.getElem?_eq_getElem (by rw [HL1.out]; exact hlt)⟩
      obtain ⟨g, hlg⟩ : ∃ a, U2[k]? = some a := ⟨_, List.getElem?_eq_getElem (by rw [HL2.out]; exact hlt)⟩
      have HST := Lib.hid (pcs_step (by rw [HL1.out, HLA.out]) (by rw [HL2.out, HLB.out]) hla hlh hlf hlg)
      have HQ := Lib.hid (And.intro hla (And.intro hlh (And.intro hlf hlg)))
      obtain ⟨p0, hp0⟩ : ∃ p : Bx, ((mixU U1 al k).set k a, (mixU U2 ah k).set k f) = p := ⟨_, rfl⟩
      obtain ⟨p1, hp1⟩ : ∃ p : Bx, ((mixU U1 al k).set k g, (mixU U2 ah k).set k h) = p := ⟨_, rfl⟩
      rw [hp0, hp1] at HST
      have HP0 := Lib.hid hp0; have HP1 := Lib.hid hp1
      have HLT := Lib.hid hlt
      have HNL := Lib.hid (show L.length + ([p0, p1].filter neB).length ≤ 2 * n by
        have h1 := congrArg List.length HT.out
        rw [HST.out, List.length_append, List.length_append] at h1
        have := HTL.out
        omega)
      have hi0 : (k : Int) < (n : Int) := by omega
      clear hla hlh hlf hlg hp0 hp1
      go_wp2_with fail
      go_loopw [7, 9] (fun v i wr => ∃ s : Nat, s ≤ 2 ∧ i = .int .i64 s ∧ ∃ P' n' c' L', v = .slice P' n' c' ∧ Hid (L'.length = n') ∧ Hid (OwnX 24 wr V.heap.size (.slice P' n' c') L') ∧ Hid (L' = L ++ ([p0, p1].take s).filter neB) ∧ Hid (Below V.heap.size V wr)) (fun _ i _ => 2 - (intOf i).toNat)
      case atStart => exact ⟨0, Nat.zero_le _, rfl, P', n', c', L, rfl, HLL, HO, Lib.hid (by simp), HBW⟩
      case round =>
        clear HO HBW KAo k1 k2 HLL
        obtain ⟨s, hs, rfl, P', n', c', L', rfl, HLL', HO, HL', HBW⟩ := hrel
        obtain ⟨wo, rfl⟩ : ∃ wo : World, wo = wr := ⟨_, rfl⟩
        have KAo := Lib.hid (KA.out.kx.below HBW.out)
        obtain ⟨k1, k2, _⟩ := KAo.out.box
        have HN32 := Lib.hid (show n' ≤ 1048576 by
          have h1 := congrArg List.length HL'.out
          rw [List.length_append] at h1
          have h2 := HNL.out
          have h3 := List.length_filter_le neB ([p0, p1].take s)
          have h4 : ([p0, p1].take s).length ≤ 2 := by rw [List.length_take]; exact Nat.min_le_right _ _
          have h6 := HLL'.out
          omega)
        have hs3 : s = 0 ∨ s = 1 ∨ s = 2 := by omega
        rcases hs3 with rfl | rfl | rfl
        rotate_left
        rotate_left
        · have HL2' := Lib.hid (show L' ++ pcs (U1.take (k + 1)) (U2.take (k + 1)) (al.drop (k + 1)) (ah.drop (k + 1)) (U1.drop (k + 1)) (U2.drop (k + 1)) = T by
            rw [HL'.out, List.append_assoc]
            have := HT.out
            rw [HST.out] at this
            exact this)
          go_wp2_with fail
          go_roundw
          case rel => exact ⟨k + 1, by have := HLT.out; omega, by go_num, P', n', c', L', rfl, HLL', HO, HL2', HBW⟩
          case measure => have := HLT.out; first | (simp [intOf]; done) | (simp [intOf]; omega)
        · obtain ⟨sv, hsv⟩ : ∃ sv : Int, ((0 : Nat) : Int) = sv := ⟨_, rfl⟩
          rw [hsv]
          have hs0 : (sv == 0) = true := by rw [← hsv]; rfl
          have hs1 : (sv == 1) = false := by rw [← hsv]; rfl
          have hs2 : sv < 2 := by rw [← hsv]; decide
          have hwv : IntKind.i64.wrap (sv + 1) = sv + 1 := by rw [← hsv]; rfl
          have HSV := Lib.hid hsv
          clear hsv
          obtain ⟨lo, hlo⟩ : ∃ l, (mixU U1 al k).set k a = l := ⟨_, rfl⟩
          obtain ⟨hi, hhi⟩ : ∃ l, (mixU U2 ah k).set k f = l := ⟨_, rfl⟩
          have HPP := Lib.hid (show p0 = (lo, hi) by rw [← hlo, ← hhi]; exact HP0.out.symm)
          have HSTEP := Lib.hid (show ([p0, p1].take (0 + 1)).filter neB = ([p0, p1].take 0).filter neB ++ [(lo, hi)].filter neB by rw [← HPP.out]; rfl)
          have HPA := Lib.hid (fun j (hj : j < n) => (hlo ▸ piece_at (u := a) HL1.out HLA.out HLT.out j hj : ∃ x, lo[j]? = some x ∧ (j < k → U1[j]? = some x) ∧ (j = k → x = a) ∧ (k < j → al[j]? = some x)))
          have HPB := Lib.hid (fun j (hj : j < n) => (hhi ▸ piece_at (u := f) HL2.out HLB.out HLT.out j hj : ∃ x, hi[j]? = some x ∧ (j < k → U2[j]? = some x) ∧ (j = k → x = f) ∧ (k < j → ah[j]? = some x)))
          have HLN := Lib.hid (show lo.length = n ∧ hi.length = n by rw [← hlo, ← hhi, List.length_set, List.length_set, mixU_len _ (by rw [HL1.out, HLA.out]), mixU_len _ (by rw [HL2.out, HLB.out])]; exact ⟨HLA.out, HLB.out⟩)
          clear hlo hhi
          go_wp2_with fail
          go_loopw [11] (fun i w3 => ∃ j : Nat, j ≤ n ∧ i = .int .i64 j ∧ ∃ v1 v2, Hid (Two w3 (wo.heap.size + 1) v1 v2 (lo.take j) (hi.take j)) ∧ Hid (Var2 w3 wo.heap.size v1 v2) ∧ Hid (Below wo.heap.size wo w3) ∧ Hid (wo.heap.size + 1 ≤ w3.heap.size)) (fun i _ => n - (intOf i).toNat)
          case atStart => exact ⟨0, Nat.zero_le _, rfl, _, _, Lib.hid (by simpa using two_nil _ _), Lib.hid (var2_new wo _ _ _), Lib.hid (one_below _ _ _), Lib.hid (by simp)⟩
          case round =>
            clear k1 k2
            obtain ⟨j, hj, rfl, v1, v2, HT3, HV3, HB3, HS3⟩ := hrel
            obtain ⟨⟨i1, i2, _⟩, i3, i4⟩ := HV3.out
            have HBT := Lib.hid (below_step HBW.out HB3.out)
            have KA3 := Lib.hid (KA.out.kx.below HBT.out)
            have KC3 := Lib.hid (KC.out.below HBT.out)
            obtain ⟨k1, k2, _⟩ := KA3.out.box
            by_cases hjn : j < n
            · have HJN := Lib.hid hjn
              have hi1 : (j : Int) < (n : Int) := by omega
              have HLJ := Lib.hid (show (lo.take j).length = j by rw [List.length_take, HLN.out.1]; omega)
              have HLK := Lib.hid (show (hi.take j).length = j by rw [List.length_take, HLN.out.2]; omega)
              obtain ⟨x, hlx, hx1, hx2, hx3⟩ := HPA.out j hjn
              obtain ⟨y, hly, hy1, hy2, hy3⟩ := HPB.out j hjn
              have HNX := Lib.hid (show lo.take (j + 1) = lo.take j ++ [x] from take_snoc hlx)
              have HNY := Lib.hid (show hi.take (j + 1) = hi.take j ++ [y] from take_snoc hly)
              have HX1 := Lib.hid hx1; have HX2 := Lib.hid hx2; have HX3 := Lib.hid hx3; have HY1 := Lib.hid hy1; have HY2 := Lib.hid hy2; have HY3 := Lib.hid hy3
              clear hlx hly hx1 hx2 hx3 hy1 hy2 hy3
              obtain ⟨ad1, x0, rfl, hx0, hc1⟩ := KA3.out.lo.at_ hjn
              obtain ⟨ad2, y0, rfl, hy0, hc2⟩ := KA3.out.hi.at_ hjn
              have HX0 := Lib.hid hx0; have HY0 := Lib.hid hy0
              clear hx0 hy0
              by_cases hjk : j < k
              · have hd1 : (j : Int) < (k : Int) := by omega
                have hd2 : ((j : Int) == (k : Int)) = false := by simp; omega
                go_wp2_with fail
                go_quiet (fail)
                have HDR := Lib.hid (below_drewN (Below.refl wr.heap.size wr) nq)
                have HT3 := Lib.hid (show Two (wr.drewN nq) (wo.heap.size + 1) v1 v2 (lo.take j) (hi.take j) from HT3.out.below HDR.out)
                have HV3 := Lib.hid (show Var2 (wr.drewN nq) wo.heap.size v1 v2 from HV3.out.below HDR.out (by have := HS3.out; omega))
                have HB3 := Lib.hid (show Below wo.heap.size wo (wr.drewN nq) from below_drewN HB3.out nq)
                have HS3 := Lib.hid (show wo.heap.size + 1 ≤ (wr.drewN nq).heap.size from Nat.le_trans HS3.out HDR.out.size)
                generalize wr.drewN nq = w4 at *
                clear k1 k2 hc1 hc2 HDR
                obtain ⟨⟨i1, i2, _⟩, i3, i4⟩ := HV3.out
                have HBT := Lib.hid (below_step HBW.out HB3.out)
                have KC4 := Lib.hid (KC.out.below HBT.out)
                obtain ⟨k5, k6, _⟩ := KC4.out.box
                go_wp2_with fail
                have HC1 := Lib.hid (KC4.out.lo.at_ hjn)
                obtain ⟨ad3, x3, rfl, hx3, hc1⟩ := KC4.out.lo.at_ hjn
                obtain ⟨ad4, y3, rfl, hy3, hc2⟩ := KC4.out.hi.at_ hjn
                obtain rfl : x = x3 := by have := HX1.out hjk; rw [this] at hx3; exact Option.some.inj hx3
                obtain rfl : y = y3 := by have := HY1.out hjk; rw [this] at hy3; exact Option.some.inj hy3
                clear hx3 hy3 HC1
                have k1 := k5; have k2 := k6
                go_quiet (fail)
                have HDR := Lib.hid (below_drewN (Below.refl w4.heap.size w4) nq)
                have HT3 := Lib.hid (show Two (w4.drewN nq) (wo.heap.size + 1) v1 v2 (lo.take j) (hi.take j) from HT3.out.below HDR.out)
                have HV3 := Lib.hid (show Var2 (w4.drewN nq) wo.heap.size v1 v2 from HV3.out.below HDR.out (by have := HS3.out; omega))
                have HB3 := Lib.hid (show Below wo.heap.size wo (w4.drewN nq) from below_drewN HB3.out nq)
                have HS3 := Lib.hid (show wo.heap.size + 1 ≤ (w4.drewN nq).heap.size from Nat.le_trans HS3.out HDR.out.size)
                generalize w4.drewN nq = w6 at *
                clear k1 k2 hc1 hc2 HDR
                obtain ⟨⟨i1, i2, _⟩, i3, i4⟩ := HV3.out
                have HBT := Lib.hid (below_step HBW.out HB3.out)
                have KC4 := Lib.hid (KC.out.below HBT.out)
                obtain ⟨k5, k6, _⟩ := KC4.out.box
                go_wp2_with (first
                         | (at_builtin; refine wpList_pushT (by rfl) (.tmp 92) (.tmp 94) (by rfl) _ _ _ _ (by rfl) HT3.out (Below.refl (wo.heap.size + 1) _) HS3.out _ _ (by rfl) j HLJ.out (by omega) ?_
                            intro P5 p5 w5 hT5 hB5
                            have HT5 := Lib.hid (show Two w5 (wo.heap.size + 1) (.slice P5 (j + 1) p5) v2 (lo.take (j + 1)) (hi.take j) by rw [HNX.out]; exact hT5)
                            have HV5 := Lib.hid (HV3.out.below hB5 (by omega))
                            have HB5 := Lib.hid (show Below wo.heap.size wo w5 from HB3.out.trans (hB5.mono (Nat.le_succ _)))
                            have HS5 := Lib.hid (Nat.le_trans HS3.out hB5.size)
                            obtain ⟨⟨i1, i2, _⟩, i3, i4⟩ := HV5.out
                            have HV6 := Lib.hid (HV5.out.set0 (.slice P5 (j + 1) p5))
                            have HT6 := Lib.hid (HT5.out.put1 (p := wo.heap.size) (j := 0) (by omega) (.slice P5 (j + 1) p5))
                            have HB6 := Lib.hid (HB5.out.setCell (p := ⟨wo.heap.size, 0, none⟩) (Nat.le_refl _) (.slice P5 (j + 1) p5))
                            have HS6 := Lib.hid (show wo.heap.size + 1 ≤ (w5.setCell ⟨wo.heap.size, 0, none⟩ (.slice P5 (j + 1) p5)).heap.size by simpa [World.setCell] using HS5.out)
                            clear hT5 hB5)
                         | (at_builtin; refine wpList_pushT2 (by rfl) (.tmp 98) (.tmp 100) (by rfl) _ _ _ _ (by rfl) HT6.out.symm (Below.refl (wo.heap.size + 1) _) HS6.out _ _ (by rfl) (by simp [World.setCell]) j HLK.out (by omega) ?_
                            intro P7 p7 w7 hT7 hB7
                            have HT7 := Lib.hid (show Two w7 (wo.heap.size + 1) (.slice P5 (j + 1) p5) (.slice P7 (j + 1) p7) (lo.take (j + 1)) (hi.take (j + 1)) by rw [HNY.out]; exact hT7.symm)
                            have HV7 := Lib.hid (HV6.out.below hB7 (by omega))
                            have HB7 := Lib.hid (show Below wo.heap.size wo w7 from HB6.out.trans (hB7.mono (Nat.le_succ _)))
                            have HS7 := Lib.hid (Nat.le_trans HS6.out hB7.size)
                            obtain ⟨⟨j1, j2, _⟩, j3, j4⟩ := HV7.out
                            have HV8 := Lib.hid (HV7.out.set1 (.slice P7 (j + 1) p7))
                            have HT8 := Lib.hid (HT7.out.put1 (p := wo.heap.size) (j := 1) (by omega) (.slice P7 (j + 1) p7))
                            have HB8 := Lib.hid (HB7.out.setCell (p := ⟨wo.heap.size, 1, none⟩) (Nat.le_refl _) (.slice P7 (j + 1) p7))
                            have HS8 := Lib.hid (show wo.heap.size + 1 ≤ (w7.setCell ⟨wo.heap.size, 1, none⟩ (.slice P7 (j + 1) p7)).heap.size by simpa [World.setCell] using HS7.out)
                            clear hT7 hB7))
                go_roundw
                case rel => exact ⟨j + 1, by have := HJN.out; omega, by go_num, _, _, HT8, HV8, HB8, HS8⟩
                case measure => have := HJN.out; first | (simp [intOf]; done) | (simp [intOf]; omega)
              · by_cases hje : j = k
                · subst hje
                  obtain rfl : x = a := HX2.out rfl
                  obtain rfl : y = f := HY2.out rfl
                  have hd1 : ¬ (j : Int) < (j : Int) := by omega
                  obtain rfl : x = x0 := by have h := HQ.out.1; rw [HX0.out] at h; exact (Option.some.inj h).symm
                  go_wp2_with fail
                  go_quiet (fail)
                  have HDR := Lib.hid (below_drewN (Below.refl wr.heap.size wr) nq)
                  have HT3 := Lib.hid (show Two (wr.drewN nq) (wo.heap.size + 1) v1 v2 (lo.take j) (hi.take j) from HT3.out.below HDR.out)
                  have HV3 := Lib.hid (show Var2 (wr.drewN nq) wo.heap.size v1 v2 from HV3.out.below HDR.out (by have := HS3.out; omega))
                  have HB3 := Lib.hid (show Below wo.heap.size wo (wr.drewN nq) from below_drewN HB3.out nq)
                  have HS3 := Lib.hid (show wo.heap.size + 1 ≤ (wr.drewN nq).heap.size from Nat.le_trans HS3.out HDR.out.size)
                  generalize wr.drewN nq = w4 at *
                  clear k1 k2 hc1 hc2 HDR
                  obtain ⟨⟨i1, i2, _⟩, i3, i4⟩ := HV3.out
                  have HBT := Lib.hid (below_step HBW.out HB3.out)
                  have KC4 := Lib.hid (KC.out.below HBT.out)
                  obtain ⟨k5, k6, _⟩ := KC4.out.box
                  obtain ⟨ad3, x3, rfl, hx3, hc1⟩ := KC4.out.lo.at_ hjn
                  obtain rfl : y = x3 := by have h := HQ.out.2.2.1; rw [hx3] at h; exact (Option.some.inj h).symm
                  clear hx3
                  go_wp2_with (first
                           | (at_builtin; refine wpList_pushT (by rfl) (.tmp 92) (.tmp 94) (by rfl) _ _ _ _ (by rfl) HT3.out (Below.refl (wo.heap.size + 1) _) HS3.out _ _ (by rfl) j HLJ.out (by omega) ?_
                              intro P5 p5 w5 hT5 hB5
                              have HT5 := Lib.hid (show Two w5 (wo.heap.size + 1) (.slice P5 (j + 1) p5) v2 (lo.take (j + 1)) (hi.take j) by rw [HNX.out]; exact hT5)
                              have HV5 := Lib.hid (HV3.out.below hB5 (by omega))
                              have HB5 := Lib.hid (show Below wo.heap.size wo w5 from HB3.out.trans (hB5.mono (Nat.le_succ _)))
                              have HS5 := Lib.hid (Nat.le_trans HS3.out hB5.size)
                              obtain ⟨⟨i1, i2, _⟩, i3, i4⟩ := HV5.out
                              have HV6 := Lib.hid (HV5.out.set0 (.slice P5 (j + 1) p5))
                              have HT6 := Lib.hid (HT5.out.put1 (p := wo.heap.size) (j := 0) (by omega) (.slice P5 (j + 1) p5))
                              have HB6 := Lib.hid (HB5.out.setCell (p := ⟨wo.heap.size, 0, none⟩) (Nat.le_refl _) (.slice P5 (j + 1) p5))
                              have HS6 := Lib.hid (show wo.heap.size + 1 ≤ (w5.setCell ⟨wo.heap.size, 0, none⟩ (.slice P5 (j + 1) p5)).heap.size by simpa [World.setCell] using HS5.out)
                              clear hT5 hB5)
                           | (at_builtin; refine wpList_pushT2 (by rfl) (.tmp 98) (.tmp 100) (by rfl) _ _ _ _ (by rfl) HT6.out.symm (Below.refl (wo.heap.size + 1) _) HS6.out _ _ (by rfl) (by simp [World.setCell]) j HLK.out (by omega) ?_
                              intro P7 p7 w7 hT7 hB7
                              have HT7 := Lib.hid (show Two w7 (wo.heap.size + 1) (.slice P5 (j + 1) p5) (.slice P7 (j + 1) p7) (lo.take (j + 1)) (hi.take (j + 1)) by rw [HNY.out]; exact hT7.symm)
                              have HV7 := Lib.hid (HV6.out.below hB7 (by omega))
                              have HB7 := Lib.hid (show Below wo.heap.size wo w7 from HB6.out.trans (hB7.mono (Nat.le_succ _)))
                              have HS7 := Lib.hid (Nat.le_trans HS6.out hB7.size)
                              obtain ⟨⟨j1, j2, _⟩, j3, j4⟩ := HV7.out
                              have HV8 := Lib.hid (HV7.out.set1 (.slice P7 (j + 1) p7))
                              have HT8 := Lib.hid (HT7.out.put1 (p := wo.heap.size) (j := 1) (by omega) (.slice P7 (j + 1) p7))
                              have HB8 := Lib.hid (HB7.out.setCell (p := ⟨wo.heap.size, 1, none⟩) (Nat.le_refl _) (.slice P7 (j + 1) p7))
                              have HS8 := Lib.hid (show wo.heap.size + 1 ≤ (w7.setCell ⟨wo.heap.size, 1, none⟩ (.slice P7 (j + 1) p7)).heap.size by simpa [World.setCell] using HS7.out)
                              clear hT7 hB7))
                  go_roundw
                  case rel => exact ⟨j + 1, by have := HJN.out; omega, by go_num, _, _, HT8, HV8, HB8, HS8⟩
                  case measure => have := HJN.out; first | (simp [intOf]; done) | (simp [intOf]; omega)
                · have hd1 : ¬ (j : Int) < (k : Int) := by omega
                  have hd2 : ((j : Int) == (k : Int)) = false := by simp; omega
                  obtain rfl : x = x0 := by have h := HX3.out (by omega); rw [HX0.out] at h; exact (Option.some.inj h).symm
                  obtain rfl : y = y0 := by have h := HY3.out (by omega); rw [HY0.out] at h; exact (Option.some.inj h).symm
                  go_wp2_with fail
                  go_quiet (fail)
                  have HDR := Lib.hid (below_drewN (Below.refl wr.heap.size wr) nq)
                  have HT3 := Lib.hid (show Two (wr.drewN nq) (wo.heap.size + 1) v1 v2 (lo.take j) (hi.take j) from HT3.out.below HDR.out)
                  have HV3 := Lib.hid (show Var2 (wr.drewN nq) wo.heap.size v1 v2 from HV3.out.below HDR.out (by have := HS3.out; omega))
                  have HB3 := Lib.hid (show Below wo.heap.size wo (wr.drewN nq) from below_drewN HB3.out nq)
                  have HS3 := Lib.hid (show wo.heap.size + 1 ≤ (wr.drewN nq).heap.size from Nat.le_trans HS3.out HDR.out.size)
                  generalize wr.drewN nq = w4 at *
                  clear k1 k2 hc1 hc2 HDR
                  obtain ⟨⟨i1, i2, _⟩, i3, i4⟩ := HV3.out
                  have HBT := Lib.hid (below_step HBW.out HB3.out)
                  have KC4 := Lib.hid (KC.out.below HBT.out)
                  obtain ⟨k5, k6, _⟩ := KC4.out.box
                  go_wp2_with (first
                           | (at_builtin; refine wpList_pushT (by rfl) (.tmp 92) (.tmp 94) (by rfl) _ _ _ _ (by rfl) HT3.out (Below.refl (wo.heap.size + 1) _) HS3.out _ _ (by rfl) j HLJ.out (by omega) ?_
                              intro P5 p5 w5 hT5 hB5
                              have HT5 := Lib.hid (show Two w5 (wo.heap.size + 1) (.slice P5 (j + 1) p5) v2 (lo.take (j + 1)) (hi.take j) by rw [HNX.out]; exact hT5)
                              have HV5 := Lib.hid (HV3.out.below hB5 (by omega))
                              have HB5 := Lib.hid (show Below wo.heap.size wo w5 from HB3.out.trans (hB5.mono (Nat.le_succ _)))
                              have HS5 := Lib.hid (Nat.le_trans HS3.out hB5.size)
                              obtain ⟨⟨i1, i2, _⟩, i3, i4⟩ := HV5.out
                              have HV6 := Lib.hid (HV5.out.set0 (.slice P5 (j + 1) p5))
                              have HT6 := Lib.hid (HT5.out.put1 (p := wo.heap.size) (j := 0) (by omega) (.slice P5 (j + 1) p5))
                              have HB6 := Lib.hid (HB5.out.setCell (p := ⟨wo.heap.size, 0, none⟩) (Nat.le_refl _) (.slice P5 (j + 1) p5))
                              have HS6 := Lib.hid (show wo.heap.size + 1 ≤ (w5.setCell ⟨wo.heap.size, 0, none⟩ (.slice P5 (j + 1) p5)).heap.size by simpa [World.setCell] using HS5.out)
                              clear hT5 hB5)
                           | (at_builtin; refine wpList_pushT2 (by rfl) (.tmp 98) (.tmp 100) (by rfl) _ _ _ _ (by rfl) HT6.out.symm (Below.refl (wo.heap.size + 1) _) HS6.out _ _ (by rfl) (by simp [World.setCell]) j HLK.out (by omega) ?_
                              intro P7 p7 w7 hT7 hB7
                              have HT7 := Lib.hid (show Two w7 (wo.heap.size + 1) (.slice P5 (j + 1) p5) (.slice P7 (j + 1) p7) (lo.take (j + 1)) (hi.take (j + 1)) by rw [HNY.out]; exact hT7.symm)
                              have HV7 := Lib.hid (HV6.out.below hB7 (by omega))
                              have HB7 := Lib.hid (show Below wo.heap.size wo w7 from HB6.out.trans (hB7.mono (Nat.le_succ _)))
                              have HS7 := Lib.hid (Nat.le_trans HS6.out hB7.size)
                              obtain ⟨⟨j1, j2, _⟩, j3, j4⟩ := HV7.out
                              have HV8 := Lib.hid (HV7.out.set1 (.slice P7 (j + 1) p7))
                              have HT8 := Lib.hid (HT7.out.put1 (p := wo.heap.size) (j := 1) (by omega) (.slice P7 (j + 1) p7))
                              have HB8 := Lib.hid (HB7.out.setCell (p := ⟨wo.heap.size, 1, none⟩) (Nat.le_refl _) (.slice P7 (j + 1) p7))
                              have HS8 := Lib.hid (show wo.heap.size + 1 ≤ (w7.setCell ⟨wo.heap.size, 1, none⟩ (.slice P7 (j + 1) p7)).heap.size by simpa [World.setCell] using HS7.out)
                              clear hT7 hB7))
                  go_roundw
                  case rel => exact ⟨j + 1, by have := HJN.out; omega, by go_num, _, _, HT8, HV8, HB8, HS8⟩
                  case measure => have := HJN.out; first | (simp [intOf]; done) | (simp [intOf]; omega)
            · obtain rfl : j = n := by omega
              have hT := HT3.out
              rw [List.take_of_length_le (by rw [HLN.out.1]; omega), List.take_of_length_le (by rw [HLN.out.2]; omega)] at hT
              obtain ⟨X, p, hv1⟩ : ∃ X p, v1 = .slice X j p := by
                obtain ⟨X, p, e, _⟩ := hT.fst.form
                exact ⟨X, p, by rw [e, HLN.out.1]⟩
              obtain ⟨Y, q, hv2⟩ : ∃ X p, v2 = .slice X j p := by
                obtain ⟨X, p, e, _⟩ := hT.snd.form
                exact ⟨X, p, by rw [e, HLN.out.2]⟩
              subst hv1 hv2
              obtain ⟨q0, hq0⟩ : ∃ q, insB lo hi lo = q := ⟨_, rfl⟩
              have PEq := Lib.hid (hq0 ▸ (PE wr X p Y q lo hi hT.fst.rd hT.snd.rd).out : Calls Try.prog 27 #[.agg #[.slice X j p, .slice Y j q]] wr (Says wr !q0))
              have HQ0 := Lib.hid hq0
              have HTE := Lib.hid hT
              have HO3 := Lib.hid (HO.out.below HB3.out)
              clear hT hq0 HT3
              go_wp2_with fail
              refine PEq.out.mono ?_
              rintro e w4 ⟨rfl, hb4⟩
              have HV4 := Lib.hid (HV3.out.below hb4 (by have := HS3.out; omega))
              have HO4 := Lib.hid (HO3.out.below hb4)
              have HB4 := Lib.hid (below_step HBT.out hb4)
              have HBQ := Lib.hid (show V.heap.size ≤ w4.heap.size from HB4.out.size)
              have HVW := Lib.hid (show V.heap.size ≤ wo.heap.size + 1 by have := HBW.out.size; omega)
              have HE4 := Lib.hid (show El w4 (Value.slice P' n' c').ownBlock (.slice X j p) lo ∧ El w4 (Value.slice P' n' c').ownBlock (.slice Y j q) hi from
                ⟨El.of_own (HTE.out.fst.below hb4) (fun g e e' => by have h1 := (HTE.out.fst.lt_ g e).1; have h2 := (HO.out.lt g e').2; omega),
                 El.of_own (HTE.out.snd.below hb4) (fun g e e' => by have h1 := (HTE.out.snd.lt_ g e).1; have h2 := (HO.out.lt g e').2; omega)⟩)
              have HI4 := Lib.hid (And.intro ((lies_own HTE.out.fst).le HVW.out) ((lies_own HTE.out.snd).le HVW.out))
              obtain ⟨⟨i1, i2, _⟩, i3, i4⟩ := HV4.out
              clear hb4 k1 k2
              cases q0
              · have HLX := Lib.hid (show L' = L ++ ([p0, p1].take (0 + 1)).filter neB by
                  rw [HSTEP.out, show [(lo, hi)].filter neB = [] by rw [List.filter_cons_of_neg (by show ¬ insB lo hi lo = true; rw [HQ0.out]; simp)]; rfl, List.append_nil]; exact HL'.out)
                go_wp2_with fail
                go_roundw
                case rel => exact ⟨0 + 1, by omega, by rw [← HSV.out]; rfl, P', n', c', L', rfl, HLL', HO4, HLX, HB4⟩
                case measure => have hsv := HSV.out; first | (simp [intOf]; done) | (simp [intOf]; omega)
              · have HLX := Lib.hid (show L' ++ [(lo, hi)] = L ++ ([p0, p1].take (0 + 1)).filter neB by
                  rw [HSTEP.out, show [(lo, hi)].filter neB = [(lo, hi)] by rw [List.filter_cons_of_pos (by show insB lo hi lo = true; exact HQ0.out)]; rfl, ← List.append_assoc, ← HL'.out])
                go_wp2_with (at_builtin; refine wpList_pushX Try.underlying43 rbox_info (by rfl) (.tmp 106) (.tmp 108) (by rfl) _ L' (by rfl) HO4.out HBQ.out _ _ (lo, hi) HE4.out.1 HE4.out.2 HI4.out.1 HI4.out.2 _ (by rfl) n' HLL'.out (by have := HN32.out; omega) ?_
                             intro P9 c9 w9 ho9 hg9 _
                             have HO9 := Lib.hid ho9
                             have HB9 := Lib.hid (HB4.out.grown hg9 HBQ.out (fun g e => (HO4.out.lt g e).1))
                             clear ho9 hg9)
                go_roundw
                case rel => exact ⟨0 + 1, by omega, by rw [← HSV.out]; rfl, P9, n' + 1, c9, L' ++ [(lo, hi)], rfl, Lib.hid (by rw [List.length_append, HLL'.out]; rfl), HO9, HLX, HB9⟩
                case measure => have hsv := HSV.out; first | (simp [intOf]; done) | (simp [intOf]; omega)
        · obtain ⟨sv, hsv⟩ : ∃ sv : Int, ((1 : Nat) : Int) = sv := ⟨_, rfl⟩
          rw [hsv]
          have hs0 : (sv == 0) = false := by rw [← hsv]; rfl
          have hs1 : (sv == 1) = true := by rw [← hsv]; rfl
          have hs2 : sv < 2 := by rw [← hsv]; decide
          have hwv : IntKind.i64.wrap (sv + 1) = sv + 1 := by rw [← hsv]; rfl
          have HSV := Lib.hid hsv
          clear hsv
          obtain ⟨lo, hlo⟩ : ∃ l, (mixU U1 al k).set k g = l := ⟨_, rfl⟩
          obtain ⟨hi, hhi⟩ : ∃ l, (mixU U2 ah k).set k h = l := ⟨_, rfl⟩
          have HPP := Lib.hid (show p1 = (lo, hi) by rw [← hlo, ← hhi]; exact HP1.out.symm)
          have HSTEP := Lib.hid (show ([p0, p1].take (1 + 1)).filter neB = ([p0, p1].take 1).filter neB ++ [(lo, hi)].filter neB by rw [← HPP.out]; exact List.filter_append [p0] [p1])
          have HPA := Lib.hid (fun j (hj : j < n) => (hlo ▸ piece_at (u := g) HL1.out HLA.out HLT.out j hj : ∃ x, lo[j]? = some x ∧ (j < k → U1[j]? = some x) ∧ (j = k → x = g) ∧ (k < j → al[j]? = some x)))
          have HPB := Lib.hid (fun j (hj : j < n) => (hhi ▸ piece_at (u := h) HL2.out HLB.out HLT.out j hj : ∃ x, hi[j]? = some x ∧ (j < k → U2[j]? = some x) ∧ (j = k → x = h) ∧ (k < j → ah[j]? = some x)))
          have HLN := Lib.hid (show lo.length = n ∧ hi.length = n by rw [← hlo, ← hhi, List.length_set, List.length_set, mixU_len _ (by rw [HL1.out, HLA.out]), mixU_len _ (by rw [HL2.out, HLB.out])]; exact ⟨HLA.out, HLB.out⟩)
          clear hlo hhi
          go_wp2_with fail
          go_loopw [11] (fun i w3 => ∃ j : Nat, j ≤ n ∧ i = .int .i64 j ∧ ∃ v1 v2, Hid (Two w3 (wo.heap.size + 1) v1 v2 (lo.take j) (hi.take j)) ∧ Hid (Var2 w3 wo.heap.size v1 v2) ∧ Hid (Below wo.heap.size wo w3) ∧ Hid (wo.heap.size + 1 ≤ w3.heap.size)) (fun i _ => n - (intOf i).toNat)
          case atStart => exact ⟨0, Nat.zero_le _, rfl, _, _, Lib.hid (by simpa using two_nil _ _), Lib.hid (var2_new wo _ _ _), Lib.hid (one_below _ _ _), Lib.hid (by simp)⟩
          case round =>
            clear k1 k2
            obtain ⟨j, hj, rfl, v1, v2, HT3, HV3, HB3, HS3⟩ := hrel
            obtain ⟨⟨i1, i2, _⟩, i3, i4⟩ := HV3.out
            have HBT := Lib.hid (below_step HBW.out HB3.out)
            have KA3 := Lib.hid (KA.out.kx.below HBT.out)
            have KC3 := Lib.hid (KC.out.below HBT.out)
            obtain ⟨k1, k2, _⟩ := KA3.out.box
            by_cases hjn : j < n
            · have HJN := Lib.hid hjn
              have hi1 : (j : Int) < (n : Int) := by omega
              have HLJ := Lib.hid (show (lo.take j).length = j by rw [List.length_take, HLN.out.1]; omega)
              have HLK := Lib.hid (show (hi.take j).length = j by rw [List.length_take, HLN.out.2]; omega)
              obtain ⟨x, hlx, hx1, hx2, hx3⟩ := HPA.out j hjn
              obtain ⟨y, hly, hy1, hy2, hy3⟩ := HPB.out j hjn
              have HNX := Lib.hid (show lo.take (j + 1) = lo.take j ++ [x] from take_snoc hlx)
              have HNY := Lib.hid (show hi.take (j + 1) = hi.take j ++ [y] from take_snoc hly)
              have HX1 := Lib.hid hx1; have HX2 := Lib.hid hx2; have HX3 := Lib.hid hx3; have HY1 := Lib.hid hy1; have HY2 := Lib.hid hy2; have HY3 := Lib.hid hy3
              clear hlx hly hx1 hx2 hx3 hy1 hy2 hy3
              obtain ⟨ad1, x0, rfl, hx0, hc1⟩ := KA3.out.lo.at_ hjn
              obtain ⟨ad2, y0, rfl, hy0, hc2⟩ := KA3.out.hi.at_ hjn
              have HX0 := Lib.hid hx0; have HY0 := Lib.hid hy0
              clear hx0 hy0
              by_cases hjk : j < k
              · have hd1 : (j : Int) < (k : Int) := by omega
                have hd2 : ((j : Int) == (k : Int)) = false := by simp; omega
                go_wp2_with fail
                go_quiet (fail)
                have HDR := Lib.hid (below_drewN (Below.refl wr.heap.size wr) nq)
                have HT3 := Lib.hid (show Two (wr.drewN nq) (wo.heap.size + 1) v1 v2 (lo.take j) (hi.take j) from HT3.out.below HDR.out)
                have HV3 := Lib.hid (show Var2 (wr.drewN nq) wo.heap.size v1 v2 from HV3.out.below HDR.out (by have := HS3.out; omega))
                have HB3 := Lib.hid (show Below wo.heap.size wo (wr.drewN nq) from below_drewN HB3.out nq)
                have HS3 := Lib.hid (show wo.heap.size + 1 ≤ (wr.drewN nq).heap.size from Nat.le_trans HS3.out HDR.out.size)
                generalize wr.drewN nq = w4 at *
                clear k1 k2 hc1 hc2 HDR
                obtain ⟨⟨i1, i2, _⟩, i3, i4⟩ := HV3.out
                have HBT := Lib.hid (below_step HBW.out HB3.out)
                have KC4 := Lib.hid (KC.out.below HBT.out)
                obtain ⟨k5, k6, _⟩ := KC4.out.box
                go_wp2_with fail
                have HC1 := Lib.hid (KC4.out.lo.at_ hjn)
                obtain ⟨ad3, x3, rfl, hx3, hc1⟩ := KC4.out.lo.at_ hjn
                obtain ⟨ad4, y3, rfl, hy3, hc2⟩ := KC4.out.hi.at_ hjn
                obtain rfl : x = x3 := by have := HX1.out hjk; rw [this] at hx3; exact Option.some.inj hx3
                obtain rfl : y = y3 := by have := HY1.out hjk; rw [this] at hy3; exact Option.some.inj hy3
                clear hx3 hy3 HC1
                have k1 := k5; have k2 := k6
                go_quiet (fail)
                have HDR := Lib.hid (below_drewN (Below.refl w4.heap.size w4) nq)
                have HT3 := Lib.hid (show Two (w4.drewN nq) (wo.heap.size + 1) v1 v2 (lo.take j) (hi.take j) from HT3.out.below HDR.out)
                have HV3 := Lib.hid (show Var2 (w4.drewN nq) wo.heap.size v1 v2 from HV3.out.below HDR.out (by have := HS3.out; omega))
                have HB3 := Lib.hid (show Below wo.heap.size wo (w4.drewN nq) from below_drewN HB3.out nq)
                have HS3 := Lib.hid (show wo.heap.size + 1 ≤ (w4.drewN nq).heap.size from Nat.le_trans HS3.out HDR.out.size)
                generalize w4.drewN nq = w6 at *
                clear k1 k2 hc1 hc2 HDR
                obtain ⟨⟨i1, i2, _⟩, i3, i4⟩ := HV3.out
                have HBT := Lib.hid (below_step HBW.out HB3.out)
                have KC4 := Lib.hid (KC.out.below HBT.out)
                obtain ⟨k5, k6, _⟩ := KC4.out.box
                go_wp2_with (first
                         | (at_builtin; refine wpList_pushT (by rfl) (.tmp 92) (.tmp 94) (by rfl) _ _ _ _ (by rfl) HT3.out (Below.refl (wo.heap.size + 1) _) HS3.out _ _ (by rfl) j HLJ.out (by omega) ?_
                            intro P5 p5 w5 hT5 hB5
                            have HT5 := Lib.hid (show Two w5 (wo.heap.size + 1) (.slice P5 (j + 1) p5) v2 (lo.take (j + 1)) (hi.take j) by rw [HNX.out]; exact hT5)
                            have HV5 := Lib.hid (HV3.out.below hB5 (by omega))
                            have HB5 := Lib.hid (show Below wo.heap.size wo w5 from HB3.out.trans (hB5.mono (Nat.le_succ _)))
                            have HS5 := Lib.hid (Nat.le_trans HS3.out hB5.size)
                            obtain ⟨⟨i1, i2, _⟩, i3, i4⟩ := HV5.out
                            have HV6 := Lib.hid (HV5.out.set0 (.slice P5 (j + 1) p5))
                            have HT6 := Lib.hid (HT5.out.put1 (p := wo.heap.size) (j := 0) (by omega) (.slice P5 (j + 1) p5))
                            have HB6 := Lib.hid (HB5.out.setCell (p := ⟨wo.heap.size, 0, none⟩) (Nat.le_refl _) (.slice P5 (j + 1) p5))
                            have HS6 := Lib.hid (show wo.heap.size + 1 ≤ (w5.setCell ⟨wo.heap.size, 0, none⟩ (.slice P5 (j + 1) p5)).heap.size by simpa [World.setCell] using HS5.out)
                            clear hT5 hB5)
                         | (at_builtin; refine wpList_pushT2 (by rfl) (.tmp 98) (.tmp 100) (by rfl) _ _ _ _ (by rfl) HT6.out.symm (Below.refl (wo.heap.size + 1) _) HS6.out _ _ (by rfl) (by simp [World.setCell]) j HLK.out (by omega) ?_
                            intro P7 p7 w7 hT7 hB7
                            have HT7 := Lib.hid (show Two w7 (wo.heap.size + 1) (.slice P5 (j + 1) p5) (.slice P7 (j + 1) p7) (lo.take (j + 1)) (hi.take (j + 1)) by rw [HNY.out]; exact hT7.symm)
                            have HV7 := Lib.hid (HV6.out.below hB7 (by omega))
                            have HB7 := Lib.hid (show Below wo.heap.size wo w7 from HB6.out.trans (hB7.mono (Nat.le_succ _)))
                            have HS7 := Lib.hid (Nat.le_trans HS6.out hB7.size)
                            obtain ⟨⟨j1, j2, _⟩, j3, j4⟩ := HV7.out
                            have HV8 := Lib.hid (HV7.out.set1 (.slice P7 (j + 1) p7))
                            have HT8 := Lib.hid (HT7.out.put1 (p := wo.heap.size) (j := 1) (by omega) (.slice P7 (j + 1) p7))
                            have HB8 := Lib.hid (HB7.out.setCell (p := ⟨wo.heap.size, 1, none⟩) (Nat.le_refl _) (.slice P7 (j + 1) p7))
                            have HS8 := Lib.hid (show wo.heap.size + 1 ≤ (w7.setCell ⟨wo.heap.size, 1, none⟩ (.slice P7 (j + 1) p7)).heap.size by simpa [World.setCell] using HS7.out)
                            clear hT7 hB7))
                go_roundw
                case rel => exact ⟨j + 1, by have := HJN.out; omega, by go_num, _, _, HT8, HV8, HB8, HS8⟩
                case measure => have := HJN.out; first | (simp [intOf]; done) | (simp [intOf]; omega)
              · by_cases hje : j = k
                · subst hje
                  obtain rfl : x = g := HX2.out rfl
                  obtain rfl : y = h := HY2.out rfl
                  have hd1 : ¬ (j : Int) < (j : Int) := by omega
                  obtain rfl : y = y0 := by have h := HQ.out.2.1; rw [HY0.out] at h; exact (Option.some.inj h).symm
                  go_wp2_with fail
                  go_quiet (fail)
                  have HDR := Lib.hid (below_drewN (Below.refl wr.heap.size wr) nq)
                  have HT3 := Lib.hid (show Two (wr.drewN nq) (wo.heap.size + 1) v1 v2 (lo.take j) (hi.take j) from HT3.out.below HDR.out)
                  have HV3 := Lib.hid (show Var2 (wr.drewN nq) wo.heap.size v1 v2 from HV3.out.below HDR.out (by have := HS3.out; omega))
                  have HB3 := Lib.hid (show Below wo.heap.size wo (wr.drewN nq) from below_drewN HB3.out nq)
                  have HS3 := Lib.hid (show wo.heap.size + 1 ≤ (wr.drewN nq).heap.size from Nat.le_trans HS3.out HDR.out.size)
                  generalize wr.drewN nq = w4 at *
                  clear k1 k2 hc1 hc2 HDR
                  obtain ⟨⟨i1, i2, _⟩, i3, i4⟩ := HV3.out
                  have HBT := Lib.hid (below_step HBW.out HB3.out)
                  have KC4 := Lib.hid (KC.out.below HBT.out)
                  obtain ⟨k5, k6, _⟩ := KC4.out.box
                  obtain ⟨ad3, x3, rfl, hx3, hc1⟩ := KC4.out.hi.at_ hjn
                  obtain rfl : x = x3 := by have h := HQ.out.2.2.2; rw [hx3] at h; exact (Option.some.inj h).symm
                  clear hx3
                  go_wp2_with (first
                           | (at_builtin; refine wpList_pushT (by rfl) (.tmp 92) (.tmp 94) (by rfl) _ _ _ _ (by rfl) HT3.out (Below.refl (wo.heap.size + 1) _) HS3.out _ _ (by rfl) j HLJ.out (by omega) ?_
                              intro P5 p5 w5 hT5 hB5
                              have HT5 := Lib.hid (show Two w5 (wo.heap.size + 1) (.slice P5 (j + 1) p5) v2 (lo.take (j + 1)) (hi.take j) by rw [HNX.out]; exact hT5)
                              have HV5 := Lib.hid (HV3.out.below hB5 (by omega))
                              have HB5 := Lib.hid (show Below wo.heap.size wo w5 from HB3.out.trans (hB5.mono (Nat.le_succ _)))
                              have HS5 := Lib.hid (Nat.le_trans HS3.out hB5.size)
                              obtain ⟨⟨i1, i2, _⟩, i3, i4⟩ := HV5.out
                              have HV6 := Lib.hid (HV5.out.set0 (.slice P5 (j + 1) p5))
                              have HT6 := Lib.hid (HT5.out.put1 (p := wo.heap.size) (j := 0) (by omega) (.slice P5 (j + 1) p5))
                              have HB6 := Lib.hid (HB5.out.setCell (p := ⟨wo.heap.size, 0, none⟩) (Nat.le_refl _) (.slice P5 (j + 1) p5))
                              have HS6 := Lib.hid (show wo.heap.size + 1 ≤ (w5.setCell ⟨wo.heap.size, 0, none⟩ (.slice P5 (j + 1) p5)).heap.size by simpa [World.setCell] using HS5.out)
                              clear hT5 hB5)
                           | (at_builtin; refine wpList_pushT2 (by rfl) (.tmp 98) (.tmp 100) (by rfl) _ _ _ _ (by rfl) HT6.out.symm (Below.refl (wo.heap.size + 1) _) HS6.out _ _ (by rfl) (by simp [World.setCell]) j HLK.out (by omega) ?_
                              intro P7 p7 w7 hT7 hB7
                              have HT7 := Lib.hid (show Two w7 (wo.heap.size + 1) (.slice P5 (j + 1) p5) (.slice P7 (j + 1) p7) (lo.take (j + 1)) (hi.take (j + 1)) by rw [HNY.out]; exact hT7.symm)
                              have HV7 := Lib.hid (HV6.out.below hB7 (by omega))
                              have HB7 := Lib.hid (show Below wo.heap.size wo w7 from HB6.out.trans (hB7.mono (Nat.le_succ _)))
                              have HS7 := Lib.hid (Nat.le_trans HS6.out hB7.size)
                              obtain ⟨⟨j1, j2, _⟩, j3, j4⟩ := HV7.out
                              have HV8 := Lib.hid (HV7.out.set1 (.slice P7 (j + 1) p7))
                              have HT8 := Lib.hid (HT7.out.put1 (p := wo.heap.size) (j := 1) (by omega) (.slice P7 (j + 1) p7))
                              have HB8 := Lib.hid (HB7.out.setCell (p := ⟨wo.heap.size, 1, none⟩) (Nat.le_refl _) (.slice P7 (j + 1) p7))
                              have HS8 := Lib.hid (show wo.heap.size + 1 ≤ (w7.setCell ⟨wo.heap.size, 1, none⟩ (.slice P7 (j + 1) p7)).heap.size by simpa [World.setCell] using HS7.out)
                              clear hT7 hB7))
                  go_roundw
                  case rel => exact ⟨j + 1, by have := HJN.out; omega, by go_num, _, _, HT8, HV8, HB8, HS8⟩
                  case measure => have := HJN.out; first | (simp [intOf]; done) | (simp [intOf]; omega)
                · have hd1 : ¬ (j : Int) < (k : Int) := by omega
                  have hd2 : ((j : Int) == (k : Int)) = false := by simp; omega
                  obtain rfl : x = x0 := by have h := HX3.out (by omega); rw [HX0.out] at h; exact (Option.some.inj h).symm
                  obtain rfl : y = y0 := by have h := HY3.out (by omega); rw [HY0.out] at h; exact (Option.some.inj h).symm
                  go_wp2_with fail
                  go_quiet (fail)
                  have HDR := Lib.hid (below_drewN (Below.refl wr.heap.size wr) nq)
                  have HT3 := Lib.hid (show Two (wr.drewN nq) (wo.heap.size + 1) v1 v2 (lo.take j) (hi.take j) from HT3.out.below HDR.out)
                  have HV3 := Lib.hid (show Var2 (wr.drewN nq) wo.heap.size v1 v2 from HV3.out.below HDR.out (by have := HS3.out; omega))
                  have HB3 := Lib.hid (show Below wo.heap.size wo (wr.drewN nq) from below_drewN HB3.out nq)
                  have HS3 := Lib.hid (show wo.heap.size + 1 ≤ (wr.drewN nq).heap.size from Nat.le_trans HS3.out HDR.out.size)
                  generalize wr.drewN nq = w4 at *
                  clear k1 k2 hc1 hc2 HDR
                  obtain ⟨⟨i1, i2, _⟩, i3, i4⟩ := HV3.out
                  have HBT := Lib.hid (below_step HBW.out HB3.out)
                  have KC4 := Lib.hid (KC.out.below HBT.out)
                  obtain ⟨k5, k6, _⟩ := KC4.out.box
                  go_wp2_with (first
                           | (at_builtin; refine wpList_pushT (by rfl) (.tmp 92) (.tmp 94) (by rfl) _ _ _ _ (by rfl) HT3.out (Below.refl (wo.heap.size + 1) _) HS3.out _ _ (by rfl) j HLJ.out (by omega) ?_
                              intro P5 p5 w5 hT5 hB5
                              have HT5 := Lib.hid (show Two w5 (wo.heap.size + 1) (.slice P5 (j + 1) p5) v2 (lo.take (j + 1)) (hi.take j) by rw [HNX.out]; exact hT5)
                              have HV5 := Lib.hid (HV3.out.below hB5 (by omega))
                              have HB5 := Lib.hid (show Below wo.heap.size wo w5 from HB3.out.trans (hB5.mono (Nat.le_succ _)))
                              have HS5 := Lib.hid (Nat.le_trans HS3.out hB5.size)
                              obtain ⟨⟨i1, i2, _⟩, i3, i4⟩ := HV5.out
                              have HV6 := Lib.hid (HV5.out.set0 (.slice P5 (j + 1) p5))
                              have HT6 := Lib.hid (HT5.out.put1 (p := wo.heap.size) (j := 0) (by omega) (.slice P5 (j + 1) p5))
                              have HB6 := Lib.hid (HB5.out.setCell (p := ⟨wo.heap.size, 0, none⟩) (Nat.le_refl _) (.slice P5 (j + 1) p5))
                              have HS6 := Lib.hid (show wo.heap.size + 1 ≤ (w5.setCell ⟨wo.heap.size, 0, none⟩ (.slice P5 (j + 1) p5)).heap.size by simpa [World.setCell] using HS5.out)
                              clear hT5 hB5)
                           | (at_builtin; refine wpList_pushT2 (by rfl) (.tmp 98) (.tmp 100) (by rfl) _ _ _ _ (by rfl) HT6.out.symm (Below.refl (wo.heap.size + 1) _) HS6.out _ _ (by rfl) (by simp [World.setCell]) j HLK.out (by omega) ?_
                              intro P7 p7 w7 hT7 hB7
                              have HT7 := Lib.hid (show Two w7 (wo.heap.size + 1) (.slice P5 (j + 1) p5) (.slice P7 (j + 1) p7) (lo.take (j + 1)) (hi.take (j + 1)) by rw [HNY.out]; exact hT7.symm)
                              have HV7 := Lib.hid (HV6.out.below hB7 (by omega))
                              have HB7 := Lib.hid (show Below wo.heap.size wo w7 from HB6.out.trans (hB7.mono (Nat.le_succ _)))
                              have HS7 := Lib.hid (Nat.le_trans HS6.out hB7.size)
                              obtain ⟨⟨j1, j2, _⟩, j3, j4⟩ := HV7.out
                              have HV8 := Lib.hid (HV7.out.set1 (.slice P7 (j + 1) p7))
                              have HT8 := Lib.hid (HT7.out.put1 (p := wo.heap.size) (j := 1) (by omega) (.slice P7 (j + 1) p7))
                              have HB8 := Lib.hid (HB7.out.setCell (p := ⟨wo.heap.size, 1, none⟩) (Nat.le_refl _) (.slice P7 (j + 1) p7))
                              have HS8 := Lib.hid (show wo.heap.size + 1 ≤ (w7.setCell ⟨wo.heap.size, 1, none⟩ (.slice P7 (j + 1) p7)).heap.size by simpa [World.setCell] using HS7.out)
                              clear hT7 hB7))
                  go_roundw
                  case rel => exact ⟨j + 1, by have := HJN.out; omega, by go_num, _, _, HT8, HV8, HB8, HS8⟩
                  case measure => have := HJN.out; first | (simp [intOf]; done) | (simp [intOf]; omega)
            · obtain rfl : j = n := by omega
              have hT := HT3.out
              rw [List.take_of_length_le (by rw [HLN.out.1]; omega), List.take_of_length_le (by rw [HLN.out.2]; omega)] at hT
              obtain ⟨X, p, hv1⟩ : ∃ X p, v1 = .slice X j p := by
                obtain ⟨X, p, e, _⟩ := hT.fst.form
                exact ⟨X, p, by rw [e, HLN.out.1]⟩
              obtain ⟨Y, q, hv2⟩ : ∃ X p, v2 = .slice X j p := by
                obtain ⟨X, p, e, _⟩ := hT.snd.form
                exact ⟨X, p, by rw [e, HLN.out.2]⟩
              subst hv1 hv2
              obtain ⟨q0, hq0⟩ : ∃ q, insB lo hi lo = q := ⟨_, rfl⟩
              have PEq := Lib.hid (hq0 ▸ (PE wr X p Y q lo hi hT.fst.rd hT.snd.rd).out : Calls Try.prog 27 #[.agg #[.slice X j p, .slice Y j q]] wr (Says wr !q0))
              have HQ0 := Lib.hid hq0
              have HTE := Lib.hid hT
              have HO3 := Lib.hid (HO.out.below HB3.out)
              clear hT hq0 HT3
              go_wp2_with fail
              refine PEq.out.mono ?_
              rintro e w4 ⟨rfl, hb4⟩
              have HV4 := Lib.hid (HV3.out.below hb4 (by have := HS3.out; omega))
              have HO4 := Lib.hid (HO3.out.below hb4)
              have HB4 := Lib.hid (below_step HBT.out hb4)
              have HBQ := Lib.hid (show V.heap.size ≤ w4.heap.size from HB4.out.size)
              have HVW := Lib.hid (show V.heap.size ≤ wo.heap.size + 1 by have := HBW.out.size; omega)
              have HE4 := Lib.hid (show El w4 (Value.slice P' n' c').ownBlock (.slice X j p) lo ∧ El w4 (Value.slice P' n' c').ownBlock (.slice Y j q) hi from
                ⟨El.of_own (HTE.out.fst.below hb4) (fun g e e' => by have h1 := (HTE.out.fst.lt_ g e).1; have h2 := (HO.out.lt g e').2; omega),
                 El.of_own (HTE.out.snd.below hb4) (fun g e e' => by have h1 := (HTE.out.snd.lt_ g e).1; have h2 := (HO.out.lt g e').2; omega)⟩)
              have HI4 := Lib.hid (And.intro ((lies_own HTE.out.fst).le HVW.out) ((lies_own HTE.out.snd).le HVW.out))
              obtain ⟨⟨i1, i2, _⟩, i3, i4⟩ := HV4.out
              clear hb4 k1 k2
              cases q0
              · have HLX := Lib.hid (show L' = L ++ ([p0, p1].take (1 + 1)).filter neB by
                  rw [HSTEP.out, show [(lo, hi)].filter neB = [] by rw [List.filter_cons_of_neg (by show ¬ insB lo hi lo = true; rw [HQ0.out]; simp)]; rfl, List.append_nil]; exact HL'.out)
                go_wp2_with fail
                go_roundw
                case rel => exact ⟨1 + 1, by omega, by rw [← HSV.out]; rfl, P', n', c', L', rfl, HLL', HO4, HLX, HB4⟩
                case measure => have hsv := HSV.out; first | (simp [intOf]; done) | (simp [intOf]; omega)
              · have HLX := Lib.hid (show L' ++ [(lo, hi)] = L ++ ([p0, p1].take (1 + 1)).filter neB by
                  rw [HSTEP.out, show [(lo, hi)].filter neB = [(lo, hi)] by rw [List.filter_cons_of_pos (by show insB lo hi lo = true; exact HQ0.out)]; rfl, ← List.append_assoc, ← HL'.out])
                go_wp2_with (at_builtin; refine wpList_pushX Try.underlying43 rbox_info (by rfl) (.tmp 106) (.tmp 108) (by rfl) _ L' (by rfl) HO4.out HBQ.out _ _ (lo, hi) HE4.out.1 HE4.out.2 HI4.out.1 HI4.out.2 _ (by rfl) n' HLL'.out (by have := HN32.out; omega) ?_
                             intro P9 c9 w9 ho9 hg9 _
                             have HO9 := Lib.hid ho9
                             have HB9 := Lib.hid (HB4.out.grown hg9 HBQ.out (fun g e => (HO4.out.lt g e).1))
                             clear ho9 hg9)
                go_roundw
                case rel => exact ⟨1 + 1, by omega, by rw [← HSV.out]; rfl, P9, n' + 1, c9, L' ++ [(lo, hi)], rfl, Lib.hid (by rw [List.length_append, HLL'.out]; rfl), HO9, HLX, HB9⟩
                case measure => have hsv := HSV.out; first | (simp [intOf]; done) | (simp [intOf]; omega)
    · obtain rfl : k = n := by omega
      have hLT : L = T := by
        have h := HT.out
        rw [List.drop_of_length_le (l := al) (by rw [HLA.out]; omega)] at h
        simpa [pcs] using h
      have hTn : T.length = n' := by rw [← hLT]; exact HLL.out
      have HRX := Lib.hid (show RdXs wo1 none 0 P' T.length T by rw [hTn, ← hLT]; exact (HO.out.le (Nat.zero_le _)).rd)
      have HTN := Lib.hid hTn
      have HBE := Lib.hid (below_step KA.out.aft HBW.out)
      clear hLT hTn
      go_wp2_with fail
      go_ret
      refine ⟨P', c', ?_, HRX.out, HBE.out⟩
      rw [HTN.out]
      rfl
end Go.Proofs.Ytaegkiangjnmdaa.laws
