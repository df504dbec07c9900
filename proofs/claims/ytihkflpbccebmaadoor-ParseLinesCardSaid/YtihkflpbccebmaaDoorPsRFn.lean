/- The reference of package parse: functions with their axes; operands, all of them. -/
import Derived.Test.YtihkflpbccebmaaDoorPsRNums
namespace Go.Proofs.YtihkflpbccebmaaDoor.ps
open Go.ChangeShapes Go.WideShapes Go.ChangeAt Go.RowKit Go.Proofs.YtihkflpbccebmaaDoor.mem Go.Proofs.YtihkflpbccebmaaDoor.lx Go.Proofs.YtihkflpbccebmaaDoor.tr
set_option linter.unusedVariables false
set_option linter.unusedSimpArgs false

theorem rop_any (n : Nat) (hE : RxAt n) {w : World} {A : Option Addr} {m c mm : Nat} {L : List Tk} (h : RdK w A m L) (hmm : mm ≤ m) (hm : m ≤ 65536) (hmc : m ≤ c) (hcm : c ≤ maxLen) (hok : okL L) (hmn : mm ≤ n + 1) {i : Int} (hi : i = (mm : Int) - 1) :
    Calls Tryd.prog 42 #[.slice A m c, .int .i64 i] w (OpTo w (rOp (rEx n) (pre L mm))) := by
  cases mm with
  | zero =>
    have : i < 0 := by omega
    exact rop_neg n this
  | succ k =>
    obtain rfl : i = (k : Int) := by omega
    obtain ⟨t, ht⟩ : ∃ t, L[k]? = some t := ⟨_, List.getElem?_eq_getElem (by rw [h.1]; omega)⟩
    by_cases h1 : t.k = 1
    · exact rop_name _ h ht hm hok h1
    by_cases h2 : isG t gZil
    · exact rop_zil _ h ht hm h1 h2
    by_cases h3 : t.k = 2
    · exact rop_nums _ h ht hm hok h2 h3
    by_cases h4 : isG t gR
    · exact rop_paren n hE h ht hm hmc hcm hok (by omega) h1 h2 h3 h4
    · exact rop_none _ h ht hm h1 h2 h3 h4
theorem rFn_cons (b : Tk) (r : List Tk) : rFn (b :: r) = if isG b gRB then (match r with
      | x :: lb :: t :: q => if x.k = 2 ∧ 0 ≤ x.n ∧ x.n ≤ 15 ∧ isG lb gLB ∧ t.k = 3 ∧ (fnT t.t = 3 ∨ fnT t.t = 6) then some (fnT t.t, x.n, q) else none
      | _ => none)
    else if b.k = 3 ∧ fnT b.t ≠ 0 then some (fnT b.t, -1, r) else none := rfl
/-- What function answers. -/
def FnTo (w : World) (r : Option (Int × Int × List Tk)) (e : Ending) (w' : World) : Prop := Below w.heap.size w w' ∧ match r with
  | none => ∃ j : Int, e = .returned (.tuple #[.int .i64 0, .int .i64 0, .int .i64 j, .bool false])
  | some (F, ax, q) => e = .returned (.tuple #[.int .i64 F, .int .i64 ax, .int .i64 ((q.length : Int) - 1), .bool true])
set_option maxHeartbeats 2000000 in
/-- A glyph that is no bracket. -/
theorem rfn_plain {w : World} {A : Option Addr} {m c k : Nat} {L : List Tk} {t : Tk} (h : RdK w A m L) (hk : L[k]? = some t) (hm : m ≤ 65536) (ht : ¬ isG t gRB) :
    Calls Tryd.prog 43 #[.slice A m c, .int .i64 k] w (FnTo w (rFn (pre L (k + 1)))) := by
  have hkl := (List.getElem?_eq_some_iff.1 hk).1
  have hmL := h.1
  rw [pre_succ hk, rFn_cons, if_neg ht]
  have HQ := Lib.hid (pre_len (L := L) (m := k) (by omega))
  have P := Lib.hid (glyph_at (c := c) gRB h hk hm)
  rw [decide_eq_false ht] at P
  have PF := Lib.hid (fun V => refFn_any t.k t.n t.t V)
  have HRK := Lib.hid (fun V (hV : Below w.heap.size w V) => h.below hV)
  obtain ⟨ad, rfl, hkn, d0, d1, d2⟩ := rdK_at h hk
  have HC := Lib.hid (fun V (hV : Below w.heap.size w V) => show V.cell? (ad.add (k * 3)) = some (.int .i64 t.k) ∧ V.cell? ⟨(ad.add (k * 3)).block, (ad.add (k * 3)).off + 1, none⟩ = some (.string (txt.strOf t.t)) ∧ V.cell? ⟨(ad.add (k * 3)).block, (ad.add (k * 3)).off + 2, none⟩ = some (.int .i64 t.n) by
    obtain ⟨ad2, e2, _, r0, r1, r2⟩ := rdK_at (HRK.out V hV) hk
    injection e2 with e2
    subst e2
    exact ⟨r0, r1, r2⟩)
  by_cases hF : t.k = 3 ∧ fnT t.t ≠ 0
  · rw [if_pos hF]
    have e1 : fnK t.k t.t = fnT t.t := by unfold fnK; rw [if_pos hF.1]
    rw [e1] at PF
    have e2 : (fnT t.t == 0) = false := by simpa using hF.2
    generalize fnT t.t = F at *
    generalize t.t = tt, t.n = tn, t.k = tk at *
    generalize pre L k = q at *
    clear h hk hkl hmL ht hF e1
    go_enter Tryd.func43, Tryd.ntmps43
    go_wp2_with fail
    refine P.out.mono ?_
    rintro e w1 ⟨rfl, rfl⟩
    go_wp2_with fail
    refine (PF.out _).mono ?_
    rintro e w2 ⟨rfl, hb⟩
    have HB := Lib.hid hb
    obtain ⟨r0, r1, r2⟩ := HC.out w2 hb
    clear hb d0 d1 d2
    go_wp2_with fail
    refine (PF.out _).mono ?_
    rintro e w3 ⟨rfl, hb⟩
    have HB2 := Lib.hid (HB.out.trans (hb.mono HB.out.size))
    clear hb
    go_wp2_with fail
    refine bodyPost_ret (v := .tuple #[.int .i64 F, .int .i64 (-1), .int .i64 ((k : Int) - 1), .bool true]) (by simp [results, Tryd.results43, go_sem]) rfl ?_
    exact ⟨HB2.out, by simp only []; rw [HQ.out]⟩
  · rw [if_neg hF]
    have e1 : fnK t.k t.t = 0 := by
      unfold fnK
      by_cases h3 : t.k = 3
      · rw [if_pos h3]; exact Decidable.byContradiction fun e => hF ⟨h3, e⟩
      · rw [if_neg h3]
    rw [e1] at PF
    generalize t.t = tt, t.n = tn, t.k = tk at *
    clear h hk hkl hmL ht hF e1
    go_enter Tryd.func43, Tryd.ntmps43
    go_wp2_with fail
    refine P.out.mono ?_
    rintro e w1 ⟨rfl, rfl⟩
    go_wp2_with fail
    refine (PF.out _).mono ?_
    rintro e w2 ⟨rfl, hb⟩
    have HB := Lib.hid hb
    clear hb
    go_wp2_with fail
    refine bodyPost_ret (v := .tuple #[.int .i64 0, .int .i64 0, .int .i64 k, .bool false]) (by simp [results, Tryd.results43, go_sem]) rfl ?_
    exact ⟨HB.out, k, rfl⟩
/-- A token's cells in every world behind. -/
theorem rdK_all {w : World} {ad : Addr} {m k : Nat} {L : List Tk} {t : Tk} (h : RdK w (some ad) m L) (hk : L[k]? = some t) : ∀ V, Below w.heap.size w V → V.cell? (ad.add (k * 3)) = some (.int .i64 t.k) ∧ V.cell? ⟨(ad.add (k * 3)).block, (ad.add (k * 3)).off + 1, none⟩ = some (.string (txt.strOf t.t)) ∧ V.cell? ⟨(ad.add (k * 3)).block, (ad.add (k * 3)).off + 2, none⟩ = some (.int .i64 t.n) := fun V hV => by
  obtain ⟨ad2, e2, _, r0, r1, r2⟩ := rdK_at (h.below hV) hk
  injection e2 with e2
  subst e2
  exact ⟨r0, r1, r2⟩
set_option maxHeartbeats 4000000 in
theorem rfn_few {w : World} {A : Option Addr} {m c k : Nat} {L : List Tk} {b : Tk} (h : RdK w A m L) (hk : L[k]? = some b) (hm : m ≤ 65536) (hb : isG b gRB) (h3 : k < 3) :
    Calls Tryd.prog 43 #[.slice A m c, .int .i64 k] w (FnTo w (rFn (pre L (k + 1)))) := by
  have hkl := (List.getElem?_eq_some_iff.1 hk).1
  have e0 : rFn (pre L (k + 1)) = none := by
    rw [pre_succ hk, rFn_cons, if_pos hb]
    have hl := pre_len (L := L) (m := k) (by omega)
    match hp : pre L k with
    | [] => rfl
    | [_] => rfl
    | [_, _] => rfl
    | x :: y :: z :: q => rw [hp] at hl; simp at hl; omega
  rw [e0]
  have P := Lib.hid (glyph_at (c := c) gRB h hk hm)
  rw [decide_eq_true hb] at P
  have hlt : decide ((k : Int) < 3) = true := decide_eq_true (by omega)
  clear h hk hkl e0 hb
  go_enter Tryd.func43, Tryd.ntmps43
  go_wp2_with fail
  refine P.out.mono ?_
  rintro e w1 ⟨rfl, rfl⟩
  go_wp2_with fail
  refine bodyPost_ret (v := .tuple #[.int .i64 0, .int .i64 0, .int .i64 k, .bool false]) (by simp [results, Tryd.results43, go_sem]) rfl ?_
  exact ⟨Below.refl _ _, k, rfl⟩
set_option maxHeartbeats 8000000 in
theorem rfn_axis {w : World} {A : Option Addr} {m c k k1 k2 k3 : Nat} {L : List Tk} {b x lb t : Tk} (h : RdK w A m L) (hk : L[k]? = some b) (hm : m ≤ 65536) (hb : isG b gRB) (e1 : k = k1 + 1) (e2 : k1 = k2 + 1) (e3 : k2 = k3 + 1) (hx : L[k1]? = some x) (hlb : L[k2]? = some lb) (ht : L[k3]? = some t) :
    Calls Tryd.prog 43 #[.slice A m c, .int .i64 k] w (FnTo w (rFn (pre L (k + 1)))) := by
  have hkl := (List.getElem?_eq_some_iff.1 hk).1
  have hmL := h.1
  have e0 : rFn (pre L (k + 1)) = if x.k = 2 ∧ 0 ≤ x.n ∧ x.n ≤ 15 ∧ isG lb gLB ∧ t.k = 3 ∧ (fnT t.t = 3 ∨ fnT t.t = 6) then some (fnT t.t, x.n, pre L k3) else none := by
    rw [pre_succ hk, rFn_cons, if_pos hb, e1, pre_succ hx, e2, pre_succ hlb, e3, pre_succ ht]
  rw [e0]
  have HQ := Lib.hid (pre_len (L := L) (m := k3) (by omega))
  have P := Lib.hid (glyph_at (c := c) gRB h hk hm)
  rw [decide_eq_true hb] at P
  have P2 := Lib.hid (glyph_at (c := c) gLB h hlb hm)
  have PF := Lib.hid (fun V => refFn_any t.k t.n t.t V)
  obtain ⟨ad, rfl, hkn, d0, d1, d2⟩ := rdK_at h hk
  have HX := Lib.hid (rdK_all h hx)
  have HT := Lib.hid (rdK_all h ht)
  obtain ⟨x0, x1, x2⟩ := HX.out w (Below.refl _ _)
  obtain ⟨t0, t1, t2⟩ := HT.out w (Below.refl _ _)
  have i1 : (k : Int) - 1 = (k1 : Int) := by omega
  have i2 : (k : Int) - 2 = (k2 : Int) := by omega
  have i3 : (k : Int) - 3 = (k3 : Int) := by omega
  have i4 : decide ((k : Int) < 3) = false := decide_eq_false (by omega)
  have i5 : (k3 : Int) - 1 = (k3 : Int) - 1 := rfl
  have b1 : k1 < m := by omega
  have b3 : k3 < m := by omega
  clear hk e1 e2 e3 hx hlb ht hb e0 hkl hmL h d0 d1 d2 i5
  by_cases h1 : x.k = 2
  · have g1 : (x.k != 2) = false := by rw [h1]; rfl
    have g1' : (x.k == 2) = true := by rw [h1]; rfl
    by_cases h2 : x.n < 0
    · rw [if_neg (fun e => by omega)]
      generalize x.k = xk, x.t = xt, x.n = xn at *
      clear h1 HX HT
      go_enter Tryd.func43, Tryd.ntmps43
      go_wp2_with fail
      refine P.out.mono ?_
      rintro e w1 ⟨rfl, rfl⟩
      go_wp2_with fail
      refine bodyPost_ret (v := .tuple #[.int .i64 0, .int .i64 0, .int .i64 k, .bool false]) (by simp [results, Tryd.results43, go_sem]) rfl ?_
      exact ⟨Below.refl _ _, k, rfl⟩
    · by_cases h3 : 15 < x.n
      · rw [if_neg (fun e => by omega)]
        generalize x.k = xk, x.t = xt, x.n = xn at *
        clear h1 HX HT
        go_enter Tryd.func43, Tryd.ntmps43
        go_wp2_with fail
        refine P.out.mono ?_
        rintro e w1 ⟨rfl, rfl⟩
        go_wp2_with fail
        refine bodyPost_ret (v := .tuple #[.int .i64 0, .int .i64 0, .int .i64 k, .bool false]) (by simp [results, Tryd.results43, go_sem]) rfl ?_
        exact ⟨Below.refl _ _, k, rfl⟩
      · by_cases h4 : isG lb gLB
        · rw [decide_eq_true h4] at P2
          have HF : Hid ((x.k = 2 ∧ 0 ≤ x.n ∧ x.n ≤ 15 ∧ isG lb gLB ∧ t.k = 3 ∧ (fnT t.t = 3 ∨ fnT t.t = 6)) ↔ (fnK t.k t.t = 3 ∨ fnK t.k t.t = 6)) := Lib.hid (by
            unfold fnK
            constructor
            · rintro ⟨_, _, _, _, q1, q2⟩; rw [if_pos q1]; exact q2
            · intro q
              by_cases q1 : t.k = 3
              · rw [if_pos q1] at q; exact ⟨h1, by omega, by omega, h4, q1, q⟩
              · rw [if_neg q1] at q; omega)
          by_cases h5 : fnK t.k t.t = 3 ∨ fnK t.k t.t = 6
          · rw [if_pos (HF.out.2 h5)]
            have HFE : Hid (fnT t.t = fnK t.k t.t) := Lib.hid (by unfold fnK; rw [if_pos (HF.out.2 h5).2.2.2.2.1])
            rw [HFE.out]
            have hf0 : (fnK t.k t.t == 0) = false := by simp; omega
            have hf : ((fnK t.k t.t != 3) = false ∧ (fnK t.k t.t == 3) = true) ∨ ((fnK t.k t.t != 3) = true ∧ (fnK t.k t.t == 3) = false ∧ (fnK t.k t.t != 6) = false ∧ (fnK t.k t.t == 6) = true) := by
              rcases h5 with q | q
              · left; rw [q]; exact ⟨rfl, rfl⟩
              · right; rw [q]; exact ⟨rfl, rfl, rfl, rfl⟩
            have hx0 : 0 ≤ x.n := by omega
            generalize fnK t.k t.t = F at *
            generalize x.k = xk, x.t = xt, x.n = xn, t.k = tk, t.t = tt, t.n = tn at *
            generalize pre L k3 = q at *
            clear h1 HF HFE h5
            rcases hf with ⟨hf1, hf2⟩ | ⟨hf1, hf2, hf3, hf4⟩
            · go_enter Tryd.func43, Tryd.ntmps43
              go_wp2_with fail
              refine P.out.mono ?_
              rintro e w1 ⟨rfl, rfl⟩
              go_wp2_with fail
              refine P2.out.mono ?_
              rintro e w1 ⟨rfl, rfl⟩
              go_wp2_with fail
              refine (PF.out _).mono ?_
              rintro e v1 ⟨rfl, hb⟩
              have HB1 := Lib.hid (hb)
              clear hb t0 t1 t2
              obtain ⟨t0, t1, t2⟩ := HT.out v1 HB1.out
              go_wp2_with fail
              refine (PF.out _).mono ?_
              rintro e v2 ⟨rfl, hb⟩
              have HB2 := Lib.hid (HB1.out.trans (hb.mono HB1.out.size))
              clear hb t0 t1 t2
              obtain ⟨t0, t1, t2⟩ := HT.out v2 HB2.out
              go_wp2_with fail
              refine (PF.out _).mono ?_
              rintro e v3 ⟨rfl, hb⟩
              have HB3 := Lib.hid (HB2.out.trans (hb.mono HB2.out.size))
              clear hb t0 t1 t2
              obtain ⟨t0, t1, t2⟩ := HT.out v3 HB3.out
              go_wp2_with fail
              refine bodyPost_ret (v := .tuple #[.int .i64 F, .int .i64 xn, .int .i64 ((k3 : Int) - 1), .bool true]) (by simp [results, Tryd.results43, go_sem]) rfl ?_
              exact ⟨HB3.out, by simp only []; rw [HQ.out]⟩
            · go_enter Tryd.func43, Tryd.ntmps43
              go_wp2_with fail
              refine P.out.mono ?_
              rintro e w1 ⟨rfl, rfl⟩
              go_wp2_with fail
              refine P2.out.mono ?_
              rintro e w1 ⟨rfl, rfl⟩
              go_wp2_with fail
              refine (PF.out _).mono ?_
              rintro e v1 ⟨rfl, hb⟩
              have HB1 := Lib.hid (hb)
              clear hb t0 t1 t2
              obtain ⟨t0, t1, t2⟩ := HT.out v1 HB1.out
              go_wp2_with fail
              refine (PF.out _).mono ?_
              rintro e v2 ⟨rfl, hb⟩
              have HB2 := Lib.hid (HB1.out.trans (hb.mono HB1.out.size))
              clear hb t0 t1 t2
              obtain ⟨t0, t1, t2⟩ := HT.out v2 HB2.out
              go_wp2_with fail
              refine (PF.out _).mono ?_
              rintro e v3 ⟨rfl, hb⟩
              have HB3 := Lib.hid (HB2.out.trans (hb.mono HB2.out.size))
              clear hb t0 t1 t2
              obtain ⟨t0, t1, t2⟩ := HT.out v3 HB3.out
              go_wp2_with fail
              refine (PF.out _).mono ?_
              rintro e v4 ⟨rfl, hb⟩
              have HB4 := Lib.hid (HB3.out.trans (hb.mono HB3.out.size))
              clear hb t0 t1 t2
              obtain ⟨t0, t1, t2⟩ := HT.out v4 HB4.out
              go_wp2_with fail
              refine bodyPost_ret (v := .tuple #[.int .i64 F, .int .i64 xn, .int .i64 ((k3 : Int) - 1), .bool true]) (by simp [results, Tryd.results43, go_sem]) rfl ?_
              exact ⟨HB4.out, by simp only []; rw [HQ.out]⟩
          · rw [if_neg (fun e => h5 (HF.out.1 e))]
            have hx0 : 0 ≤ x.n := by omega
            have hf : (fnK t.k t.t == 0) = true ∨ ((fnK t.k t.t == 0) = false ∧ (fnK t.k t.t != 3) = true ∧ (fnK t.k t.t == 3) = false ∧ (fnK t.k t.t != 6) = true ∧ (fnK t.k t.t == 6) = false) := by
              by_cases q : fnK t.k t.t = 0
              · left; rw [q]; rfl
              · right
                have q3 : fnK t.k t.t ≠ 3 := fun e => h5 (.inl e)
                have q6 : fnK t.k t.t ≠ 6 := fun e => h5 (.inr e)
                exact ⟨by simpa using q, by simpa using q3, by simpa using q3, by simpa using q6, by simpa using q6⟩
            generalize fnK t.k t.t = F at *
            generalize x.k = xk, x.t = xt, x.n = xn, t.k = tk, t.t = tt, t.n = tn at *
            clear h1 HF h5
            rcases hf with hf0 | ⟨hf0, hf1, hf2, hf3, hf4⟩
            · go_enter Tryd.func43, Tryd.ntmps43
              go_wp2_with fail
              refine P.out.mono ?_
              rintro e w1 ⟨rfl, rfl⟩
              go_wp2_with fail
              refine P2.out.mono ?_
              rintro e w1 ⟨rfl, rfl⟩
              go_wp2_with fail
              refine (PF.out _).mono ?_
              rintro e v1 ⟨rfl, hb⟩
              have HB1 := Lib.hid (hb)
              clear hb t0 t1 t2
              obtain ⟨t0, t1, t2⟩ := HT.out v1 HB1.out
              go_wp2_with fail
              refine bodyPost_ret (v := .tuple #[.int .i64 0, .int .i64 0, .int .i64 k3, .bool false]) (by simp [results, Tryd.results43, go_sem]) rfl ?_
              exact ⟨HB1.out, k3, rfl⟩
            · go_enter Tryd.func43, Tryd.ntmps43
              go_wp2_with fail
              refine P.out.mono ?_
              rintro e w1 ⟨rfl, rfl⟩
              go_wp2_with fail
              refine P2.out.mono ?_
              rintro e w1 ⟨rfl, rfl⟩
              go_wp2_with fail
              refine (PF.out _).mono ?_
              rintro e v1 ⟨rfl, hb⟩
              have HB1 := Lib.hid (hb)
              clear hb t0 t1 t2
              obtain ⟨t0, t1, t2⟩ := HT.out v1 HB1.out
              go_wp2_with fail
              refine (PF.out _).mono ?_
              rintro e v2 ⟨rfl, hb⟩
              have HB2 := Lib.hid (HB1.out.trans (hb.mono HB1.out.size))
              clear hb t0 t1 t2
              obtain ⟨t0, t1, t2⟩ := HT.out v2 HB2.out
              go_wp2_with fail
              refine (PF.out _).mono ?_
              rintro e v3 ⟨rfl, hb⟩
              have HB3 := Lib.hid (HB2.out.trans (hb.mono HB2.out.size))
              clear hb t0 t1 t2
              obtain ⟨t0, t1, t2⟩ := HT.out v3 HB3.out
              go_wp2_with fail
              refine bodyPost_ret (v := .tuple #[.int .i64 0, .int .i64 0, .int .i64 k3, .bool false]) (by simp [results, Tryd.results43, go_sem]) rfl ?_
              exact ⟨HB3.out, k3, rfl⟩
        · rw [if_neg (fun e => h4 e.2.2.2.1)]
          rw [decide_eq_false h4] at P2
          generalize x.k = xk, x.t = xt, x.n = xn at *
          clear h1 HX HT
          go_enter Tryd.func43, Tryd.ntmps43
          go_wp2_with fail
          refine P.out.mono ?_
          rintro e w1 ⟨rfl, rfl⟩
          go_wp2_with fail
          refine P2.out.mono ?_
          rintro e w1 ⟨rfl, rfl⟩
          go_wp2_with fail
          refine bodyPost_ret (v := .tuple #[.int .i64 0, .int .i64 0, .int .i64 k, .bool false]) (by simp [results, Tryd.results43, go_sem]) rfl ?_
          exact ⟨Below.refl _ _, k, rfl⟩
  · have g1 : (x.k != 2) = true := by simpa using h1
    have g1' : (x.k == 2) = false := by simpa using h1
    rw [if_neg (fun e => h1 e.1)]
    generalize x.k = xk, x.t = xt, x.n = xn at *
    clear h1 HX HT
    go_enter Tryd.func43, Tryd.ntmps43
    go_wp2_with fail
    refine P.out.mono ?_
    rintro e w1 ⟨rfl, rfl⟩
    go_wp2_with fail
    refine bodyPost_ret (v := .tuple #[.int .i64 0, .int .i64 0, .int .i64 k, .bool false]) (by simp [results, Tryd.results43, go_sem]) rfl ?_
    exact ⟨Below.refl _ _, k, rfl⟩
theorem rfn_any {w : World} {A : Option Addr} {m c mm : Nat} {L : List Tk} (h : RdK w A m L) (hmm : mm ≤ m) (hm : m ≤ 65536) (h1 : 1 ≤ mm) {i : Int} (hi : i = (mm : Int) - 1) :
    Calls Tryd.prog 43 #[.slice A m c, .int .i64 i] w (FnTo w (rFn (pre L mm))) := by
  cases mm with
  | zero => omega
  | succ k =>
    obtain rfl : i = (k : Int) := by omega
    have hat : ∀ q, q < m → ∃ t, L[q]? = some t := fun q hq => ⟨_, List.getElem?_eq_getElem (by rw [h.1]; exact hq)⟩
    obtain ⟨b, hb⟩ := hat k (by omega)
    by_cases hg : isG b gRB
    · by_cases h3 : k < 3
      · exact rfn_few h hb hm hg h3
      · obtain ⟨x, hx⟩ := hat (k - 1) (by omega)
        obtain ⟨lb, hlb⟩ := hat (k - 2) (by omega)
        obtain ⟨t, ht⟩ := hat (k - 3) (by omega)
        exact rfn_axis h hb hm hg (k1 := k - 1) (k2 := k - 2) (k3 := k - 3) (by omega) (by omega) (by omega) hx hlb ht
    · exact rfn_plain h hb hm hg
end Go.Proofs.YtihkflpbccebmaaDoor.ps
