/- The reference of package parse: the function of a token, glyphs, parentheses. The reference of package parse: the parenthesis that belongs to a closing one. The reference of package parse: operands. The reference of package parse: operands at an index. -/
import Derived.Test.YthgojbaindejjaaGreatDoorPsMath
import Derived.Test.YthgojbaindejjaaGreatDoorTokSame
import Derived.Test.YthgojbaindejjaaGreatDoorPsCell
import Derived.Test.YthgojbaindejjaaGreatDoorPsNode
import Derived.Test.YthgojbaindejjaaGreatDoorPsExpr
import Derived.Deep.Cut
import Derived.Deep.RegionHeld3
import Derived.Deep.CutBlock
/- The reference of package parse: the function of a token, glyphs, parentheses. -/
namespace Go.Proofs.YthgojbaindejjaaGreatDoor.ps
open Go.ChangeShapes Go.WideShapes Go.ChangeAt Go.RowKit Go.Proofs.YthgojbaindejjaaGreatDoor.mem Go.Proofs.YthgojbaindejjaaGreatDoor.lx Go.Proofs.YthgojbaindejjaaGreatDoor.tr
set_option linter.unusedVariables false
set_option linter.unusedSimpArgs false

/-- The function of a token. -/
def fnK (kd : Int) (t : List UInt8) : Int := if kd = 3 then fnT t else 0
def tabG : Nat → List UInt8
  | 0 => gUp
  | 1 => gDn
  | 2 => gRev
  | 3 => gTrn
  | 4 => gRho
  | _ => gCom
theorem fnK_at {kd : Int} {t : List UInt8} {k : Nat} (h : k < 6) : (kd = 3 ∧ t = tabG k) ↔ fnK kd t = k + 1 := by
  unfold fnK
  by_cases hk : kd = 3
  · rw [if_pos hk]
    constructor
    · rintro ⟨_, rfl⟩
      match k, h with
      | 0, _ => rfl
      | 1, _ => rfl
      | 2, _ => rfl
      | 3, _ => rfl
      | 4, _ => rfl
      | 5, _ => rfl
    · intro e
      refine ⟨hk, ?_⟩
      rcases fnT_cases t with ⟨h0, _⟩ | ⟨h0, rfl⟩ | ⟨h0, rfl⟩ | ⟨h0, rfl⟩ | ⟨h0, rfl⟩ | ⟨h0, rfl⟩ | ⟨h0, rfl⟩
      · omega
      · obtain rfl : k = 0 := by omega
        rfl
      · obtain rfl : k = 1 := by omega
        rfl
      · obtain rfl : k = 2 := by omega
        rfl
      · obtain rfl : k = 3 := by omega
        rfl
      · obtain rfl : k = 4 := by omega
        rfl
      · obtain rfl : k = 5 := by omega
        rfl
  · rw [if_neg hk]
    exact ⟨fun e => absurd e.1 hk, fun e => by omega⟩
theorem fnK_range (kd : Int) (t : List UInt8) : 0 ≤ fnK kd t ∧ fnK kd t ≤ 6 := by
  unfold fnK
  split
  · exact fn_range t
  · omega
set_option maxHeartbeats 2000000 in
theorem refFn_any (kd n : Int) (t : List UInt8) (w : World) : Calls Tryz.prog 84 #[.agg #[.int .i64 kd, .string (txt.strOf t), .int .i64 n]] w fun e w' => e = .returned (.int .i64 (fnK kd t)) ∧ Below w.heap.size w w' := by
  obtain ⟨w1, hw1⟩ : ∃ w1, w1 = w.alloc (.cells #[.int .i64 kd, .string (txt.strOf t), .int .i64 n] 80) := ⟨_, rfl⟩
  obtain ⟨hb1, hs1, hf1, k1⟩ := one_box3 hw1
  obtain ⟨W, hW⟩ : ∃ W, W = w1.alloc (.cells #[.string ⟨#[226, 134, 145]⟩, .string ⟨#[226, 134, 147]⟩, .string ⟨#[226, 140, 189]⟩, .string ⟨#[226, 141, 137]⟩, .string ⟨#[226, 141, 180]⟩, .string ⟨#[44]⟩] 9) := ⟨_, rfl⟩
  have hb2 : Below w1.heap.size w1 W := by rw [hW]; exact Joins.below_alloc1 _ _
  have hs2 : W.heap.size = w1.heap.size + 1 := by rw [hW]; simp
  have HC : Hid (∀ V, Below W.heap.size W V → V.cell? ⟨w.heap.size, 0, none⟩ = some (.int .i64 kd) ∧ V.cell? ⟨w.heap.size, 1, none⟩ = some (.string (txt.strOf t)) ∧ ∀ k, k < 6 → V.cell? ⟨w.heap.size + 1, k, none⟩ = some (.string (txt.strOf (tabG k)))) := Lib.hid fun V hV => by
    obtain ⟨c0, c1, c2⟩ := k1 V (hb2.trans (hV.mono hb2.size))
    refine ⟨c0, c1, fun k hk => ?_⟩
    rw [← hs1]
    refine (hV.cell (p := ⟨w1.heap.size, k, none⟩) (show w1.heap.size < W.heap.size by omega)).trans ?_
    rw [hW, cell_of_row _ _ _ _ 9 (0, 0) (heap_alloc_new w1 _)]
    match k, hk with
    | 0, _ => rfl
    | 1, _ => rfl
    | 2, _ => rfl
    | 3, _ => rfl
    | 4, _ => rfl
    | 5, _ => rfl
  have HW : Hid (W = (w.alloc (.cells #[.int .i64 kd, .string (txt.strOf t), .int .i64 n] 80)).alloc (.cells #[.string ⟨#[226, 134, 145]⟩, .string ⟨#[226, 134, 147]⟩, .string ⟨#[226, 140, 189]⟩, .string ⟨#[226, 141, 137]⟩, .string ⟨#[226, 141, 180]⟩, .string ⟨#[44]⟩] 9)) := Lib.hid (by rw [hW, hw1])
  have HB := Lib.hid (hb1.trans (hb2.mono hb1.size))
  have HR := Lib.hid (fnK_range kd t)
  have HT := Lib.hid (fun k (h : k < 6) => fnK_at (kd := kd) (t := t) h)
  obtain ⟨F, hF⟩ : ∃ F, F = fnK kd t := ⟨_, rfl⟩
  rw [← hF] at HR HT ⊢
  clear hw1 hb1 hs1 hf1 k1 hW hb2 hs2 hF
  go_enter Tryz.func84, Tryz.ntmps84
  go_upto_region 2 with fail
  rw [← HW.out]
  have HB0 := Lib.hid (Below.refl W.heap.size W)
  go_wp2_with fail
  go_loopw [4] (fun i wr => ∃ k : Nat, k ≤ 6 ∧ i = .int .i64 k ∧ Hid (Below W.heap.size W wr) ∧ Hid (F = 0 ∨ (k : Int) < F)) (fun i _ => 6 - (intOf i).toNat)
  case atStart => exact ⟨0, by omega, rfl, HB0, Lib.hid (by have := HR.out; omega)⟩
  case round =>
    obtain ⟨k, hk, rfl, HBR, HK⟩ := hrel
    by_cases hlt : k < 6
    · obtain ⟨c0, c1, c2⟩ := HC.out wr HBR.out
      have c3 := c2 k hlt
      have ht := HT.out k hlt
      obtain ⟨tg, htg⟩ : ∃ tg, tg = tabG k := ⟨_, rfl⟩
      rw [← htg] at c3 ht
      clear c2 htg
      by_cases hF : F = k + 1
      · have h3 := (ht.2 hF)
        have e1 : (kd == 3) = true := by simpa using h3.1
        have e2 : ((txt.strOf t).toList == (txt.strOf tg).toList) = true := by rw [str_is]; exact decide_eq_true h3.2
        have HFK := Lib.hid hF
        clear hF h3 ht
        go_wp2_with fail
        go_quiet (fail)
        go_wp2_with fail
        go_ret
        exact ⟨ret_int HFK.out.symm, HB.out.trans ((HBR.out.trans (below_drewN (Below.refl _ _) _)).mono HB.out.size)⟩
      · have hn : ¬ (kd = 3 ∧ t = tg) := fun e => hF (ht.1 e)
        have HK2 : Hid (F = 0 ∨ ((k + 1 : Nat) : Int) < F) := Lib.hid (by have := HK.out; omega)
        clear hF ht
        by_cases hk3 : kd = 3
        · have e1 : (kd == 3) = true := by simpa using hk3
          have e2 : ((txt.strOf t).toList == (txt.strOf tg).toList) = false := by rw [str_is]; exact decide_eq_false (fun e => hn ⟨hk3, e⟩)
          clear hn hk3
          go_wp2_with fail
          go_quiet (fail)
          go_wp2_with fail
          go_roundw
          case rel => exact ⟨k + 1, by omega, by go_num, Lib.hid (HBR.out.trans (below_drewN (Below.refl _ _) _)), HK2⟩
          case measure => first | (simp [intOf]; done) | (simp [intOf]; omega)
        · have e1 : (kd == 3) = false := by simpa using hk3
          clear hn hk3
          go_wp2_with fail
          go_quiet (fail)
          go_wp2_with fail
          go_roundw
          case rel => exact ⟨k + 1, by omega, by go_num, Lib.hid (HBR.out.trans (below_drewN (Below.refl _ _) _)), HK2⟩
          case measure => first | (simp [intOf]; done) | (simp [intOf]; omega)
    · obtain rfl : k = 6 := by omega
      have HF0 : Hid (F = 0) := Lib.hid (by have := HK.out; have := HR.out; omega)
      go_wp2_with fail
      go_ret
      exact ⟨ret_int HF0.out.symm, HB.out.trans (HBR.out.mono HB.out.size)⟩

/-! ### Glyphs at an index -/
/-- Is the token at the index this glyph? -/
def glB (L : List Tk) (i : Int) (g : List UInt8) : Bool := if 0 ≤ i then (match L[i.toNat]? with
  | some t => decide (isG t g)
  | none => false) else false
theorem glB_at {L : List Tk} {k : Nat} {t : Tk} {g : List UInt8} (h : L[k]? = some t) : glB L (k : Int) g = decide (isG t g) := by
  unfold glB
  rw [if_pos (by omega), Int.toNat_natCast, h]
theorem glB_neg {L : List Tk} {g : List UInt8} {i : Int} (h : i < 0) : glB L i g = false := by
  unfold glB
  rw [if_neg (by omega)]
theorem rdK_at {w : World} {A : Option Addr} {n k : Nat} {L : List Tk} {t : Tk} (h : RdK w A n L) (hk : L[k]? = some t) : ∃ ad, A = some ad ∧ k < n ∧ w.cell? (ad.add (k * 3)) = some (.int .i64 t.k) ∧ w.cell? ⟨(ad.add (k * 3)).block, (ad.add (k * 3)).off + 1, none⟩ = some (.string (txt.strOf t.t)) ∧ w.cell? ⟨(ad.add (k * 3)).block, (ad.add (k * 3)).off + 2, none⟩ = some (.int .i64 t.n) := by
  obtain ⟨ad, e, hl, h1, h2, h3⟩ := h.2 k t hk
  obtain ⟨hk', _⟩ := List.getElem?_eq_some_iff.1 hk
  exact ⟨ad, e, by rw [← h.1]; exact hk', h1, cell_snd h2, cell_trd h3⟩
set_option maxHeartbeats 1000000 in
theorem glyph_at {w : World} {A : Option Addr} {n c k : Nat} {L : List Tk} {t : Tk} (g : List UInt8) (h : RdK w A n L) (hk : L[k]? = some t) (hn : n ≤ 65536) :
    Calls Tryz.prog 46 #[.slice A n c, .int .i64 k, .string (txt.strOf g)] w fun e w' => e = .returned (.bool (decide (isG t g))) ∧ w' = w := by
  obtain ⟨ad, rfl, hkn, c0, c1, c2⟩ := rdK_at h hk
  by_cases hk3 : t.k = 3
  · have e1 : (t.k == 3) = true := by simpa using hk3
    by_cases hg : t.t = g
    · have e0 : decide (isG t g) = true := decide_eq_true ⟨hk3, hg⟩
      have e2 : ((txt.strOf t.t).toList == (txt.strOf g).toList) = true := by rw [str_is]; exact decide_eq_true hg
      rw [e0]
      generalize t.k = tk, t.t = tt, t.n = tn at *
      clear h hk hk3 hg e0
      go_enter Tryz.func46, Tryz.ntmps46
      go_wp2_with fail
      go_ret
      exact ⟨rfl, rfl⟩
    · have e0 : decide (isG t g) = false := decide_eq_false (fun e => hg e.2)
      have e2 : ((txt.strOf t.t).toList == (txt.strOf g).toList) = false := by rw [str_is]; exact decide_eq_false hg
      rw [e0]
      generalize t.k = tk, t.t = tt, t.n = tn at *
      clear h hk hk3 hg e0
      go_enter Tryz.func46, Tryz.ntmps46
      go_wp2_with fail
      go_ret
      exact ⟨rfl, rfl⟩
  · have e1 : (t.k == 3) = false := by simpa using hk3
    have e0 : decide (isG t g) = false := decide_eq_false (fun e => hk3 e.1)
    rw [e0]
    generalize t.k = tk, t.t = tt, t.n = tn at *
    clear h hk hk3 e0
    go_enter Tryz.func46, Tryz.ntmps46
    go_wp2_with fail
    go_ret
    exact ⟨rfl, rfl⟩
theorem glyph_neg {w : World} {A : Option Addr} {n c : Nat} {i : Int} (g : List UInt8) (hi : i < 0) :
    Calls Tryz.prog 46 #[.slice A n c, .int .i64 i, .string (txt.strOf g)] w fun e w' => e = .returned (.bool false) ∧ w' = w := by
  go_enter Tryz.func46, Tryz.ntmps46
  go_wp2_with fail
  go_ret
  exact ⟨rfl, rfl⟩
end Go.Proofs.YthgojbaindejjaaGreatDoor.ps

/- The reference of package parse: the parenthesis that belongs to a closing one. -/
namespace Go.Proofs.YthgojbaindejjaaGreatDoor.ps
open Go.ChangeShapes Go.WideShapes Go.ChangeAt Go.RowKit Go.Proofs.YthgojbaindejjaaGreatDoor.mem Go.Proofs.YthgojbaindejjaaGreatDoor.lx Go.Proofs.YthgojbaindejjaaGreatDoor.tr
set_option linter.unusedVariables false
set_option linter.unusedSimpArgs false

/-- The tokens in front of an index, the last one first. -/
def pre (L : List Tk) (m : Nat) : List Tk := (L.take m).reverse
theorem pre_zero (L : List Tk) : pre L 0 = [] := rfl
theorem pre_succ {L : List Tk} {k : Nat} {t : Tk} (h : L[k]? = some t) : pre L (k + 1) = t :: pre L k := by
  obtain ⟨hl, rfl⟩ := List.getElem?_eq_some_iff.1 h
  unfold pre
  rw [List.take_succ_eq_append_getElem hl, List.reverse_append]
  rfl
theorem pre_len {L : List Tk} {m : Nat} (h : m ≤ L.length) : (pre L m).length = m := by
  unfold pre; rw [List.length_reverse, List.length_take]; omega
theorem pre_all (L : List Tk) : pre L L.length = L.reverse := by unfold pre; rw [List.take_length]
def opF (d : Nat) (p : List Tk) : Int := match rCut d p with
  | some q => (q.2.length : Int)
  | none => -1
theorem opF_r {d : Nat} {t : Tk} {p : List Tk} (h : isG t gR) : opF d (t :: p) = opF (d + 1) p := by
  unfold opF
  rw [rCut_r h]
  cases rCut (d + 1) p <;> rfl
theorem opF_l {d : Nat} {t : Tk} {p : List Tk} (h : isG t gL) (hd : 1 ≤ d) : opF d (t :: p) = if d = 1 then (p.length : Int) else opF (d - 1) p := by
  unfold opF
  rw [rCut_l h]
  by_cases h1 : d = 1
  · rw [if_pos h1, if_pos h1]
  · rw [if_neg h1, if_neg h1]
    cases rCut (d - 1) p <;> rfl
theorem opF_one {d : Nat} {t : Tk} {p : List Tk} (h1 : ¬ isG t gR) (h2 : ¬ isG t gL) : opF d (t :: p) = opF d p := by
  unfold opF
  rw [rCut_one h1 h2]
  cases rCut d p <;> rfl
set_option maxHeartbeats 2000000 in
theorem open_any {w : World} {A : Option Addr} {n c k : Nat} {L : List Tk} {t : Tk} (h : RdK w A n L) (hk : L[k]? = some t) (hn : n ≤ 65536) (ht : isG t gR) :
    Calls Tryz.prog 83 #[.slice A n c, .int .i64 k] w fun e w' => e = .returned (.int .i64 (opF 1 (pre L k))) ∧ w' = w := by
  have hkl := (List.getElem?_eq_some_iff.1 hk).1
  have hkn : k < n := by rw [← h.1]; exact hkl
  have hL := h.1
  have PG := Lib.hid (fun q t' g (hq : L[q]? = some t') => glyph_at (c := c) g h hq hn)
  have HL := Lib.hid hL
  obtain ⟨R, hR⟩ : ∃ R, R = opF 1 (pre L k) := ⟨_, rfl⟩
  rw [← hR]
  have HR0 : Hid (opF 0 (pre L (k + 1)) = R) := Lib.hid (by rw [pre_succ hk, opF_r ht, hR])
  have HT : Hid (∀ t', L[k]? = some t' → isG t' gR) := Lib.hid (fun t' h' => by rw [hk] at h'; injection h' with h'; rw [← h']; exact ht)
  clear h hk hR hL ht hkl
  go_enter Tryz.func83, Tryz.ntmps83
  go_wp2_with fail
  go_loopw [5, 6] (fun dn i wr => ∃ (j : Int) (m d : Nat), i = .int .i64 j ∧ dn = .int .i64 d ∧ -1 ≤ j ∧ j < 65536 ∧ d ≤ 65536 ∧ wr = w ∧ Hid (j = (m : Int) - 1 ∧ m ≤ k + 1 ∧ d + m ≤ k + 1) ∧ Hid (opF d (pre L m) = R) ∧ Hid (d = 0 → m = k + 1)) (fun _ i _ => (intOf i + 1).toNat)
  case atStart => exact ⟨k, k + 1, 0, rfl, rfl, by omega, by omega, by omega, rfl, Lib.hid ⟨by omega, by omega, by omega⟩, HR0, Lib.hid (fun _ => rfl)⟩
  case round =>
    obtain ⟨j, m, d, rfl, rfl, hj1, hj2, hd1, rfl, HM, HO, HZ⟩ := hrel
    cases m with
    | zero =>
      obtain rfl : j = -1 := by have := HM.out; omega
      have HRE : Hid (R = -1) := Lib.hid (by rw [← HO.out, pre_zero]; rfl)
      go_wp2_with fail
      go_ret
      exact ⟨ret_int HRE.out.symm, rfl⟩
    | succ q =>
      obtain rfl : j = (q : Int) := by have := HM.out; omega
      obtain ⟨t', ht'⟩ : ∃ t', L[q]? = some t' := ⟨_, List.getElem?_eq_getElem (by rw [HL.out]; have := HM.out; omega)⟩
      have P1 := Lib.hid (PG.out q t' gR ht')
      have P2 := Lib.hid (PG.out q t' gL ht')
      have HO2 : Hid (opF d (t' :: pre L q) = R) := Lib.hid (by rw [← pre_succ ht']; exact HO.out)
      by_cases h1 : isG t' gR
      · have h2 : ¬ isG t' gL := not_both (by decide) h1
        rw [decide_eq_true h1] at P1
        rw [decide_eq_false h2] at P2
        have HO3 : Hid (opF (d + 1) (pre L q) = R) := Lib.hid (by rw [← opF_r h1]; exact HO2.out)
        have hz : ((d : Int) + 1 == 0) = false := by simp; omega
        have hdb : d + 1 ≤ 65536 := by have := HM.out; omega
        clear h1 h2 ht'
        go_wp2_with fail
        refine P1.out.mono ?_
        rintro e w1 ⟨rfl, rfl⟩
        go_wp2_with fail
        refine P2.out.mono ?_
        rintro e w1 ⟨rfl, rfl⟩
        go_wp2_with fail
        go_roundw
        case rel => exact ⟨(q : Int) - 1, q, d + 1, by first | rfl | go_num, by first | rfl | go_num, by omega, by omega, hdb, trivial, Lib.hid ⟨by omega, by have := HM.out; omega, by have := HM.out; omega⟩, HO3, Lib.hid (fun e => by omega)⟩
        case measure => first | (simp [intOf]; done) | (simp [intOf]; omega)
      · by_cases h2 : isG t' gL
        · rw [decide_eq_false h1] at P1
          rw [decide_eq_true h2] at P2
          have hd0 : 1 ≤ d := by
            refine Decidable.byContradiction fun e => ?_
            have hm := HZ.out (by omega)
            have : q = k := by omega
            subst this
            exact h1 (HT.out t' ht')
          by_cases hd2 : d = 1
          · have HRE : Hid (R = (q : Int)) := Lib.hid (by rw [← HO2.out, opF_l h2 hd0, if_pos hd2, pre_len (by rw [HL.out]; have := HM.out; omega)])
            subst hd2
            clear h1 h2 ht'
            go_wp2_with fail
            refine P1.out.mono ?_
            rintro e w1 ⟨rfl, rfl⟩
            go_wp2_with fail
            refine P2.out.mono ?_
            rintro e w1 ⟨rfl, rfl⟩
            go_wp2_with fail
            go_ret
            exact ⟨ret_int HRE.out.symm, rfl⟩
          · have HO3 : Hid (opF (d - 1) (pre L q) = R) := Lib.hid (by rw [← HO2.out, opF_l h2 hd0, if_neg hd2])
            obtain ⟨d', rfl⟩ : ∃ d', d = d' + 1 := ⟨d - 1, by omega⟩
            have hz : ((d' : Int) == 0) = false := by simp; omega
            have hdb : d' ≤ 65536 := by omega
            clear h1 h2 ht'
            go_wp2_with fail
            refine P1.out.mono ?_
            rintro e w1 ⟨rfl, rfl⟩
            go_wp2_with fail
            refine P2.out.mono ?_
            rintro e w1 ⟨rfl, rfl⟩
            go_wp2_with fail
            go_roundw
            case rel => exact ⟨(q : Int) - 1, q, d', by first | rfl | go_num, by first | rfl | (congr 1; omega) | go_num, by omega, by omega, hdb, trivial, Lib.hid ⟨by omega, by have := HM.out; omega, by have := HM.out; omega⟩, HO3, Lib.hid (fun e => by omega)⟩
            case measure => first | (simp [intOf]; done) | (simp [intOf]; omega)
        · rw [decide_eq_false h1] at P1
          rw [decide_eq_false h2] at P2
          have hd0 : 1 ≤ d := by
            refine Decidable.byContradiction fun e => ?_
            have hm := HZ.out (by omega)
            have : q = k := by omega
            subst this
            exact h1 (HT.out t' ht')
          have HO3 : Hid (opF d (pre L q) = R) := Lib.hid (by rw [← opF_one h1 h2]; exact HO2.out)
          have hz : ((d : Int) == 0) = false := by simp; omega
          clear h1 h2 ht'
          go_wp2_with fail
          refine P1.out.mono ?_
          rintro e w1 ⟨rfl, rfl⟩
          go_wp2_with fail
          refine P2.out.mono ?_
          rintro e w1 ⟨rfl, rfl⟩
          go_wp2_with fail
          go_roundw
          case rel => exact ⟨(q : Int) - 1, q, d, by first | rfl | go_num, rfl, by omega, by omega, hd1, trivial, Lib.hid ⟨by omega, by have := HM.out; omega, by have := HM.out; omega⟩, HO3, Lib.hid (fun e => by omega)⟩
          case measure => first | (simp [intOf]; done) | (simp [intOf]; omega)
end Go.Proofs.YthgojbaindejjaaGreatDoor.ps

/- The reference of package parse: operands. -/
namespace Go.Proofs.YthgojbaindejjaaGreatDoor.ps
open Go.ChangeShapes Go.WideShapes Go.ChangeAt Go.RowKit Go.Proofs.YthgojbaindejjaaGreatDoor.mem Go.Proofs.YthgojbaindejjaaGreatDoor.lx Go.Proofs.YthgojbaindejjaaGreatDoor.tr
set_option linter.unusedVariables false
set_option linter.unusedSimpArgs false

def z6 : Value := .agg #[.int .i64 0, .int .i64 0, .int .i64 0, .string ⟨#[]⟩, .slice none 0 0, .slice none 0 0]
/-- What Expr answers for tokens. -/
def ExTo (w : World) (r : Option Tr) (e : Ending) (w' : World) : Prop := Below w.heap.size w w' ∧ match r with
  | none => e = .returned (.tuple #[z6, .bool false])
  | some T => ∃ u : S6, e = .returned (.tuple #[u.agg, .bool true]) ∧ RdQ (fun k => w.heap.size ≤ k) w' T u.agg
/-- What operand answers. -/
def OpTo (w : World) (r : Option (Tr × List Tk)) (e : Ending) (w' : World) : Prop := Below w.heap.size w w' ∧ match r with
  | none => ∃ j : Int, e = .returned (.tuple #[z6, .int .i64 j, .bool false])
  | some (T, q) => ∃ u : S6, e = .returned (.tuple #[u.agg, .int .i64 ((q.length : Int) - 1), .bool true]) ∧ RdQ (fun k => w.heap.size ≤ k) w' T u.agg
/-- What holds of Expr with the fuel n. -/
def RxAt (n : Nat) : Prop := ∀ w A m c L, RdK w A m L → m ≤ 65536 → m ≤ c → c ≤ maxLen → (A = none → c = 0) → okL L → L.length < n → Calls Tryz.prog 61 #[.slice A m c] w (ExTo w (rEx n L.reverse))
/-- The block of an answer: six cells that are not frozen. -/
structure Six0 (g : Nat) (X : World) (x0 x1 x2 x3 x4 x5 : Value) : Prop where
  c0 : X.cell? ⟨g, 0, none⟩ = some x0
  c1 : X.cell? ⟨g, 1, none⟩ = some x1
  c2 : X.cell? ⟨g, 2, none⟩ = some x2
  c3 : X.cell? ⟨g, 3, none⟩ = some x3
  c4 : X.cell? ⟨g, 4, none⟩ = some x4
  c5 : X.cell? ⟨g, 5, none⟩ = some x5
  f : ∀ j, X.frozen? ⟨g, j, none⟩ = false
theorem Six0.lt {g : Nat} {X : World} {x0 x1 x2 x3 x4 x5 : Value} (h : Six0 g X x0 x1 x2 x3 x4 x5) : g < X.heap.size := cell_lt h.c0
theorem Six0.as {g : Nat} {X X' : World} {x0 x1 x2 x3 x4 x5 : Value} (h : Six0 g X x0 x1 x2 x3 x4 x5) (e : X'.heap[g]? = X.heap[g]?) : Six0 g X' x0 x1 x2 x3 x4 x5 := by
  have hc : ∀ j, X'.cell? ⟨g, j, none⟩ = X.cell? ⟨g, j, none⟩ := fun j => World.cell?_of_block (a := ⟨g, j, none⟩) e
  exact ⟨(hc _).trans h.c0, (hc _).trans h.c1, (hc _).trans h.c2, (hc _).trans h.c3, (hc _).trans h.c4, (hc _).trans h.c5, fun j => (World.frozen?_of_block (a := ⟨g, j, none⟩) e).trans (h.f j)⟩
theorem Six0.below {g : Nat} {X X' : World} {x0 x1 x2 x3 x4 x5 : Value} (h : Six0 g X x0 x1 x2 x3 x4 x5) (hm : Below X.heap.size X X') : Six0 g X' x0 x1 x2 x3 x4 x5 := h.as (hm.block g h.lt)
theorem six_new {w W : World} {x0 x1 x2 x3 x4 x5 : Value} {t : TypeId} (hW : W = w.alloc (.cells #[x0, x1, x2, x3, x4, x5] t)) : Six0 w.heap.size W x0 x1 x2 x3 x4 x5 ∧ Below w.heap.size w W ∧ W.heap.size = w.heap.size + 1 := by
  obtain ⟨b, s, k⟩ := one_box6 hW
  obtain ⟨c0, c1, c2, c3, c4, c5⟩ := k W (Below.refl _ _)
  exact ⟨⟨c0, c1, c2, c3, c4, c5, fun j => by rw [hW]; simp⟩, b, s⟩
def put6a (X : World) (g : Nat) (x0 x1 x2 x3 x4 x5 : Value) : World := (((((X.setCell ⟨g, 0, none⟩ x0).setCell ⟨g, 1, none⟩ x1).setCell ⟨g, 2, none⟩ x2).setCell ⟨g, 3, none⟩ x3).setCell ⟨g, 4, none⟩ x4).setCell ⟨g, 5, none⟩ x5
theorem put6a_block {X : World} {g : Nat} {x0 x1 x2 x3 x4 x5 : Value} {i : Nat} (h : i ≠ g) : (put6a X g x0 x1 x2 x3 x4 x5).heap[i]? = X.heap[i]? :=
  (((((Below.heap_setCell _ _ _ _ h).trans (Below.heap_setCell _ _ _ _ h)).trans (Below.heap_setCell _ _ _ _ h)).trans (Below.heap_setCell _ _ _ _ h)).trans (Below.heap_setCell _ _ _ _ h)).trans (Below.heap_setCell _ _ _ _ h)
theorem put6a_below {B : Nat} {X : World} {g : Nat} {x0 x1 x2 x3 x4 x5 : Value} (h : B ≤ g) : Below B X (put6a X g x0 x1 x2 x3 x4 x5) :=
  (((((((Below.refl B X).setCell (p := ⟨g, 0, none⟩) h x0).setCell (p := ⟨g, 1, none⟩) h x1).setCell (p := ⟨g, 2, none⟩) h x2).setCell (p := ⟨g, 3, none⟩) h x3).setCell (p := ⟨g, 4, none⟩) h x4).setCell (p := ⟨g, 5, none⟩) h x5)
/-- An answer that was stored. -/
theorem opTo_put {w X : World} {T : Tr} {q : List Tk} {B : Nat} {x0 x1 x2 x3 x4 x5 : Value} (hb : Below w.heap.size w X) (hB : w.heap.size < B) (hT : RdQ (fun k => B ≤ k) X T (.agg #[x0, x1, x2, x3, x4, x5])) :
    OpTo w (some (T, q)) (.returned (.tuple #[.agg #[x0, x1, x2, x3, x4, x5], .int .i64 ((q.length : Int) - 1), .bool true])) (put6a X w.heap.size x0 x1 x2 x3 x4 x5) := by
  refine ⟨hb.trans (put6a_below (Nat.le_refl _)), ⟨x0, x1, x2, x3, x4, x5⟩, rfl, hT.keep (put6a_below (B := 0) (Nat.zero_le _)).size (fun ad hq _ => World.cell?_of_block (put6a_block ?_)) (fun k hk => ?_)⟩
  · have : B ≤ ad.block := hq
    omega
  · have : B ≤ k := hk
    show w.heap.size ≤ k
    omega
theorem opTo_none {w X : World} (j : Int) (hb : Below w.heap.size w X) : OpTo w none (.returned (.tuple #[z6, .int .i64 j, .bool false])) (put6a X w.heap.size (.int .i64 0) (.int .i64 0) (.int .i64 0) (.string ⟨#[]⟩) (.slice none 0 0) (.slice none 0 0)) :=
  ⟨hb.trans (put6a_below (Nat.le_refl _)), j, rfl⟩
/-- In front of the first token. -/
theorem rop_neg (n : Nat) {w : World} {A : Option Addr} {m c : Nat} {i : Int} (hi : i < 0) : Calls Tryz.prog 75 #[.slice A m c, .int .i64 i] w (OpTo w none) := by
  obtain ⟨W, hW⟩ : ∃ W, W = w.alloc (.cells #[.int .i64 0, .int .i64 0, .int .i64 0, .string ⟨#[]⟩, .slice none 0 0, .slice none 0 0] 25) := ⟨_, rfl⟩
  obtain ⟨hS, hb, -⟩ := six_new hW
  have HW := Lib.hid hW
  have HB := Lib.hid hb
  obtain ⟨c0, c1, c2, c3, c4, c5, f⟩ := hS
  have f0 := f 0; have f1 := f 1; have f2 := f 2; have f3 := f 3; have f4 := f 4; have f5 := f 5
  clear hW hb f
  go_enter Tryz.func75, Tryz.ntmps75
  go_upto_region 1 with fail
  rw [← HW.out]
  go_wp2_with fail
  refine bodyPost_ret (v := .tuple #[z6, .int .i64 i, .bool false]) (by simp [results, Tryz.results75, go_sem, c0, c1, c2, c3, c4, c5, z6]) rfl ?_
  exact opTo_none i HB.out
end Go.Proofs.YthgojbaindejjaaGreatDoor.ps

/- The reference of package parse: operands at an index. -/
namespace Go.Proofs.YthgojbaindejjaaGreatDoor.ps
open Go.ChangeShapes Go.WideShapes Go.ChangeAt Go.RowKit Go.Proofs.YthgojbaindejjaaGreatDoor.mem Go.Proofs.YthgojbaindejjaaGreatDoor.lx Go.Proofs.YthgojbaindejjaaGreatDoor.tr
set_option linter.unusedVariables false
set_option linter.unusedSimpArgs false

theorem rOp_cons (E : List Tk → Option Tr) (t : Tk) (r : List Tk) : rOp E (t :: r) = if t.k = 1 then some (nm t, r) else if isG t gZil then some (lit [], r) else
    if t.k = 2 then some (lit (((t :: r).takeWhile isN).reverse.map Tk.n), (t :: r).dropWhile isN) else
    if isG t gR then (match rCut 1 r with
      | none => none
      | some (i, q) => match E i with
        | none => none
        | some T => some (T, q)) else none := rfl
set_option maxHeartbeats 2000000 in
theorem rop_name (E : List Tk → Option Tr) {w : World} {A : Option Addr} {m c k : Nat} {L : List Tk} {t : Tk} (h : RdK w A m L) (hk : L[k]? = some t) (hm : m ≤ 65536) (hok : okL L) (ht : t.k = 1) :
    Calls Tryz.prog 75 #[.slice A m c, .int .i64 k] w (OpTo w (rOp E (pre L (k + 1)))) := by
  have hkl := (List.getElem?_eq_some_iff.1 hk).1
  rw [pre_succ hk, rOp_cons, if_pos ht]
  have HQ := Lib.hid (pre_len (L := L) (m := k) (by omega))
  have htt := (hok t (List.mem_of_getElem? hk)).2.2.2.2.2
  have HTT := Lib.hid htt
  obtain ⟨W, hW⟩ : ∃ W, W = w.alloc (.cells #[.int .i64 0, .int .i64 0, .int .i64 0, .string ⟨#[]⟩, .slice none 0 0, .slice none 0 0] 25) := ⟨_, rfl⟩
  obtain ⟨hS, hb, hs⟩ := six_new hW
  obtain ⟨ad, rfl, hkn, d0, d1, d2⟩ := rdK_at (h.below hb) hk
  have HW := Lib.hid hW
  have HB := Lib.hid hb
  obtain ⟨c0, c1, c2, c3, c4, c5, f⟩ := hS
  have f0 := f 0; have f1 := f 1; have f2 := f 2; have f3 := f 3; have f4 := f 4; have f5 := f 5
  generalize pre L k = q at *
  rw [ht] at d0
  unfold nm
  generalize t.t = tt at *
  generalize t.n = tn at *
  clear hW hb hs f h hk htt ht hok hkl
  go_enter Tryz.func75, Tryz.ntmps75
  go_upto_region 1 with fail
  rw [← HW.out]
  go_wp2_with fail
  refine bodyPost_ret (v := .tuple #[.agg #[.int .i64 2, .int .i64 0, .int .i64 (-1), .string (txt.strOf tt), .slice none 0 0, .slice none 0 0], .int .i64 ((k : Int) - 1), .bool true]) (by simp [results, Tryz.results75, go_sem, c0, c1, c2, c3, c4, c5]) rfl ?_
  have := opTo_put (q := q) HB.out (Nat.lt_succ_self _) (rd_nm (Q := fun k => w.heap.size + 1 ≤ k) (w := W) (t := tt) HTT.out)
  rw [HQ.out] at this
  exact this
set_option maxHeartbeats 2000000 in
theorem rop_zil (E : List Tk → Option Tr) {w : World} {A : Option Addr} {m c k : Nat} {L : List Tk} {t : Tk} (h : RdK w A m L) (hk : L[k]? = some t) (hm : m ≤ 65536) (ht1 : ¬ t.k = 1) (ht : isG t gZil) :
    Calls Tryz.prog 75 #[.slice A m c, .int .i64 k] w (OpTo w (rOp E (pre L (k + 1)))) := by
  have hkl := (List.getElem?_eq_some_iff.1 hk).1
  rw [pre_succ hk, rOp_cons, if_neg ht1, if_pos ht]
  have HQ := Lib.hid (pre_len (L := L) (m := k) (by omega))
  obtain ⟨W, hW⟩ : ∃ W, W = w.alloc (.cells #[.int .i64 0, .int .i64 0, .int .i64 0, .string ⟨#[]⟩, .slice none 0 0, .slice none 0 0] 25) := ⟨_, rfl⟩
  obtain ⟨hS, hb, hs⟩ := six_new hW
  have P := Lib.hid (glyph_at (c := c) gZil (h.below hb) hk hm)
  rw [decide_eq_true ht] at P
  obtain ⟨ad, rfl, hkn, d0, d1, d2⟩ := rdK_at (h.below hb) hk
  have HW := Lib.hid hW
  have HB := Lib.hid hb
  obtain ⟨c0, c1, c2, c3, c4, c5, f⟩ := hS
  have f0 := f 0; have f1 := f 1; have f2 := f 2; have f3 := f 3; have f4 := f 4; have f5 := f 5
  have hk1 : (t.k == 1) = false := by simpa using ht1
  generalize pre L k = q at *
  generalize t.k = tk at *
  clear hW hb hs f h hk ht1 hkl d1 d2
  go_enter Tryz.func75, Tryz.ntmps75
  go_upto_region 1 with fail
  rw [← HW.out]
  go_wp2_with fail
  refine P.out.mono ?_
  rintro e w1 ⟨rfl, rfl⟩
  go_wp2_with fail
  refine bodyPost_ret (v := .tuple #[.agg #[.int .i64 1, .int .i64 0, .int .i64 (-1), .string ⟨#[]⟩, .slice none 0 0, .slice none 0 0], .int .i64 ((k : Int) - 1), .bool true]) (by simp [results, Tryz.results75, go_sem, c0, c1, c2, c3, c4, c5]) rfl ?_
  have := opTo_put (q := q) HB.out (Nat.lt_succ_self _) (rd_lit (Q := fun k => w.heap.size + 1 ≤ k) (w := w1) (P := none) (n := 0) (c := 0) (ns := []) Rd.nil_ (Nat.le_refl _) (by omega) (fun _ => rfl) (fun x hx => by simp at hx) (fun ad e _ => by cases e))
  rw [HQ.out] at this
  exact this
set_option maxHeartbeats 2000000 in
theorem rop_none (E : List Tk → Option Tr) {w : World} {A : Option Addr} {m c k : Nat} {L : List Tk} {t : Tk} (h : RdK w A m L) (hk : L[k]? = some t) (hm : m ≤ 65536) (ht1 : ¬ t.k = 1) (ht2 : ¬ isG t gZil) (ht3 : ¬ t.k = 2) (ht4 : ¬ isG t gR) :
    Calls Tryz.prog 75 #[.slice A m c, .int .i64 k] w (OpTo w (rOp E (pre L (k + 1)))) := by
  have hkl := (List.getElem?_eq_some_iff.1 hk).1
  rw [pre_succ hk, rOp_cons, if_neg ht1, if_neg ht2, if_neg ht3, if_neg ht4]
  obtain ⟨W, hW⟩ : ∃ W, W = w.alloc (.cells #[.int .i64 0, .int .i64 0, .int .i64 0, .string ⟨#[]⟩, .slice none 0 0, .slice none 0 0] 25) := ⟨_, rfl⟩
  obtain ⟨hS, hb, hs⟩ := six_new hW
  have P := Lib.hid (glyph_at (c := c) gZil (h.below hb) hk hm)
  rw [decide_eq_false ht2] at P
  have P2 := Lib.hid (glyph_at (c := c) gR (h.below hb) hk hm)
  rw [decide_eq_false ht4] at P2
  obtain ⟨ad, rfl, hkn, d0, d1, d2⟩ := rdK_at (h.below hb) hk
  have HW := Lib.hid hW
  have HB := Lib.hid hb
  obtain ⟨c0, c1, c2, c3, c4, c5, f⟩ := hS
  have f0 := f 0; have f1 := f 1; have f2 := f 2; have f3 := f 3; have f4 := f 4; have f5 := f 5
  have hk1 : (t.k == 1) = false := by simpa using ht1
  have hk2 : (t.k == 2) = false := by simpa using ht3
  generalize t.k = tk at *
  clear hW hb hs f h hk ht1 ht3 hkl d1 d2
  go_enter Tryz.func75, Tryz.ntmps75
  go_upto_region 1 with fail
  rw [← HW.out]
  go_wp2_with fail
  refine P.out.mono ?_
  rintro e w1 ⟨rfl, rfl⟩
  go_wp2_with fail
  refine P2.out.mono ?_
  rintro e w1 ⟨rfl, rfl⟩
  go_wp2_with fail
  refine bodyPost_ret (v := .tuple #[z6, .int .i64 k, .bool false]) (by simp [results, Tryz.results75, go_sem, c0, c1, c2, c3, c4, c5, z6]) rfl ?_
  exact opTo_none k HB.out
/-- Tokens between two indices. -/
theorem rdK_cut {w : World} {A : Option Addr} {m : Nat} {L : List Tk} (h : RdK w A m L) {f k : Nat} (hfk : f ≤ k) (hk : k ≤ m) {B : Option Addr} (hB : ∀ ad, A = some ad → f < k → B = some (ad.add (f * 3))) : RdK w B (k - f) ((L.take k).drop f) := by
  refine ⟨by rw [List.length_drop, List.length_take, h.1]; omega, fun j x hj => ?_⟩
  have hj2 : L[f + j]? = some x ∧ f + j < k := by
    rw [List.getElem?_drop, List.getElem?_take] at hj
    by_cases hlt : f + j < k
    · rw [if_pos hlt] at hj; exact ⟨hj, hlt⟩
    · rw [if_neg hlt] at hj; cases hj
  obtain ⟨ad, rfl, hl, c0, c1, c2⟩ := h.2 (f + j) x hj2.1
  refine ⟨ad.add (f * 3), hB ad rfl (by omega), by rw [blk_add]; exact hl, ?_, ?_, ?_⟩ <;> rw [adr_add]
  · rw [show f * 3 + j * 3 = (f + j) * 3 by omega]; exact c0
  · rw [show f * 3 + (j * 3 + 1) = (f + j) * 3 + 1 by omega]; exact c1
  · rw [show f * 3 + (j * 3 + 2) = (f + j) * 3 + 2 by omega]; exact c2
/-- What is between the parentheses. -/
theorem cut_inner {L : List Tk} {k : Nat} (hk : k ≤ L.length) {i q : List Tk} (h : rCut 1 (pre L k) = some (i, q)) : q.length + 1 ≤ k ∧ i = ((L.take k).drop (q.length + 1)).reverse ∧ i.length < k ∧ opF 1 (pre L k) = (q.length : Int) := by
  obtain ⟨a, ha, he⟩ := rCut_sound h
  have hl := congrArg List.length he
  rw [pre_len hk] at hl
  simp only [List.length_append, List.length_cons] at hl
  have e2 : L.take k = q.reverse ++ (a :: i.reverse) := by
    have := congrArg List.reverse he
    unfold pre at this
    rw [List.reverse_reverse] at this
    rw [this]
    simp
  refine ⟨by omega, ?_, by omega, ?_⟩
  · rw [e2, show q.length + 1 = (q.reverse ++ [a]).length by simp, show q.reverse ++ (a :: i.reverse) = (q.reverse ++ [a]) ++ i.reverse by simp, List.drop_left]; simp
  · unfold opF; rw [h]
set_option maxHeartbeats 4000000 in
theorem rop_paren (n : Nat) (hE : RxAt n) {w : World} {A : Option Addr} {m c k : Nat} {L : List Tk} {t : Tk} (h : RdK w A m L) (hk : L[k]? = some t) (hm : m ≤ 65536) (hmc : m ≤ c) (hcm : c ≤ maxLen) (hok : okL L) (hkn' : k ≤ n) (ht1 : ¬ t.k = 1) (ht2 : ¬ isG t gZil) (ht3 : ¬ t.k = 2) (ht4 : isG t gR) :
    Calls Tryz.prog 75 #[.slice A m c, .int .i64 k] w (OpTo w (rOp (rEx n) (pre L (k + 1)))) := by
  have hkl := (List.getElem?_eq_some_iff.1 hk).1
  rw [pre_succ hk, rOp_cons, if_neg ht1, if_neg ht2, if_neg ht3, if_pos ht4]
  obtain ⟨W, hW⟩ : ∃ W, W = w.alloc (.cells #[.int .i64 0, .int .i64 0, .int .i64 0, .string ⟨#[]⟩, .slice none 0 0, .slice none 0 0] 25) := ⟨_, rfl⟩
  obtain ⟨hS, hb, hs⟩ := six_new hW
  have P := Lib.hid (glyph_at (c := c) gZil (h.below hb) hk hm)
  rw [decide_eq_false ht2] at P
  have P2 := Lib.hid (glyph_at (c := c) gR (h.below hb) hk hm)
  rw [decide_eq_true ht4] at P2
  have P3 := Lib.hid (open_any (c := c) (h.below hb) hk hm ht4)
  have hmL := h.1
  have HRW := Lib.hid (h.below hb)
  obtain ⟨ad, rfl, hkn, d0, d1, d2⟩ := rdK_at (h.below hb) hk
  have HW := Lib.hid hW
  have HB := Lib.hid hb
  have HS := Lib.hid hS
  have HZ := Lib.hid hs
  have hk1 : (t.k == 1) = false := by simpa using ht1
  have hk2 : (t.k == 2) = false := by simpa using ht3
  cases hc : rCut 1 (pre L k) with
  | none =>
    have e0 : opF 1 (pre L k) = -1 := by unfold opF; rw [hc]
    rw [e0] at P3
    simp only []
    obtain ⟨c0, c1, c2, c3, c4, c5, f⟩ := hS
    have f0 := f 0; have f1 := f 1; have f2 := f 2; have f3 := f 3; have f4 := f 4; have f5 := f 5
    generalize t.k = tk at *
    clear hW hb hs f h hk ht1 ht3 hkl d1 d2 e0 hE hc hmL
    go_enter Tryz.func75, Tryz.ntmps75
    go_upto_region 1 with fail
    rw [← HW.out]
    go_wp2_with fail
    refine P.out.mono ?_
    rintro e w1 ⟨rfl, rfl⟩
    go_wp2_with fail
    refine P2.out.mono ?_
    rintro e w1 ⟨rfl, rfl⟩
    go_wp2_with fail
    refine P3.out.mono ?_
    rintro e w1 ⟨rfl, rfl⟩
    go_wp2_with fail
    refine bodyPost_ret (v := .tuple #[z6, .int .i64 k, .bool false]) (by simp [results, Tryz.results75, go_sem, c0, c1, c2, c3, c4, c5, z6]) rfl ?_
    exact opTo_none k HB.out
  | some p =>
    obtain ⟨i, q⟩ := p
    obtain ⟨g1, g2, g3, g4⟩ := cut_inner (by omega) hc
    rw [g4] at P3
    simp only []
    have hXL : RdK W (some (ad.add ((q.length + 1) * 3))) (k - (q.length + 1)) ((L.take k).drop (q.length + 1)) := rdK_cut HRW.out g1 (by omega) (fun a e _ => by injection e with e; rw [e])
    have hXok : okL ((L.take k).drop (q.length + 1)) := fun u hu => hok u (List.mem_of_mem_take (List.mem_of_mem_drop hu))
    have PX := Lib.hid (hE W (some (ad.add ((q.length + 1) * 3))) (k - (q.length + 1)) (c - (q.length + 1)) _ hXL (by omega) (by omega) (by omega) (fun e => by cases e) hXok (by rw [hXL.1]; omega))
    rw [← List.reverse_reverse ((L.take k).drop (q.length + 1)), ← g2, List.reverse_reverse] at PX
    obtain ⟨r, hr⟩ : ∃ r, r = rEx n i := ⟨_, rfl⟩
    rw [← hr] at PX ⊢
    generalize t.k = tk at *
    generalize hql : q.length = ql at *
    clear hW hb hs h ht1 ht3 d1 d2 hc hXL hXok hE g2 g4 hr
    go_enter Tryz.func75, Tryz.ntmps75
    go_upto_region 1 with fail
    rw [← HW.out]
    go_wp2_with fail
    refine P.out.mono ?_
    rintro e w1 ⟨rfl, rfl⟩
    go_wp2_with fail
    refine P2.out.mono ?_
    rintro e w1 ⟨rfl, rfl⟩
    go_wp2_with fail
    refine P3.out.mono ?_
    rintro e w1 ⟨rfl, rfl⟩
    go_wp2_with fail
    refine PX.out.mono ?_
    rintro e w2 ⟨hb, hr⟩
    cases r with
    | none =>
      simp only [] at hr ⊢
      subst hr
      unfold z6
      have HS2 := Lib.hid (HS.out.below hb)
      have HB2 := Lib.hid (HB.out.trans (hb.mono HB.out.size))
      have HZ2 := Lib.hid (show w.heap.size < w2.heap.size by have := HZ.out; have := hb.size; omega)
      obtain ⟨V, hV⟩ : ∃ V, V = w2.alloc (.cells #[.int .i64 0, .int .i64 0, .int .i64 0, .string ⟨#[]⟩, .slice none 0 0, .slice none 0 0] 25) := ⟨_, rfl⟩
      obtain ⟨hS9, hb9, hs9⟩ := six_new hV
      obtain ⟨c0, c1, c2, c3, c4, c5, f⟩ := HS2.out.below hb9
      have f0 := f 0; have f1 := f 1; have f2 := f 2; have f3 := f 3; have f4 := f 4; have f5 := f 5
      obtain ⟨y0, y1, y2, y3, y4, y5, -⟩ := hS9
      have HBV := Lib.hid (HB2.out.trans (hb9.mono HB2.out.size))
      have HV := Lib.hid hV
      have ne : w.heap.size ≠ w2.heap.size := Nat.ne_of_lt HZ2.out
      clear hb hS hb9 hs9 hV f
      go_upto_region 18 with fail
      rw [← HV.out]
      go_wp2_with fail
      refine bodyPost_ret (v := .tuple #[z6, .int .i64 ((ql : Int) - 1), .bool false]) (by simp [results, Tryz.results75, go_sem, c0, c1, c2, c3, c4, c5, z6]) rfl ?_
      exact opTo_none _ HBV.out
    | some T =>
      simp only [] at hr ⊢
      obtain ⟨u, rfl, hu⟩ := hr
      obtain ⟨k0, f0, a0, s0, A0, n0, q0, B0, m0, d0', rfl, -⟩ := RdQ_six hu
      simp only [S6.agg]
      have HS2 := Lib.hid (HS.out.below hb)
      have HB2 := Lib.hid (HB.out.trans (hb.mono HB.out.size))
      have HZ2 := Lib.hid (show w.heap.size < w2.heap.size by have := HZ.out; have := hb.size; omega)
      obtain ⟨V, hV⟩ : ∃ V, V = w2.alloc (.cells #[.int .i64 k0, .int .i64 f0, .int .i64 a0, .string s0, .slice A0 n0 q0, .slice B0 m0 d0'] 25) := ⟨_, rfl⟩
      obtain ⟨hS9, hb9, hs9⟩ := six_new hV
      have HU := Lib.hid ((hu.below hb9).le (Q' := fun k => w.heap.size + 1 ≤ k) (fun k hk => by have := HZ.out; show _ ≤ k; have : _ ≤ k := hk; omega))
      obtain ⟨c0, c1, c2, c3, c4, c5, f⟩ := HS2.out.below hb9
      have f0' := f 0; have f1 := f 1; have f2 := f 2; have f3 := f 3; have f4 := f 4; have f5 := f 5
      obtain ⟨y0, y1, y2, y3, y4, y5, -⟩ := hS9
      have HBV := Lib.hid (HB2.out.trans (hb9.mono HB2.out.size))
      have HV := Lib.hid hV
      have HQL := Lib.hid hql
      have ne : w.heap.size ≠ w2.heap.size := Nat.ne_of_lt HZ2.out
      clear hb hS hb9 hs9 hV f hu hql
      go_upto_region 18 with fail
      rw [← HV.out]
      go_wp2_with fail
      refine bodyPost_ret (v := .tuple #[.agg #[.int .i64 k0, .int .i64 f0, .int .i64 a0, .string s0, .slice A0 n0 q0, .slice B0 m0 d0'], .int .i64 ((ql : Int) - 1), .bool true]) (by simp [results, Tryz.results75, go_sem, c0, c1, c2, c3, c4, c5]) rfl ?_
      have := opTo_put (q := q) HBV.out (Nat.lt_succ_self _) HU.out
      rw [HQL.out] at this
      exact this
end Go.Proofs.YthgojbaindejjaaGreatDoor.ps
