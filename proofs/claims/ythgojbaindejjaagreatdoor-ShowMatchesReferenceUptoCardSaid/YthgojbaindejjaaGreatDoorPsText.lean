/- Package parse: the tokens of a text, and a parser that is made of them. Package parse: names in front of expressions, the reader, its deferred function. Package parse: the reader, Expr and Line. Package parse: Expr and Line. -/
import Derived.Test.YthgojbaindejjaaGreatDoorPsCell
import Derived.Test.YthgojbaindejjaaGreatDoorLexToks
import Derived.Test.YthgojbaindejjaaGreatDoorPsDyad
import Derived.Defers
import Derived.Recover
/- Package parse: the tokens of a text, and a parser that is made of them. -/
namespace Go.Proofs.YthgojbaindejjaaGreatDoor.ps
open Go.ChangeShapes Go.WideShapes Go.ChangeAt Go.RowKit Go.Proofs.YthgojbaindejjaaGreatDoor.mem Go.Proofs.YthgojbaindejjaaGreatDoor.lx Go.Proofs.YthgojbaindejjaaGreatDoor.tr
set_option linter.unusedVariables false
set_option linter.unusedSimpArgs false

theorem gls_wp : ∀ g ∈ gls, ∀ x ∈ g, wpB x = false := by decide
theorem gls_dig : ∀ g ∈ gls, ∀ x ∈ g, digB x = false := by decide
theorem fir_ok {l : List UInt8} {t : Tk} (h : fir l = some t) : (t.k = 1 ∨ t.k = 2 ∨ t.k = 3) ∧ (t.k = 3 ↔ t.t ∈ gls) := by
  unfold fir at h
  by_cases hw : wordL l ≠ []
  · rw [if_pos hw] at h
    injection h with h
    subst h
    refine ⟨.inl rfl, ⟨fun e => absurd (show (1 : Int) = 3 from e) (by decide), fun hg => ?_⟩⟩
    exfalso
    have hg : wordL l ∈ gls := hg
    have hall : ∀ x ∈ wordL l, wpB x = true := by
      unfold wordL
      split
      · exact tw_mem wpB l
      · intro x hx; cases hx
    cases hl : wordL l with
    | nil => exact hw hl
    | cons x r =>
      have h1 := gls_wp _ hg x (by rw [hl]; simp)
      have h2 := hall x (by rw [hl]; simp)
      rw [h1] at h2; cases h2
  · rw [if_neg hw] at h
    cases hn : numB (digL l) (negB l) with
    | some n =>
      rw [hn] at h
      injection h with h
      subst h
      refine ⟨.inr (.inl rfl), ⟨fun e => absurd (show (2 : Int) = 3 from e) (by decide), fun hg => ?_⟩⟩
      exfalso
      have hg : preL l ++ digL l ∈ gls := hg
      obtain ⟨n1, n2, _⟩ := numB_some hn
      cases hl : digL l with
      | nil => exact n1 hl
      | cons x r =>
        have h1 := gls_dig _ hg x (by rw [hl]; simp)
        rw [hl] at n2
        simp only [List.all_cons, Bool.and_eq_true] at n2
        rw [h1] at n2
        exact absurd n2.1 (by decide)
    | none =>
      rw [hn] at h
      have h' : (if glyL l ≠ [] then some (⟨3, glyL l, 0⟩ : Tk) else none) = some t := h
      by_cases hg : glyL l ≠ []
      · rw [if_pos hg] at h'
        injection h' with h'
        subst h'
        refine ⟨.inr (.inr rfl), ⟨fun _ => ?_, fun _ => rfl⟩⟩
        show glyL l ∈ gls
        unfold glyL at hg ⊢
        cases hf : gls.find? fun g => g.isPrefixOf l with
        | none => rw [hf] at hg; exact absurd rfl hg
        | some g => exact List.mem_of_find?_eq_some hf
      · rw [if_neg hg] at h'; cases h'
theorem tok_kinds : ∀ (n : Nat) (l : List UInt8) (L : List Tk), l.length ≤ n → tok l = some L → ∀ t ∈ L, ((t.k = 1 ∨ t.k = 2 ∨ t.k = 3) ∧ (t.k = 3 ↔ t.t ∈ gls)) ∧ t.t ≠ []
  | n, [], L, _, h => by rw [tok_nil] at h; injection h with h; subst h; exact fun t ht => by cases ht
  | 0, c :: r, L, hn, h => by simp at hn
  | n + 1, c :: r, L, hn, h => by
    simp only [List.length_cons] at hn
    cases hb : blB c
    · cases hf : fir (c :: r) with
      | none => rw [tok_none hb hf] at h; cases h
      | some t =>
        rw [tok_some hb hf] at h
        have hl := fir_len hf
        simp only [List.length_cons] at hl
        cases hd : tok ((c :: r).drop t.t.length) with
        | none => rw [hd] at h; cases h
        | some M =>
          rw [hd] at h
          injection h with h
          subst h
          have hdl : ((c :: r).drop t.t.length).length = r.length + 1 - t.t.length := by rw [List.length_drop, List.length_cons]
          have ih := tok_kinds n _ M (by omega) hd
          intro u hu
          rcases List.mem_cons.1 hu with rfl | hu
          · exact ⟨fir_ok hf, (fir_pre hf).1⟩
          · exact ih u hu
    · rw [tok_bl hb] at h
      exact tok_kinds n r L (by omega) h
theorem toks_ok {l : List UInt8} {L : List Tk} (h : toks l = some L) : okL L ∧ L.length ≤ 65536 ∧ L.length ≤ l.length ∧ tok l = some L := by
  unfold toks at h
  by_cases hl : 65536 < l.length
  · rw [if_pos hl] at h; cases h
  · rw [if_neg hl] at h
    obtain ⟨h1, h2⟩ := tok_len l.length l L (Nat.le_refl _) h
    have h3 := tok_kinds l.length l L (Nat.le_refl _) h
    refine ⟨fun t ht => ?_, by omega, h1, h⟩
    obtain ⟨⟨a, b⟩, c⟩ := h3 t ht
    obtain ⟨d, e, _, _, f⟩ := h2 t ht
    exact ⟨a, b, c, d, e, by omega⟩
/-- What newParser answers. -/
def NewTo (w : World) (r : Option (List Tk)) (e : Ending) (w' : World) : Prop := Below w.heap.size w w' ∧ match r with
  | none => e = .panicked PCH
  | some L => ∃ b m1 m2, e = .returned (.pointer (some ⟨b, 0, none⟩)) ∧ w.heap.size ≤ b ∧ At b m1 m2 w' L ∧ w.heap.size ≤ m1 ∧ w.heap.size ≤ m2 ∧ LowT w.heap.size b w'
theorem new_at {w w1 X w3 : World} {L : List Tk} {A : Option Addr} {c : Nat} {ty t : TypeId} (HO : OwnK ty w1 w.heap.size (.slice A L.length c) L) (HB : Below w.heap.size w w1) (hok : okL L ∧ L.length ≤ 65536) (HB0 : Below w1.heap.size w1 X)
    (HM1 : X.heap[w1.heap.size]? = some (.map (entL 0 monL).toArray 3)) (HBX : Below X.heap.size X w3) (HN : w3.heap[X.heap.size]? = some (.map (entL 0 dyaL).toArray 6)) :
    Below w.heap.size w (w3.alloc (.cells #[.slice A L.length c, .map (some w1.heap.size), .map (some X.heap.size)] t)) ∧ w.heap.size ≤ w3.heap.size ∧
      At w3.heap.size w1.heap.size X.heap.size (w3.alloc (.cells #[.slice A L.length c, .map (some w1.heap.size), .map (some X.heap.size)] t)) L ∧ w.heap.size ≤ w1.heap.size ∧ w.heap.size ≤ X.heap.size ∧ LowT w.heap.size w3.heap.size (w3.alloc (.cells #[.slice A L.length c, .map (some w1.heap.size), .map (some X.heap.size)] t)) := by
  have l1 := (Array.getElem?_eq_some_iff.1 HM1).1
  have l2 := (Array.getElem?_eq_some_iff.1 HN).1
  have s1 := HB.size
  have s2 := HB0.size
  have s3 := HBX.size
  have hb3 : Below w1.heap.size w1 w3 := HB0.trans (HBX.mono s2)
  have hba := Joins.below_alloc1 w3 (.cells #[.slice A L.length c, .map (some w1.heap.size), .map (some X.heap.size)] t)
  obtain ⟨V, hV⟩ : ∃ V, V = w3.alloc (.cells #[.slice A L.length c, .map (some w1.heap.size), .map (some X.heap.size)] t) := ⟨_, rfl⟩
  obtain ⟨-, hsV, hfV, kV⟩ := one_box3 hV
  rw [← hV] at hba ⊢
  obtain ⟨k0, k1, k2⟩ := kV V (Below.refl _ _)
  obtain ⟨A', c', e, f1, f2, f3⟩ := HO.form
  injection e with e1 e2 e3
  subst e1; subst e3
  have hAB' : ∀ ad, A = some ad → ad.block < w3.heap.size ∧ w.heap.size ≤ ad.block := fun ad e => by
    rcases HO.2 with ⟨e', _⟩ | ⟨g, cap, cur, e', hg, hh, _⟩
    · injection e' with e'; rw [e] at e'; cases e'
    · injection e' with e'; rw [e] at e'; injection e' with e'
      have := (Array.getElem?_eq_some_iff.1 hh).1
      rw [e']; exact ⟨by show g < _; omega, hg⟩
  have hAB : ∀ ad, A = some ad → ad.block < w3.heap.size := fun ad e => (hAB' ad e).1
  refine ⟨(HB.trans (hb3.mono s1)).trans (hba.mono (by omega)), by omega, ⟨by omega, ⟨A, L.length, c, k0, (HO.rd.below hb3).below hba, f1, f2, hAB, f3⟩, k1, k2, hfV, ?_, ?_, by omega, l2, hok.1, hok.2⟩, s1, by omega, ⟨A, L.length, c, k0, fun ad e => (hAB' ad e).2⟩⟩
  · exact ((hba.block _ (by omega)).trans (HBX.block _ l1)).trans HM1
  · exact (hba.block _ l2).trans HN
set_option maxHeartbeats 4000000 in
set_option maxRecDepth 20000 in
theorem new_any (l : List UInt8) (hl : l.length ≤ 9223372036854775807) (w : World) (hL : Lays w) : Calls Tryz.prog 41 #[.string (txt.strOf l)] w (NewTo w (toks l)) := by
  have PT := Lib.hid (tokens_any l hl w hL)
  clear hL hl
  cases ht : toks l with
  | none =>
    have e1 : tokL l = [] := by unfold tokL; rw [ht]; rfl
    have e2 : okI l = 1 := by unfold okI; rw [ht]; rfl
    rw [e1, e2] at PT
    have PF := Lib.hid fail_any
    clear e1 e2 ht
    go_enter Tryz.func41, Tryz.ntmps41
    go_wp2_with fail
    refine PT.out.mono ?_
    rintro e w1 ⟨A, c, rfl, ho, hb⟩
    have HB := Lib.hid hb
    clear ho hb
    go_wp2_with fail
    refine (PF.out _).mono ?_
    rintro e w2 ⟨rfl, rfl⟩
    exact ⟨rfl, HB.out, rfl⟩
  | some L =>
    have e1 : tokL l = L := by unfold tokL; rw [ht]; rfl
    have e2 : okI l = 0 := by unfold okI; rw [ht]; rfl
    rw [e1, e2] at PT
    have HOK := Lib.hid (toks_ok ht)
    clear e1 e2 ht
    go_enter Tryz.func41, Tryz.ntmps41
    go_wp2_with fail
    refine PT.out.mono ?_
    rintro e w1 ⟨A, c, rfl, ho, hb⟩
    have HO := Lib.hid ho
    have HB := Lib.hid hb
    have HB0 := Lib.hid (Below.refl w1.heap.size w1)
    have HL := Lib.hid (Nat.le_refl w1.heap.size)
    clear ho hb
    go_wp2_with (first
      | (refine wpList_insertT rfl _ _ _ _ rfl Tryz.underlying71 Tryz.underlying9 rfl HN.out _ (by rfl) _ rfl (by rfl) (Nat.le_refl _) HBX.out ?_; intro w3 hm3 hb3 hs3 ho3; have HN := Lib.hid hm3; have HBX := Lib.hid hb3; clear hm3 hb3 hs3 ho3)
      | (refine wpList_insertT (B := w1.heap.size) rfl _ _ _ _ rfl Tryz.underlying71 Tryz.underlying9 rfl HM.out _ (by rfl) _ rfl (by rfl) (Nat.le_refl _) HB0.out ?_; intro w3 hm3 hb3 hs3 ho3; have HM := Lib.hid hm3; have HB0 := Lib.hid hb3; have hX : w3.heap.size = w3.heap.size := rfl; clear hm3 hb3 hs3 ho3)
      | (refine wpList_makeMapT rfl _ rfl ?_; intro w4 hm4 hb4 hs4; have HM1 := Lib.hid HM.out; have HN := Lib.hid hm4; have HBX := Lib.hid hb4; clear hm4 hb4 hs4 hX)
      | (refine wpList_makeMapT rfl _ rfl ?_; intro w2 hm2 hb2 hs2; have HM := Lib.hid hm2; have HB0 := Lib.hid (HB0.out.trans (hb2.mono HB0.out.size)); clear hm2 hb2 hs2))
    have hfin := new_at (t := 73) HO.out HB.out ⟨HOK.out.1, HOK.out.2.1⟩ HB0.out HM1.out HBX.out HN.out
    go_ret
    exact ⟨hfin.1, _, _, _, rfl, hfin.2.1, hfin.2.2.1, hfin.2.2.2.1, hfin.2.2.2.2.1, hfin.2.2.2.2.2⟩
end Go.Proofs.YthgojbaindejjaaGreatDoor.ps

/- Package parse: names in front of expressions, the reader, its deferred function. -/
namespace Go.Proofs.YthgojbaindejjaaGreatDoor.ps
open Go.ChangeShapes Go.WideShapes Go.ChangeAt Go.RowKit Go.Proofs.YthgojbaindejjaaGreatDoor.mem Go.Proofs.YthgojbaindejjaaGreatDoor.lx Go.Proofs.YthgojbaindejjaaGreatDoor.tr
set_option linter.unusedVariables false
set_option linter.unusedSimpArgs false
attribute [local go_sem] tk_kind tk_text tk_num

theorem unassigned_any (v : Value) (w : World) : Calls Tryz.prog 27 #[v] w fun e w' => e = .returned (.string ⟨#[]⟩) ∧ w' = w := by
  go_enter Tryz.func27, Tryz.ntmps27
  go_wp2_with fail
  go_ret
  exact ⟨rfl, rfl⟩
theorem str_isL (a b : List UInt8) : ((txt.strOf a).toList == b) = decide (a = b) := by
  have e : ∀ l : List UInt8, (txt.strOf l).toList = l := fun l => by rw [Lib.toList_data]; simp [txt.strOf]
  rw [e]
  by_cases h : a = b
  · subst h; simp
  · simp [h]
/-- A name that an expression is assigned to, and what is behind it. -/
def asN (L : List Tk) : List UInt8 × List Tk := match L with
  | t :: a :: R => if t.k = 1 ∧ a.t = gArr then (t.t, R) else ([], L)
  | _ => ([], L)
theorem rdK_snd {w : World} {A : Option Addr} {n : Nat} {t a : Tk} {R : List Tk} (h : RdK w A n (t :: a :: R)) : ∃ ad, A = some ad ∧ w.cell? ad = some (.int .i64 t.k) ∧ w.cell? ⟨ad.block, ad.off + 3 + 1, none⟩ = some (.string (txt.strOf a.t)) := by
  obtain ⟨ad, e, hl, h1, h2, h3⟩ := h.2 0 t rfl
  obtain ⟨ad', e', hl', h1', h2', h3'⟩ := h.2 1 a rfl
  rw [e] at e'
  injection e' with e'
  subst e'
  refine ⟨ad, e, by simpa [Addr.add] using h1, ?_⟩
  have : (ad.add (1 * 3 + 1)) = ⟨ad.block, ad.off + 3 + 1, none⟩ := by unfold Addr.add; simp
  rw [← this]
  exact h2'
set_option maxHeartbeats 2000000 in
theorem assigned_any {b m1 m2 : Nat} {w : World} {L : List Tk} (h : At b m1 m2 w L) : Calls Tryz.prog 28 #[.pointer (some ⟨b, 0, none⟩)] w fun e w' => (e = .returned (.string (txt.strOf (asN L).1)) ∧ Mv b w w' ∧ At b m1 m2 w' (asN L).2) ∧ ∀ lo, LowT lo b w → LowT lo b w' := by
  have HA := Lib.hid h
  match L, h with
  | [], h =>
    obtain ⟨A, n, c, t1, t2, t3⟩ := h.tok
    obtain rfl : n = 0 := t2.1.symm
    clear h t2 t3
    go_enter Tryz.func28, Tryz.ntmps28
    go_wp2_with fail
    go_ret
    exact ⟨⟨rfl, Mv.refl _ _, HA.out⟩, fun _ h => h⟩
  | [t], h =>
    obtain ⟨A, n, c, t1, t2, t3⟩ := h.tok
    obtain rfl : n = 1 := t2.1.symm
    clear h t2 t3
    go_enter Tryz.func28, Tryz.ntmps28
    go_wp2_with fail
    go_ret
    exact ⟨⟨rfl, Mv.refl _ _, HA.out⟩, fun _ h => h⟩
  | t :: a :: R, h =>
    obtain ⟨A, n, c, t1, t2, t3, t4, t5, t6⟩ := h.tok
    obtain ⟨ad, rfl, c0, c1⟩ := rdK_snd t2
    have hn : n = R.length + 2 := by have := t2.1; simp at this; omega
    subst hn
    have hlen := h.len
    simp only [List.length_cons] at hlen
    have hl2 : decide ((R.length : Int) + 2 < 2) = false := decide_eq_false (by omega)
    by_cases hk1 : t.k = 1
    · by_cases hg : a.t = gArr
      · have e0 : asN (t :: a :: R) = (t.t, R) := by unfold asN; simp only []; rw [if_pos ⟨hk1, hg⟩]
        rw [e0]
        have PN := Lib.hid (fun V t R (h : At b m1 m2 V (t :: R)) => next_low h)
        have P1 := Lib.hid (PN.out w t (a :: R) HA.out)
        unfold tkV at P1
        rw [show hd (t :: a :: R) = t.t from rfl] at P1
        have P2 := Lib.hid (fun V h => PN.out V a R h)
        unfold tkV at P2
        rw [hk1] at c0
        have hs : ((txt.strOf a.t).toList == [226, 134, 144]) = true := by rw [str_isL]; exact decide_eq_true hg
        generalize hk (t :: a :: R) = kk, ((t :: a :: R).head?.map Tk.n).getD 0 = nn at *
        generalize hk (a :: R) = kk2, hd (a :: R) = tt2, ((a :: R).head?.map Tk.n).getD 0 = nn2 at *
        generalize a.t = at' at *
        generalize t.t = tt at *
        clear h t2 t3 t4 t5 t6 e0 hk1 hg PN
        go_enter Tryz.func28, Tryz.ntmps28
        go_wp2_with fail
        refine P1.out.mono ?_
        rintro e w1 ⟨⟨rfl, hm, ha⟩, hlo⟩
        have HM := Lib.hid hm
        have HLO := Lib.hid hlo
        have P3 := Lib.hid (P2.out w1 ha)
        clear hm ha hlo
        go_wp2_with fail
        refine P3.out.mono ?_
        rintro e w2 ⟨⟨rfl, hm, ha⟩, hlo⟩
        have HM2 := Lib.hid (HM.out.trans hm)
        have HA2 := Lib.hid ha
        have HLO2 := Lib.hid (fun lo h => hlo lo (HLO.out lo h))
        clear hm ha hlo
        go_wp2_with fail
        go_ret
        exact ⟨⟨rfl, HM2.out, HA2.out⟩, HLO2.out⟩
      · have e0 : asN (t :: a :: R) = ([], t :: a :: R) := by unfold asN; simp only []; rw [if_neg (fun e => hg e.2)]
        rw [e0]
        rw [hk1] at c0
        have hs : ((txt.strOf a.t).toList == [226, 134, 144]) = false := by rw [str_isL]; exact decide_eq_false hg
        generalize a.t = tt at *
        clear h t2 t3 t4 t5 t6 e0 hk1 hg
        go_enter Tryz.func28, Tryz.ntmps28
        go_wp2_with fail
        go_ret
        exact ⟨⟨rfl, Mv.refl _ _, HA.out⟩, fun _ h => h⟩
    · have e0 : asN (t :: a :: R) = ([], t :: a :: R) := by unfold asN; simp only []; rw [if_neg (fun e => hk1 e.1)]
      rw [e0]
      have hs : (t.k == 1) = false := by simpa using hk1
      have hs2 : (t.k != 1) = true := by simpa using hk1
      generalize t.k = kk at *
      clear h t2 t3 t4 t5 t6 e0 hk1
      go_enter Tryz.func28, Tryz.ntmps28
      go_wp2_with fail
      go_ret
      exact ⟨⟨rfl, Mv.refl _ _, HA.out⟩, fun _ h => h⟩

/-! ### The deferred function -/
theorem neq_panic (w : World) : (binOp .neq 20 (.iface 34 (.int .i64 1)) .nilIface).run Tryz.prog w = .ok (.bool true) w := by kernel_rfl
theorem neq_idle (w : World) : (binOp .neq 20 .nilIface .nilIface).run Tryz.prog w = .ok (.bool false) w := by kernel_rfl
theorem catch_idle (p q : Addr) (w : World) : CallsD Tryz.prog 40 #[.pointer (some p), .pointer (some q)] .returning w fun e u' w' => e = .returned (.tuple #[]) ∧ u' = .returning ∧ w' = w := by
  refine callsD_of_wpS Tryz.func40 rfl fun c₀ cs hu => ?_
  apply wpS_seq
  apply wpS_region
  simp [wpOpsS, go_sem, recoverD, hu, Tryz.ntmps40, Exit.thenS, neq_idle]
  refine wpS_cond (t := false) (by simp [Act.eval, Array.replicate]) ?_
  simp only [Bool.false_eq_true, if_false]
  refine wpS_of_wp (wp_skip ?_)
  cases c₀
  simp_all [bodyPostS, results, Tryz.results40]
theorem catch_panic (g4 g5 : Nat) (w : World) {x0 x1 x2 x3 x4 x5 x6 y : Value} (h4 : Seven g4 w x0 x1 x2 x3 x4 x5 x6) (h5 : w.cell? ⟨g5, 0, none⟩ = some y) (hf : w.frozen? ⟨g5, 0, none⟩ = false) (hne : g4 ≠ g5) :
    CallsD Tryz.prog 40 #[.pointer (some ⟨g4, 0, none⟩), .pointer (some ⟨g5, 0, none⟩)] (.panicking PCH) w fun e u' w' =>
      e = .returned (.tuple #[]) ∧ u' = .panicking [{ v := .iface 34 (.int .i64 1), recovered := true }] ∧ w' = (put7 w g4 (.string ⟨#[]⟩) (.int .i64 0) (.int .i64 0) (.int .i64 0) (.string ⟨#[]⟩) (.slice none 0 0) (.slice none 0 0)).setCell ⟨g5, 0, none⟩ (.int .i64 1) := by
  obtain ⟨c0, c1, c2, c3, c4, c5, c6, f⟩ := h4
  have f0 := f 0; have f1 := f 1; have f2 := f 2; have f3 := f 3; have f4 := f 4; have f5 := f 5; have f6 := f 6
  refine callsD_of_wpS Tryz.func40 rfl fun c₀ cs hu => ?_
  apply wpS_seq
  apply wpS_region
  simp [wpOpsS, go_sem, recoverD, hu, Tryz.ntmps40, Exit.thenS, PCH, neq_panic]
  refine wpS_cond (t := true) (by simp [Act.eval, Array.replicate]) ?_
  simp only [if_true]
  apply wpS_region
  simp [wpOpsS, go_sem, c0, c1, c2, c3, c4, c5, c6, f0, f1, f2, f3, f4, f5, f6, h5, hf, hne, bodyPostS, results, Tryz.results40, put7]
end Go.Proofs.YthgojbaindejjaaGreatDoor.ps

/- Package parse: the reader, Expr and Line. -/
namespace Go.Proofs.YthgojbaindejjaaGreatDoor.ps
open Go.ChangeShapes Go.WideShapes Go.ChangeAt Go.RowKit Go.Proofs.YthgojbaindejjaaGreatDoor.mem Go.Proofs.YthgojbaindejjaaGreatDoor.lx Go.Proofs.YthgojbaindejjaaGreatDoor.tr
set_option linter.unusedVariables false
set_option linter.unusedSimpArgs false

def zT : Tr := .node 0 0 0 ⟨#[]⟩ [] []
/-- The line of a text: its name, its tree, its error. -/
def lineOf (nmF : List Tk → List UInt8 × List Tk) (l : List UInt8) : List UInt8 × Tr × Int := match toks l with
  | none => ([], zT, 1)
  | some M => match exT (nmF M).2 with
    | none => ([], zT, 1)
    | some T => if 100 < deepT T then ([], zT, 7) else ((nmF M).1, T, 0)
/-- A function that reads a name in front of an expression. -/
structure NameFn (K : Nat) (nmF : List Tk → List UInt8 × List Tk) : Prop where
  enter : ∀ args w, (callFunc K args).run Tryz.prog w = .ok (.enter K args) w
  call : ∀ b m1 m2 V L, At b m1 m2 V L → Calls Tryz.prog K #[.pointer (some ⟨b, 0, none⟩)] V fun e w' => (e = .returned (.string (txt.strOf (nmF L).1)) ∧ Mv b V w' ∧ At b m1 m2 w' (nmF L).2) ∧ ∀ lo, LowT lo b V → LowT lo b w'
/-- What the reader answers. -/
def ReadTo (w : World) (r : List UInt8 × Tr × Int) (e : Ending) (w' : World) : Prop := ∃ u : S6, e = .returned (.tuple #[.agg #[.string (txt.strOf r.1), u.c0, u.c1, u.c2, u.c3, u.c4, u.c5], .int .i64 r.2.2]) ∧ RdQ (fun k => w.heap.size ≤ k) w' r.2.1 u.agg ∧ Below w.heap.size w w'
theorem rd_zero {Q : Nat → Prop} {w : World} : RdQ Q w zT (.agg #[.int .i64 0, .int .i64 0, .int .i64 0, .string ⟨#[]⟩, .slice none 0 0, .slice none 0 0]) := by
  unfold zT
  rw [rdQ_node]
  exact ⟨none, 0, 0, none, 0, 0, rfl, in64_k (by decide) (by decide), in64_k (by decide) (by decide), in64_k (by decide) (by decide), by decide, Rd.nil_, Nat.le_refl _, by omega, (fun _ => rfl), (fun x hx => by simp at hx), rfl, Nat.le_refl _, by omega, (fun _ => rfl), (fun ad e _ => by cases e), rdQL_nil⟩
/-- What the reader lays first. -/
structure Rd0 (w W : World) (x : Value) : Prop where
  line : Seven w.heap.size W x (.int .i64 0) (.int .i64 0) (.int .i64 0) (.string ⟨#[]⟩) (.slice none 0 0) (.slice none 0 0)
  err : W.cell? ⟨w.heap.size + 1, 0, none⟩ = some (.int .i64 0)
  f : W.frozen? ⟨w.heap.size + 1, 0, none⟩ = false
  below : Below w.heap.size w W
  size : w.heap.size + 1 < W.heap.size
theorem rd0_new (w : World) : Rd0 w ((w.alloc (.cells #[.string ⟨#[]⟩, .int .i64 0, .int .i64 0, .int .i64 0, .string ⟨#[]⟩, .slice none 0 0, .slice none 0 0] 32)).alloc (.cells #[.int .i64 0] 34)) (.string ⟨#[]⟩) := by
  obtain ⟨W, hW⟩ : ∃ W, W = w.alloc (.cells #[.string ⟨#[]⟩, .int .i64 0, .int .i64 0, .int .i64 0, .string ⟨#[]⟩, .slice none 0 0, .slice none 0 0] 32) := ⟨_, rfl⟩
  obtain ⟨hs, hb, hz⟩ := seven_new hW
  rw [← hW]
  have hb2 := Joins.below_alloc1 W (.cells #[.int .i64 0] 34)
  refine ⟨hs.below hb2, ?_, ?_, hb.trans (hb2.mono (by omega)), ?_⟩
  · rw [← hz]; simp
  · rw [← hz]; simp
  · simp; omega
theorem Rd0.below' {w W V : World} {x : Value} (h : Rd0 w W x) (hb : Below W.heap.size W V) : Rd0 w V x :=
  ⟨h.line.below hb, (hb.cell (p := ⟨w.heap.size + 1, 0, none⟩) h.size).trans h.err, (hb.frozen (p := ⟨w.heap.size + 1, 0, none⟩) h.size).trans h.f, h.below.trans (hb.mono h.below.size), Nat.lt_of_lt_of_le h.size hb.size⟩
theorem Rd0.mv {b : Nat} {w W V : World} {x : Value} (h : Rd0 w W x) (hm : Mv b W V) (hb : w.heap.size + 1 < b) : Rd0 w V x :=
  ⟨h.line.mv hm (by omega), (hm.cell h.size (by omega)).trans h.err, (hm.frozen h.size (by omega)).trans h.f, ⟨hm.os.trans h.below.os, hm.tape.trans h.below.tape, hm.output.trans h.below.output, Nat.le_trans h.below.size hm.size, fun k hk => (hm.block k (Nat.lt_of_lt_of_le hk h.below.size) (by omega)).trans (h.below.block k hk)⟩, Nat.lt_of_lt_of_le h.size hm.size⟩
theorem put7_seven {g : Nat} {X : World} {x0 x1 x2 x3 x4 x5 x6 : Value} (h : Seven g X x0 x1 x2 x3 x4 x5 x6) (y0 y1 y2 y3 y4 y5 y6 : Value) : Seven g (put7 X g y0 y1 y2 y3 y4 y5 y6) y0 y1 y2 y3 y4 y5 y6 := by
  obtain ⟨c0, c1, c2, c3, c4, c5, c6, f⟩ := h
  unfold put7
  refine ⟨by simp [go_sem, c0, c1, c2, c3, c4, c5, c6], by simp [go_sem, c0, c1, c2, c3, c4, c5, c6], by simp [go_sem, c0, c1, c2, c3, c4, c5, c6], by simp [go_sem, c0, c1, c2, c3, c4, c5, c6], by simp [go_sem, c0, c1, c2, c3, c4, c5, c6], by simp [go_sem, c0, c1, c2, c3, c4, c5, c6], by simp [go_sem, c0, c1, c2, c3, c4, c5, c6], fun j => ?_⟩
  rw [World.frozen?_setCell, World.frozen?_setCell, World.frozen?_setCell, World.frozen?_setCell, World.frozen?_setCell, World.frozen?_setCell, World.frozen?_setCell]
  exact f j
/-- The six cells of a tree are stored behind a name. -/
def put6 (X : World) (g : Nat) (x1 x2 x3 x4 x5 x6 : Value) : World := (((((X.setCell ⟨g, 1, none⟩ x1).setCell ⟨g, 2, none⟩ x2).setCell ⟨g, 3, none⟩ x3).setCell ⟨g, 4, none⟩ x4).setCell ⟨g, 5, none⟩ x5).setCell ⟨g, 6, none⟩ x6
theorem put6_seven {g : Nat} {X : World} {x0 x1 x2 x3 x4 x5 x6 : Value} (h : Seven g X x0 x1 x2 x3 x4 x5 x6) (y1 y2 y3 y4 y5 y6 : Value) : Seven g (put6 X g y1 y2 y3 y4 y5 y6) x0 y1 y2 y3 y4 y5 y6 := by
  obtain ⟨c0, c1, c2, c3, c4, c5, c6, f⟩ := h
  unfold put6
  refine ⟨by simp [go_sem, c0, c1, c2, c3, c4, c5, c6], by simp [go_sem, c0, c1, c2, c3, c4, c5, c6], by simp [go_sem, c0, c1, c2, c3, c4, c5, c6], by simp [go_sem, c0, c1, c2, c3, c4, c5, c6], by simp [go_sem, c0, c1, c2, c3, c4, c5, c6], by simp [go_sem, c0, c1, c2, c3, c4, c5, c6], by simp [go_sem, c0, c1, c2, c3, c4, c5, c6], fun j => ?_⟩
  rw [World.frozen?_setCell, World.frozen?_setCell, World.frozen?_setCell, World.frozen?_setCell, World.frozen?_setCell, World.frozen?_setCell]
  exact f j
theorem put6_block {X : World} {g : Nat} {x1 x2 x3 x4 x5 x6 : Value} {i : Nat} (h : i ≠ g) : (put6 X g x1 x2 x3 x4 x5 x6).heap[i]? = X.heap[i]? :=
  (((((Below.heap_setCell _ _ _ _ h).trans (Below.heap_setCell _ _ _ _ h)).trans (Below.heap_setCell _ _ _ _ h)).trans (Below.heap_setCell _ _ _ _ h)).trans (Below.heap_setCell _ _ _ _ h)).trans (Below.heap_setCell _ _ _ _ h)
theorem put6_below {B : Nat} {X : World} {g : Nat} {x1 x2 x3 x4 x5 x6 : Value} (h : B ≤ g) : Below B X (put6 X g x1 x2 x3 x4 x5 x6) :=
  (((((((Below.refl B X).setCell (p := ⟨g, 1, none⟩) h x1).setCell (p := ⟨g, 2, none⟩) h x2).setCell (p := ⟨g, 3, none⟩) h x3).setCell (p := ⟨g, 4, none⟩) h x4).setCell (p := ⟨g, 5, none⟩) h x5).setCell (p := ⟨g, 6, none⟩) h x6)
/-- The line is stored, and no error. -/
theorem lined {w V3 : World} {x : Value} (h : Rd0 w V3 x) (y1 y2 y3 y4 y5 y6 : Value) : ∃ X, X = (put7 (put6 V3 w.heap.size y1 y2 y3 y4 y5 y6) w.heap.size x y1 y2 y3 y4 y5 y6).setCell ⟨w.heap.size + 1, 0, none⟩ (.int .i64 0) ∧
    Seven w.heap.size X x y1 y2 y3 y4 y5 y6 ∧ X.cell? ⟨w.heap.size + 1, 0, none⟩ = some (.int .i64 0) ∧ Below w.heap.size w X ∧ V3.heap.size ≤ X.heap.size ∧ ∀ i, i ≠ w.heap.size → i ≠ w.heap.size + 1 → X.heap[i]? = V3.heap[i]? := by
  have hb : Below w.heap.size V3 ((put7 (put6 V3 w.heap.size y1 y2 y3 y4 y5 y6) w.heap.size x y1 y2 y3 y4 y5 y6).setCell ⟨w.heap.size + 1, 0, none⟩ (.int .i64 0)) :=
    ((put6_below (Nat.le_refl _)).trans (put7_below (Nat.le_refl _))).setCell (p := ⟨w.heap.size + 1, 0, none⟩) (Nat.le_succ _) _
  refine ⟨_, rfl, ?_, ?_, h.below.trans hb, hb.size, fun i h4 h5 => ?_⟩
  · exact (put7_seven (put6_seven h.line _ _ _ _ _ _) _ _ _ _ _ _ _).as (Below.heap_setCell _ _ _ _ (show w.heap.size ≠ w.heap.size + 1 by omega))
  · have : (put7 (put6 V3 w.heap.size y1 y2 y3 y4 y5 y6) w.heap.size x y1 y2 y3 y4 y5 y6).cell? ⟨w.heap.size + 1, 0, none⟩ = some (.int .i64 0) :=
      (World.cell?_of_block (a := ⟨w.heap.size + 1, 0, none⟩) ((put7_block (show w.heap.size + 1 ≠ w.heap.size by omega)).trans (put6_block (show w.heap.size + 1 ≠ w.heap.size by omega)))).trans h.err
    exact set_same this
  · exact ((Below.heap_setCell _ _ _ _ h5).trans (put7_block h4)).trans (put6_block h4)
/-- What is answered behind the deferred function, when it has caught a panic. -/
theorem Rd0.name {w W : World} {x : Value} (h : Rd0 w W x) (y : Value) : Rd0 w (W.setCell ⟨w.heap.size, 0, none⟩ y) y := by
  obtain ⟨c0, c1, c2, c3, c4, c5, c6, f⟩ := h.line
  refine ⟨⟨set_same c0, (set_other (by decide)).trans c1, (set_other (by decide)).trans c2, (set_other (by decide)).trans c3, (set_other (by decide)).trans c4, (set_other (by decide)).trans c5, (set_other (by decide)).trans c6, fun j => (World.frozen?_setCell _ _ _ _).trans (f j)⟩, (set_apart (by omega)).trans h.err, (World.frozen?_setCell _ _ _ _).trans h.f, h.below.setCell (p := ⟨w.heap.size, 0, none⟩) (Nat.le_refl _) _, by have := h.size; simpa [World.setCell] using this⟩
theorem caught {w w1 : World} {x : Value} (h : Rd0 w w1 x) : ∃ V, V = (put7 w1 w.heap.size (.string ⟨#[]⟩) (.int .i64 0) (.int .i64 0) (.int .i64 0) (.string ⟨#[]⟩) (.slice none 0 0) (.slice none 0 0)).setCell ⟨w.heap.size + 1, 0, none⟩ (.int .i64 1) ∧
    Seven w.heap.size V (.string ⟨#[]⟩) (.int .i64 0) (.int .i64 0) (.int .i64 0) (.string ⟨#[]⟩) (.slice none 0 0) (.slice none 0 0) ∧ V.cell? ⟨w.heap.size + 1, 0, none⟩ = some (.int .i64 1) ∧ Below w.heap.size w V := by
  refine ⟨_, rfl, ?_, ?_, ?_⟩
  · exact (put7_seven h.line _ _ _ _ _ _ _).as (Below.heap_setCell _ _ _ _ (show w.heap.size ≠ w.heap.size + 1 by omega))
  · have : (put7 w1 w.heap.size (.string ⟨#[]⟩) (.int .i64 0) (.int .i64 0) (.int .i64 0) (.string ⟨#[]⟩) (.slice none 0 0) (.slice none 0 0)).cell? ⟨w.heap.size + 1, 0, none⟩ = some (.int .i64 0) :=
      (World.cell?_of_block (a := ⟨w.heap.size + 1, 0, none⟩) (put7_block (show w.heap.size + 1 ≠ w.heap.size by omega))).trans h.err
    exact set_same this
  · exact (h.below.trans (put7_below (Nat.le_refl _))).setCell (p := ⟨w.heap.size + 1, 0, none⟩) (Nat.le_succ _) _
/-- A text that is not of the grammar. -/
theorem read_syntax {K : Nat} {nmF : List Tk → List UInt8 × List Tk} (hN : NameFn K nmF) (l : List UInt8) (hl : l.length ≤ 9223372036854775807) (w : World) (hL : Lays w) (ht : toks l = none) :
    Calls Tryz.prog 26 #[.string (txt.strOf l), .func (.func K) #[] #[]] w (ReadTo w (lineOf nmF l)) := by
  have e0 : lineOf nmF l = ([], zT, 1) := by unfold lineOf; rw [ht]
  rw [e0]
  have hmf : ∀ (fn : _root_.Go.Fn) (first cap : Array Value) (w : World), (Instr.makeFunc fn first cap).run Tryz.prog w = .ok (.func fn first cap) w := fun _ _ _ _ => rfl
  have HR := Lib.hid (rd0_new w)
  obtain ⟨W, hW⟩ : ∃ W, W = (w.alloc (.cells #[.string ⟨#[]⟩, .int .i64 0, .int .i64 0, .int .i64 0, .string ⟨#[]⟩, .slice none 0 0, .slice none 0 0] 32)).alloc (.cells #[.int .i64 0] 34) := ⟨_, rfl⟩
  rw [← hW] at HR
  have PN := Lib.hid (new_any l hl W (hL.below HR.out.below))
  rw [ht] at PN
  have HW := Lib.hid hW
  clear hW ht hl hL e0
  go_enter_defers Tryz.func26, Tryz.ntmps26
  go_wp2_with fail
  rw [← HW.out]
  refine PN.out.mono ?_
  rintro e w1 ⟨hb, rfl⟩
  have HR1 := Lib.hid (HR.out.below' hb)
  clear hb
  go_wp2_with fail
  refine leaves_cons (f := 40) (args := #[.pointer (some ⟨w.heap.size, 0, none⟩), .pointer (some ⟨w.heap.size + 1, 0, none⟩)]) (by simp) (by simp [go_sem]) ?_
  refine (catch_panic w.heap.size (w.heap.size + 1) w1 HR1.out.line HR1.out.err HR1.out.f (by omega)).mono ?_
  rintro e u' w'' ⟨rfl, rfl, rfl⟩
  obtain ⟨V, hV, hS, hE, hB⟩ := caught HR1.out
  rw [← hV]
  obtain ⟨c0, c1, c2, c3, c4, c5, c6, -⟩ := hS
  simp [Leaves, settle, results, Tryz.results26, go_sem, c0, c1, c2, c3, c4, c5, c6, hE]
  exact ⟨⟨.int .i64 0, .int .i64 0, .int .i64 0, .string ⟨#[]⟩, .slice none 0 0, .slice none 0 0⟩, rfl, rd_zero, hB⟩
/-- A text that has tokens. -/
theorem lineOf_some {nmF : List Tk → List UInt8 × List Tk} {l : List UInt8} {M : List Tk} (ht : toks l = some M) (hok : okL (nmF M).2) : lineOf nmF l = (match dEx ((nmF M).2.length + 1) (nmF M).2 with
    | none => ([], zT, 1)
    | some (T, r) => if r = [] then (if 100 < deepT T then ([], zT, 7) else ((nmF M).1, T, 0)) else ([], zT, 1)) := by
  unfold lineOf
  rw [ht]
  simp only []
  rw [← dEx_exT hok (Nat.lt_succ_self _)]
  cases hd : dEx ((nmF M).2.length + 1) (nmF M).2 with
  | none => simp
  | some p =>
    obtain ⟨T, r⟩ := p
    simp only []
    by_cases hr : r = []
    · rw [if_pos hr, if_pos hr]
    · rw [if_neg hr, if_neg hr]
set_option maxHeartbeats 4000000 in
theorem read_any {K : Nat} {nmF : List Tk → List UInt8 × List Tk} (hN : NameFn K nmF) (l : List UInt8) (hl : l.length ≤ 9223372036854775807) (w : World) (hL : Lays w) :
    Calls Tryz.prog 26 #[.string (txt.strOf l), .func (.func K) #[] #[]] w (ReadTo w (lineOf nmF l)) := by
  cases ht : toks l with
  | none => exact read_syntax hN l hl w hL ht
  | some M =>
  have hmf : ∀ (fn : _root_.Go.Fn) (first cap : Array Value) (w : World), (Instr.makeFunc fn first cap).run Tryz.prog w = .ok (.func fn first cap) w := fun _ _ _ _ => rfl
  have eg := hN.enter
  have HR := Lib.hid (rd0_new w)
  obtain ⟨W, hW⟩ : ∃ W, W = (w.alloc (.cells #[.string ⟨#[]⟩, .int .i64 0, .int .i64 0, .int .i64 0, .string ⟨#[]⟩, .slice none 0 0, .slice none 0 0] 32)).alloc (.cells #[.int .i64 0] 34) := ⟨_, rfl⟩
  rw [← hW] at HR
  have PN := Lib.hid (new_any l hl W (hL.below HR.out.below))
  rw [ht] at PN
  have HW := Lib.hid hW
  have PM := Lib.hid (fun b m1 m2 V (h : At b m1 m2 V M) => hN.call b m1 m2 V M h)
  have PX := Lib.hid (fun b m1 m2 V (h : At b m1 m2 V (nmF M).2) => expr_any ((nmF M).2.length + 1) V (nmF M).2 h (Nat.lt_succ_self _))
  have HLI := Lib.hid (fun (hok : okL (nmF M).2) => lineOf_some ht hok)
  have PFL := Lib.hid fail_any
  have HF2 := Lib.hid (fun V b m1 m2 T r (h : At b m1 m2 V (nmF M).2) (hd : dEx ((nmF M).2.length + 1) (nmF M).2 = some (T, r)) => And.intro (dEx_deep h.ok hd) h.len)
  generalize (nmF M).2 = M2 at *
  generalize (nmF M).1 = nn at *
  generalize hdx : dEx (M2.length + 1) M2 = DX at *
  have HDX := Lib.hid hdx
  clear hW ht hl hL hN hdx
  go_enter_defers Tryz.func26, Tryz.ntmps26
  go_wp2_with fail
  rw [← HW.out]
  refine PN.out.mono ?_
  rintro e w1 ⟨hb, b, m1, m2, rfl, hbl, ha, hm1, hm2, hlw⟩
  have HLW := Lib.hid (And.intro hm1 (And.intro hm2 (And.intro hlw HR.out.size)))
  have HR1 := Lib.hid (HR.out.below' hb)
  have HBL := Lib.hid (show w.heap.size + 1 < b by have := HR.out.size; omega)
  have P1 := Lib.hid (PM.out b m1 m2 w1 ha)
  clear hb hbl ha hm1 hm2 hlw
  go_wp2_with fail
  refine P1.out.mono ?_
  rintro e w2 ⟨⟨rfl, hm, ha⟩, hlo⟩
  have HR2 := Lib.hid (HR1.out.mv hm HBL.out)
  have c0 := HR2.out.line.c0
  have f0 := HR2.out.line.f 0
  obtain ⟨V, hV⟩ : ∃ V, V = w2.setCell ⟨w.heap.size, 0, none⟩ (.string (txt.strOf nn)) := ⟨_, rfl⟩
  have HRV : Hid (Rd0 w V (.string (txt.strOf nn))) := Lib.hid (by rw [hV]; exact HR2.out.name _)
  have hAV : At b m1 m2 V M2 := by
    rw [hV]
    exact ha.set_low (hlo _ HLW.out.2.2.1) HLW.out.1 HLW.out.2.1 (by have := HLW.out.2.2.2; omega) _
  have P2 := Lib.hid (PX.out b m1 m2 V hAV)
  have HOK2 := Lib.hid hAV.ok
  have HF3 := Lib.hid (fun T r h => HF2.out V b m1 m2 T r hAV h)
  have HV := Lib.hid hV
  clear hm ha hV hlo hAV
  go_upto_region 4 with fail
  rw [← HV.out]
  clear c0 f0
  cases DX with
  | none =>
    simp only [] at HLI
    go_wp2_with fail
    refine P2.out.mono ?_
    rintro e w3 ⟨hm, rfl⟩
    have HRX := Lib.hid (HRV.out.mv hm HBL.out)
    clear hm
    go_wp2_with fail
    refine leaves_cons (f := 40) (args := #[.pointer (some ⟨w.heap.size, 0, none⟩), .pointer (some ⟨w.heap.size + 1, 0, none⟩)]) (by simp) (by simp [go_sem]) ?_
    refine (catch_panic w.heap.size (w.heap.size + 1) _ HRX.out.line HRX.out.err HRX.out.f (by omega)).mono ?_
    rintro e u' w'' ⟨rfl, rfl, rfl⟩
    obtain ⟨V', hV', hS, hE, hB⟩ := caught HRX.out
    rw [← hV']
    obtain ⟨c0, c1, c2, c3, c4, c5, c6, -⟩ := hS
    simp [Leaves, settle, results, Tryz.results26, go_sem, c0, c1, c2, c3, c4, c5, c6, hE]
    rw [HLI.out HOK2.out]
    exact ⟨⟨.int .i64 0, .int .i64 0, .int .i64 0, .string ⟨#[]⟩, .slice none 0 0, .slice none 0 0⟩, rfl, rd_zero, hB⟩
  | some p =>
    obtain ⟨T, r⟩ := p
    have HDT := Lib.hid (HF3.out T r rfl)
    simp only [] at HLI
    go_wp2_with fail
    refine P2.out.mono ?_
    rintro e w3 ⟨hm, u, rfl, hu, ha⟩
    obtain ⟨k0, f0, a0, s0, A0, n0, q0, B0, m0, d0, rfl, -⟩ := RdQ_six hu
    obtain ⟨V3, hV3⟩ : ∃ V3, V3 = w3.alloc (.cells #[.int .i64 k0, .int .i64 f0, .int .i64 a0, .string s0, .slice A0 n0 q0, .slice B0 m0 d0, .int .i64 (deepT T)] 68) := ⟨_, rfl⟩
    obtain ⟨hS7, hb3, hs3⟩ := seven_new hV3
    have HRX := Lib.hid ((HRV.out.mv hm HBL.out).below' hb3)
    have HU := Lib.hid (hu.below hb3)
    have HVS := Lib.hid HRV.out.size
    have HNE := Lib.hid (show w.heap.size ≠ w3.heap.size ∧ w.heap.size + 1 ≠ w3.heap.size by have := HRV.out.size; have := hm.size; omega)
    obtain ⟨A, n, c, t1, t2, -⟩ := (ha.below hb3).tok
    have hn : n = r.length := t2.1.symm
    subst hn
    have HV3 := Lib.hid hV3
    have hrl : r.length ≤ 65536 := by have := HDT.out; omega
    obtain ⟨dT, hdT⟩ : ∃ dT, dT = deepT T := ⟨_, rfl⟩
    have hdl : dT ≤ 65536 := by have := HDT.out; omega
    clear hm ha hu hV3 hb3 hs3 t2
    go_upto_region 5 with fail
    rw [← HV3.out]
    by_cases hr : r = []
    · subst hr
      simp only [if_true, List.length_nil] at HLI t1 ⊢
      obtain ⟨y0, y1, y2, y3, y4, y5, y6, -⟩ := hS7
      rw [← hdT] at y6 HLI
      by_cases hd : 100 < dT
      · have hdi : (100 : Int) < (dT : Int) := by omega
        have HLI := Lib.hid (show okL M2 → lineOf nmF l = ([], zT, 7) from fun h => by rw [HLI.out h, if_pos hd])
        obtain ⟨c0, c1, c2, c3, c4, c5, c6, f⟩ := HRX.out.line
        have e0 := HRX.out.err
        have ef := HRX.out.f
        have f0' := f 0; have f1 := f 1; have f2 := f 2; have f3 := f 3; have f4 := f 4; have f5 := f 5; have f6 := f 6
        clear f hd hdT
        go_wp2_with fail
        refine leaves_cons (f := 40) (args := #[.pointer (some ⟨w.heap.size, 0, none⟩), .pointer (some ⟨w.heap.size + 1, 0, none⟩)]) (by simp) (by simp [go_sem]) ?_
        refine (catch_idle _ _ _).mono ?_
        rintro e u' w'' ⟨rfl, rfl, rfl⟩
        have ne45 : w.heap.size ≠ w.heap.size + 1 := by omega
        have hbel : ∀ x0 x1 x2 x3 x4 x5 x6 y, Below w.heap.size w (((((((((V3.setCell ⟨w.heap.size, 0, none⟩ x0).setCell ⟨w.heap.size, 1, none⟩ x1).setCell ⟨w.heap.size, 2, none⟩ x2).setCell ⟨w.heap.size, 3, none⟩ x3).setCell ⟨w.heap.size, 4, none⟩ x4).setCell ⟨w.heap.size, 5, none⟩ x5).setCell ⟨w.heap.size, 6, none⟩ x6)).setCell ⟨w.heap.size + 1, 0, none⟩ y) :=
          fun x0 x1 x2 x3 x4 x5 x6 y => (HRX.out.below.trans (put7_below (Nat.le_refl _))).setCell (p := ⟨w.heap.size + 1, 0, none⟩) (Nat.le_succ _) _
        simp [Leaves, settle, results, Tryz.results26, go_sem, c0, c1, c2, c3, c4, c5, c6, e0]
        rw [HLI.out HOK2.out]
        exact ⟨⟨.int .i64 0, .int .i64 0, .int .i64 0, .string ⟨#[]⟩, .slice none 0 0, .slice none 0 0⟩, rfl, rd_zero, hbel _ _ _ _ _ _ _ _⟩
      · have hdi : ¬ (100 : Int) < (dT : Int) := by omega
        have HLI := Lib.hid (show okL M2 → lineOf nmF l = (nn, T, 0) from fun h => by rw [HLI.out h, if_neg hd])
        obtain ⟨c0, c1, c2, c3, c4, c5, c6, f⟩ := HRX.out.line
        have e0 := HRX.out.err
        have ef := HRX.out.f
        have f0' := f 0; have f1 := f 1; have f2 := f 2; have f3 := f 3; have f4 := f 4; have f5 := f 5; have f6 := f 6
        have ne4 : w.heap.size ≠ w3.heap.size := HNE.out.1
        clear f hd hdT
        go_wp2_with fail
        refine leaves_cons (f := 40) (args := #[.pointer (some ⟨w.heap.size, 0, none⟩), .pointer (some ⟨w.heap.size + 1, 0, none⟩)]) (by simp) (by simp [go_sem]) ?_
        refine (catch_idle _ _ _).mono ?_
        rintro e u' w'' ⟨rfl, rfl, rfl⟩
        obtain ⟨X, hX, hS, hE, hB, hsz, hp⟩ := lined HRX.out (.int .i64 k0) (.int .i64 f0) (.int .i64 a0) (.string s0) (.slice A0 n0 q0) (.slice B0 m0 d0)
        unfold put7 put6 at hX
        rw [← hX]
        clear c0 c1 c2 c3 c4 c5 c6 e0 ef f0' f1 f2 f3 f4 f5 f6 y0 y1 y2 y3 y4 y5 y6
        obtain ⟨c0, c1, c2, c3, c4, c5, c6, -⟩ := hS
        simp [Leaves, settle, results, Tryz.results26, go_sem, c0, c1, c2, c3, c4, c5, c6, hE]
        rw [HLI.out HOK2.out]
        refine ⟨⟨.int .i64 k0, .int .i64 f0, .int .i64 a0, .string s0, .slice A0 n0 q0, .slice B0 m0 d0⟩, rfl, HU.out.keep hsz (fun ad hq _ => World.cell?_of_block (hp _ ?_ ?_)) (fun k hk => ?_), hB⟩
        · have : V.heap.size ≤ ad.block := hq
          have := HVS.out; omega
        · have : V.heap.size ≤ ad.block := hq
          have := HVS.out; omega
        · have : V.heap.size ≤ k := hk
          have := HVS.out
          show w.heap.size ≤ k
          omega
    · have hri : (0 : Int) < (r.length : Int) := by
        have : r.length ≠ 0 := fun e => hr (List.eq_nil_of_length_eq_zero e)
        omega
      rw [if_neg hr] at HLI
      clear hr hS7 hdT
      go_wp2_with fail
      refine (PFL.out _).mono ?_
      rintro e w9 ⟨rfl, rfl⟩
      go_wp2_with fail
      refine leaves_cons (f := 40) (args := #[.pointer (some ⟨w.heap.size, 0, none⟩), .pointer (some ⟨w.heap.size + 1, 0, none⟩)]) (by simp) (by simp [go_sem]) ?_
      refine (catch_panic w.heap.size (w.heap.size + 1) _ HRX.out.line HRX.out.err HRX.out.f (by omega)).mono ?_
      rintro e u' w'' ⟨rfl, rfl, rfl⟩
      obtain ⟨V', hV', hS, hE, hB⟩ := caught HRX.out
      rw [← hV']
      obtain ⟨c0, c1, c2, c3, c4, c5, c6, -⟩ := hS
      simp [Leaves, settle, results, Tryz.results26, go_sem, c0, c1, c2, c3, c4, c5, c6, hE]
      rw [HLI.out HOK2.out]
      exact ⟨⟨.int .i64 0, .int .i64 0, .int .i64 0, .string ⟨#[]⟩, .slice none 0 0, .slice none 0 0⟩, rfl, rd_zero, hB⟩
end Go.Proofs.YthgojbaindejjaaGreatDoor.ps

/- Package parse: Expr and Line. -/
namespace Go.Proofs.YthgojbaindejjaaGreatDoor.ps
open Go.ChangeShapes Go.WideShapes Go.ChangeAt Go.RowKit Go.Proofs.YthgojbaindejjaaGreatDoor.mem Go.Proofs.YthgojbaindejjaaGreatDoor.lx Go.Proofs.YthgojbaindejjaaGreatDoor.tr
set_option linter.unusedVariables false
set_option linter.unusedSimpArgs false

def unN (L : List Tk) : List UInt8 × List Tk := ([], L)
theorem fn_unassigned : NameFn 27 unN where
  enter := fun args w => by kernel_rfl
  call := fun b m1 m2 V L h => (unassigned_any _ V).mono fun e w' ⟨h1, h2⟩ => by
    subst h1; subst h2
    exact ⟨⟨rfl, Mv.refl _ _, h⟩, fun _ h => h⟩
theorem fn_assigned : NameFn 28 asN where
  enter := fun args w => by kernel_rfl
  call := fun b m1 m2 V L h => assigned_any h
/-- What Expr answers. -/
def TreeTo (w : World) (T : Tr) (E : Int) (e : Ending) (w' : World) : Prop := ∃ u : S6, e = .returned (.tuple #[.agg #[u.c0, u.c1, u.c2, u.c3, u.c4, u.c5], .int .i64 E]) ∧ RdQ (fun k => w.heap.size ≤ k) w' T u.agg ∧ Below w.heap.size w w'
theorem line_any (l : List UInt8) (hl : l.length ≤ 9223372036854775807) (w : World) (hL : Lays w) : Calls Tryz.prog 15 #[.string (txt.strOf l)] w (ReadTo w (lineOf asN l)) := by
  obtain ⟨W, hW⟩ : ∃ W, W = w.alloc (.cells #[.string ⟨#[]⟩, .int .i64 0, .int .i64 0, .int .i64 0, .string ⟨#[]⟩, .slice none 0 0, .slice none 0 0] 32) := ⟨_, rfl⟩
  obtain ⟨hS, hbW, hsW⟩ := seven_new hW
  have P := Lib.hid (read_any fn_assigned l hl W (hL.below hbW))
  have HW := Lib.hid hW
  have HS := Lib.hid hS
  have HB := Lib.hid hbW
  have HZ := Lib.hid hsW
  obtain ⟨r, hr⟩ : ∃ r, r = lineOf asN l := ⟨_, rfl⟩
  rw [← hr] at P ⊢
  obtain ⟨nm, T, E⟩ := r
  clear hW hS hbW hsW hL hl hr
  go_enter Tryz.func15, Tryz.ntmps15
  go_upto_region 1 with fail
  rw [← HW.out]
  go_wp2_with fail
  refine P.out.mono ?_
  rintro e w1 ⟨u, rfl, hu, hb⟩
  obtain ⟨k0, f0, a0, s0, A0, n0, q0, B0, m0, d0, rfl, -⟩ := RdQ_six hu
  obtain ⟨s0', s1', s2', s3', s4', s5', s6', sf⟩ := HS.out.below hb
  have sf0 := sf 0; have sf1 := sf 1; have sf2 := sf 2; have sf3 := sf 3; have sf4 := sf 4; have sf5 := sf 5; have sf6 := sf 6
  have HU := Lib.hid hu
  have HB1 := Lib.hid hb
  clear hu hb sf
  go_wp2_with fail
  refine bodyPost_ret (v := .tuple #[.agg #[.string (txt.strOf nm), .int .i64 k0, .int .i64 f0, .int .i64 a0, .string s0, .slice A0 n0 q0, .slice B0 m0 d0], .int .i64 E]) (by simp [results, Tryz.results15, go_sem, s0', s1', s2', s3', s4', s5', s6']) rfl ?_
  refine ⟨⟨.int .i64 k0, .int .i64 f0, .int .i64 a0, .string s0, .slice A0 n0 q0, .slice B0 m0 d0⟩, rfl, HU.out.keep ?_ (fun ad hq _ => World.cell?_of_block (put7_block ?_)) (fun k hk => ?_), (HB.out.trans (HB1.out.mono HB.out.size)).trans (put7_below (Nat.le_refl _))⟩
  · exact (put7_below (B := 0) (Nat.zero_le _)).size
  · have : W.heap.size ≤ ad.block := hq
    have := HZ.out; omega
  · have : W.heap.size ≤ k := hk
    have := HZ.out
    show w.heap.size ≤ k
    omega
/-- The six cells of a tree are stored. -/
def put6z (X : World) (g : Nat) (x0 x1 x2 x3 x4 x5 : Value) : World := (((((X.setCell ⟨g, 0, none⟩ x0).setCell ⟨g, 1, none⟩ x1).setCell ⟨g, 2, none⟩ x2).setCell ⟨g, 3, none⟩ x3).setCell ⟨g, 4, none⟩ x4).setCell ⟨g, 5, none⟩ x5
theorem put6z_block {X : World} {g : Nat} {x0 x1 x2 x3 x4 x5 : Value} {i : Nat} (h : i ≠ g) : (put6z X g x0 x1 x2 x3 x4 x5).heap[i]? = X.heap[i]? :=
  (((((Below.heap_setCell _ _ _ _ h).trans (Below.heap_setCell _ _ _ _ h)).trans (Below.heap_setCell _ _ _ _ h)).trans (Below.heap_setCell _ _ _ _ h)).trans (Below.heap_setCell _ _ _ _ h)).trans (Below.heap_setCell _ _ _ _ h)
theorem put6z_below {B : Nat} {X : World} {g : Nat} {x0 x1 x2 x3 x4 x5 : Value} (h : B ≤ g) : Below B X (put6z X g x0 x1 x2 x3 x4 x5) :=
  (((((((Below.refl B X).setCell (p := ⟨g, 0, none⟩) h x0).setCell (p := ⟨g, 1, none⟩) h x1).setCell (p := ⟨g, 2, none⟩) h x2).setCell (p := ⟨g, 3, none⟩) h x3).setCell (p := ⟨g, 4, none⟩) h x4).setCell (p := ⟨g, 5, none⟩) h x5)
set_option maxHeartbeats 1000000 in
theorem expr_text (l : List UInt8) (hl : l.length ≤ 9223372036854775807) (w : World) (hL : Lays w) : Calls Tryz.prog 14 #[.string (txt.strOf l)] w (TreeTo w (lineOf unN l).2.1 (lineOf unN l).2.2) := by
  obtain ⟨W, hW⟩ : ∃ W, W = w.alloc (.cells #[.int .i64 0, .int .i64 0, .int .i64 0, .string ⟨#[]⟩, .slice none 0 0, .slice none 0 0] 25) := ⟨_, rfl⟩
  obtain ⟨hbW, hsW, kW⟩ := one_box6 hW
  have P := Lib.hid (read_any fn_unassigned l hl W (hL.below hbW))
  have HW := Lib.hid hW
  have HB := Lib.hid hbW
  have HZ := Lib.hid hsW
  have HK := Lib.hid kW
  have HF : Hid (∀ V, Below W.heap.size W V → ∀ j, V.frozen? ⟨w.heap.size, j, none⟩ = false) := Lib.hid fun V h j => (h.frozen (p := ⟨w.heap.size, j, none⟩) (show w.heap.size < W.heap.size by omega)).trans (by rw [hW]; simp)
  obtain ⟨r, hr⟩ : ∃ r, r = lineOf unN l := ⟨_, rfl⟩
  rw [← hr] at P ⊢
  obtain ⟨nm, T, E⟩ := r
  clear hW hbW hsW kW hL hl hr
  go_enter Tryz.func14, Tryz.ntmps14
  go_upto_region 1 with fail
  rw [← HW.out]
  go_wp2_with fail
  refine P.out.mono ?_
  rintro e w1 ⟨u, rfl, hu, hb⟩
  obtain ⟨k0, f0, a0, s0, A0, n0, q0, B0, m0, d0, rfl, -⟩ := RdQ_six hu
  obtain ⟨V, hV⟩ : ∃ V, V = w1.alloc (.cells #[.string (txt.strOf nm), .int .i64 k0, .int .i64 f0, .int .i64 a0, .string s0, .slice A0 n0 q0, .slice B0 m0 d0] 32) := ⟨_, rfl⟩
  obtain ⟨hS7, hb3, hs3⟩ := seven_new hV
  have hbV : Below W.heap.size W V := hb.trans (hb3.mono hb.size)
  obtain ⟨t0, t1, t2, t3, t4, t5⟩ := HK.out V hbV
  have sf0 := HF.out V hbV 0; have sf1 := HF.out V hbV 1; have sf2 := HF.out V hbV 2; have sf3 := HF.out V hbV 3; have sf4 := HF.out V hbV 4; have sf5 := HF.out V hbV 5
  obtain ⟨y0, y1, y2, y3, y4, y5, y6, -⟩ := hS7
  have HU := Lib.hid (hu.below hb3)
  have HBV := Lib.hid hbV
  have HV := Lib.hid hV
  have ne : w.heap.size ≠ w1.heap.size := by have := HZ.out; have := hb.size; omega
  clear hu hb hbV hb3 hs3 hV
  go_upto_region 2 with fail
  rw [← HV.out]
  go_wp2_with fail
  refine bodyPost_ret (v := .tuple #[.agg #[.int .i64 k0, .int .i64 f0, .int .i64 a0, .string s0, .slice A0 n0 q0, .slice B0 m0 d0], .int .i64 E]) (by simp [results, Tryz.results14, go_sem, t0, t1, t2, t3, t4, t5]) rfl ?_
  refine ⟨⟨.int .i64 k0, .int .i64 f0, .int .i64 a0, .string s0, .slice A0 n0 q0, .slice B0 m0 d0⟩, rfl, HU.out.keep ?_ (fun ad hq _ => World.cell?_of_block (put6z_block ?_)) (fun k hk => ?_), (HB.out.trans (HBV.out.mono HB.out.size)).trans (put6z_below (Nat.le_refl _))⟩
  · exact (put6z_below (B := 0) (Nat.zero_le _)).size
  · have : W.heap.size ≤ ad.block := hq
    have := HZ.out; omega
  · have : W.heap.size ≤ k := hk
    have := HZ.out
    show w.heap.size ≤ k
    omega
end Go.Proofs.YthgojbaindejjaaGreatDoor.ps
