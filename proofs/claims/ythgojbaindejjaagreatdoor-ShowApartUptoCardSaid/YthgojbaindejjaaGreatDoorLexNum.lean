/- Package lex: the text of a number; the number that a text begins with; its glyph. -/
import Derived.Test.YthgojbaindejjaaGreatDoorLexLead
import Derived.Lib.AppendIntMem
import Derived.Lib.ParseIntBTie
import Derived.Lib.AtoiErrMem
namespace Go.Proofs.YthgojbaindejjaaGreatDoor.lx
open Go.ChangeShapes Go.WideShapes Go.ChangeAt Go.RowKit Go.Proofs.YthgojbaindejjaaGreatDoor.mem Go.Proofs.YthgojbaindejjaaGreatDoor.txt
set_option linter.unusedVariables false

/-- The library's variables that the laws reach are as the program lays them: the table of powers of ten, and two errors. -/
def Lays (w : World) : Prop := Lib.TabIs Tryz.prog w "internal/strconv.uint64pow10" .u64 Lib.pow10Tab ∧ (∃ t p, w.cell? ⟨5, 0, none⟩ = some (.iface t p)) ∧ ∃ t p, w.cell? ⟨6, 0, none⟩ = some (.iface t p)
theorem Lays.below {w w' : World} (h : Lays w) (hb : Below w.heap.size w w') : Lays w' := by
  obtain ⟨h1, ⟨t, p, h2⟩, ⟨t', p', h3⟩⟩ := h
  refine ⟨?_, ⟨t, p, (hb.cell (p := ⟨_, 0, none⟩) (Lib.lt_of_cell h2)).trans h2⟩, ⟨t', p', (hb.cell (p := ⟨_, 0, none⟩) (Lib.lt_of_cell h3)).trans h3⟩⟩
  unfold Lib.TabIs World.var? at h1 ⊢
  cases hg : Tryz.prog.globalNamed "internal/strconv.uint64pow10" with
  | none => rw [hg] at h1; cases h1
  | some g =>
    rw [hg] at h1
    simp only [Option.bind_some] at h1 ⊢
    have hlt : g < w.heap.size := by
      rcases Nat.lt_or_ge g w.heap.size with h | h
      · exact h
      · rw [Array.getElem?_eq_none h] at h1; cases h1
    rw [hb.block g hlt]
    exact h1

theorem itoa_neg_cut {n : Int} (h : n < 0) : ∃ u : Nat, Lib.itoa n = 45 :: Lib.decDigits u ∧ decL n = [194, 175] ++ Lib.decDigits u ∧ u = n.natAbs :=
  ⟨n.natAbs, by unfold Lib.itoa; rw [if_pos h], by unfold decL; rw [if_pos h]; rfl, rfl⟩
theorem cut_one (l : List UInt8) (c : UInt8) : (strOf (c :: l)).extract 1 (strOf (c :: l)).size = strOf l ∧ (1 : Int) ≤ (strOf (c :: l)).size := by
  refine ⟨by rw [piece_str, bl_str, strOf_size]; simp, by rw [strOf_size]; simp only [List.length_cons]; omega⟩
theorem decimal7_any (n : Int) (h1 : -9223372036854775808 ≤ n) (h2 : n ≤ 9223372036854775807) (w : World) (hl : Lays w) : Calls Tryz.prog 77 #[.int .i64 n] w (Str w (decL n)) := by
  have F : Hid (Calls Tryz.prog 85 #[.int .i64 n, .int .i64 10] w (Str w (Lib.itoa n))) := Lib.hid
    ((Tryz.strconv_FormatInt_10 n h1 h2 w hl.1).mono fun e w' ⟨he, k, os, hw⟩ => ⟨he, by rw [hw]; exact Lib.below_grow _ w (Nat.le_refl _) k os⟩)
  have hln := Lib.itoa_length_le n h1 h2
  clear hl
  by_cases h0 : n < 0
  · obtain ⟨u, e1, e2, e3⟩ := itoa_neg_cut h0
    rw [e1] at F hln
    rw [e2]
    simp only [List.length_cons] at hln
    have hc : ∀ W, (Op.stringOp .add ⟨#[194, 175]⟩ (strOf (Lib.decDigits u))).run Tryz.prog W = .ok (.string (txt.strOf (([194, 175] : List UInt8) ++ Lib.decDigits u))) W := cat_run [194, 175] (Lib.decDigits u) (by simp only [List.length_cons, List.length_nil]; omega)
    have ⟨hs1, hs2⟩ := cut_one (Lib.decDigits u) 45
    clear e1 e2 e3
    go_enter Tryz.func77, Tryz.ntmps77
    go_wp2_with fail
    refine F.out.mono ?_
    rintro e w1 ⟨rfl, hb⟩
    have HB := Lib.hid hb; clear hb
    go_wp2_with fail
    go_ret
    exact ⟨rfl, HB.out⟩
  · have e : decL n = Lib.itoa n := by unfold decL Lib.itoa; rw [if_neg h0, if_neg h0]
    rw [e]
    clear e hln
    go_enter Tryz.func77, Tryz.ntmps77
    go_wp2_with fail
    refine F.out.mono ?_
    rintro e w1 ⟨rfl, hb⟩
    have HB := Lib.hid hb; clear hb
    go_wp2_with fail
    go_ret
    exact ⟨rfl, HB.out⟩

def numR (l : List UInt8) : List UInt8 × Int :=
  match numB (digL l) (negB l) with
  | some n => (preL l ++ digL l, n)
  | none => ([], 0)
theorem str_differ (a b : List UInt8) : ((strOf a).toList != (strOf b).toList) = !(a == b) := by
  have := str_same a b
  unfold bne
  rw [this]
theorem cut_any (l : List UInt8) (w : World) : Calls Tryz.prog 93 #[.string (strOf l), .string ⟨#[194, 175]⟩] w fun e w' => e = .returned (.tuple #[.string (strOf (l.drop (preL l).length)), .bool (negB l)]) ∧ w = w' := by
  refine (Tryz.strings_CutPrefix (strOf l) ⟨#[194, 175]⟩ w).mono fun e w' ⟨he, hw⟩ => ⟨?_, hw.symm⟩
  rw [he]
  have e1 : Lib.hasPrefix (strOf l).data.toList (⟨#[194, 175]⟩ : ByteArray).data.toList = negB l := by
    show List.isPrefixOf _ (bl (strOf l)) = _
    rw [bl_str]; rfl
  have e2 : Lib.trimPrefix (strOf l).data.toList (⟨#[194, 175]⟩ : ByteArray).data.toList = l.drop (preL l).length := by
    unfold Lib.trimPrefix
    rw [e1]
    show (if negB l = true then (bl (strOf l)).drop 2 else bl (strOf l)) = _
    rw [bl_str]
    unfold preL
    cases negB l <;> rfl
  rw [e1, e2]; rfl

/-- What strconv.ParseInt answers: the number, or an error. -/
theorem parse_ok (l : List UInt8) (hl : l.length ≤ 70000) (v : Int) (h : Lib.parseIntB 64 l = .ok v) (w : World) :
    Calls Tryz.prog 94 #[.string (strOf l), .int .i64 10, .int .i64 64] w fun e w' => e = .returned (.tuple #[.int .i64 v, .nilIface]) ∧ Below w.heap.size w w' := by
  refine (Tryz.strconv_ParseInt_10_at64_ok (strOf l) (by rw [strOf_size]; omega) v (by have := bl_str l; unfold bl at this; rw [this]; exact h) w).mono fun e w' ⟨he, hw⟩ => ⟨he, ?_⟩
  rcases hw with rfl | ⟨t, rfl⟩
  · exact Below.refl _ _
  · exact Lib.bytesWorld_below _ _ _
theorem parse_err (l : List UInt8) (hl : l.length ≤ 70000) (h : ∀ v, Lib.parseIntB 64 l ≠ .ok v) (w : World) (hL : Lays w) :
    Calls Tryz.prog 94 #[.string (strOf l), .int .i64 10, .int .i64 64] w fun e w' => ∃ v t a, e = .returned (.tuple #[.int .i64 v, .iface t (.pointer (some a))]) ∧ Below w.heap.size w w' := by
  have hb := bl_str l
  unfold bl at hb
  cases hp : Lib.parseIntB 64 l with
  | ok v => exact absurd hp (h v)
  | range =>
    obtain ⟨_, _, ⟨t, p, h2⟩⟩ := hL
    exact (Tryz.strconv_ParseInt_10_at64_range (strOf l) (by rw [strOf_size]; omega) (by rw [hb]; exact hp) _ w h2 (.inr ⟨t, p, rfl⟩)).mono fun e w' ⟨N, he, _, _, hB⟩ => ⟨_, _, _, he, hB⟩
  | _ =>
    obtain ⟨_, ⟨t, p, h2⟩, _⟩ := hL
    exact (Any.strconv_ParseInt_10_at64_syntax Tryz.laysC174 (strOf l) (by rw [strOf_size]; omega) (by rw [hb]; exact hp) _ w h2 (.inr ⟨t, p, rfl⟩)).mono fun e w' ⟨N, he, _, _, hB⟩ => ⟨_, _, _, he, hB⟩
set_option maxHeartbeats 1000000 in
theorem number_any (l : List UInt8) (hl : l.length ≤ 65536) (w : World) (hL : Lays w) : Calls Tryz.prog 80 #[.string (strOf l)] w (StrN w (numR l).1 (numR l).2) := by
  have C := Lib.hid (cut_any l w)
  have hpre := pre_len l
  have hpl : (preL l).length ≤ 2 := by unfold preL; cases negB l <;> simp [hiM]
  have L := Lib.hid (leadWp_any (strOf (l.drop (preL l).length)) w (by rw [strOf_size, List.length_drop]; omega))
  rw [bl_str] at L
  have hd : (digL l).length ≤ l.length := Nat.le_trans (tw_len wpB _) (by rw [List.length_drop]; omega)
  have hw : (digL l).all wpB = true := tw_all wpB _
  have hr : numR l = match numB (digL l) (negB l) with | some n => (preL l ++ digL l, n) | none => ([], 0) := rfl
  have hpr : preL l = if negB l then hiM else [] := rfl
  obtain ⟨R, hR⟩ : ∃ R, R = numR l := ⟨_, rfl⟩
  rw [← hR] at hr ⊢
  have hdd : (l.drop (preL l).length).takeWhile wpB = digL l := rfl
  rw [hdd] at L
  obtain ⟨U, hU⟩ : ∃ U, U = l.drop (preL l).length := ⟨_, rfl⟩
  rw [← hU] at C L
  obtain ⟨d, hd'⟩ : ∃ d, d = digL l := ⟨_, rfl⟩
  rw [← hd'] at L hd hw hr
  obtain ⟨P, hP⟩ : ∃ P, P = preL l := ⟨_, rfl⟩
  rw [← hP] at hr hpr
  obtain ⟨neg, hn⟩ : ∃ neg, neg = negB l := ⟨_, rfl⟩
  rw [← hn] at C hr hpr
  have HL := Lib.hid hL
  clear hR hdd hU hd' hP hn hL hpre hpl
  have hd6 : d.length ≤ 65536 := by omega
  clear hd hl
  have hsl : (signed d neg).length ≤ 70000 := by unfold signed; cases neg <;> simp <;> omega
  have htx : P ++ d = (if neg then hiM else []) ++ d := by rw [hpr]
  rcases hpo : Lib.parseIntB 64 (signed d neg) with v | _ | _
  · have hvb := Lib.parseIntB_bounds hpo
    have hv1 : -9223372036854775808 ≤ v := hvb.1
    have hv2 : v ≤ 9223372036854775807 := by have := hvb.2; simp at this; omega
    have K := Lib.hid (parse_ok (signed d neg) hsl v hpo)
    have D := Lib.hid (fun W h => decimal7_any v hv1 hv2 W h)
    have e1 := str_same (decL v) (P ++ d)
    have e2 := str_differ (decL v) (P ++ d)
    have hq : Hid (R = if (decL v == P ++ d) then (P ++ d, v) else ([], 0)) := Lib.hid (by
      rw [hr]
      cases hb : (decL v == P ++ d)
      · have hne : decL v ≠ P ++ d := by simpa using hb
        cases hnb : numB d neg with
        | none => rfl
        | some n =>
          exfalso
          have h1 := parse_in hnb
          rw [hpo] at h1
          injection h1 with h1
          subst h1
          exact hne (by rw [numB_decL hnb, htx])
      · have he : decL v = P ++ d := by simpa using hb
        rw [parse_same hw hpo (by rw [he, htx])]; rfl)
    clear hr hvb hv1 hv2 hpo hw htx hsl
    obtain ⟨t, ht⟩ : ∃ t, t = decL v := ⟨_, rfl⟩
    rw [← ht] at e1 e2 hq D
    clear ht
    cases neg
    · have hP : P = [] := by rw [hpr]; rfl
      subst hP
      rw [List.nil_append] at e1 e2 hq
      have hsg : signed d false = d := rfl
      rw [hsg] at K
      clear hpr hsg
      obtain ⟨b, hb⟩ : ∃ b, b = (t == d) := ⟨_, rfl⟩
      rw [← hb] at e1 e2 hq
      clear hb
      cases b
      all_goals
        go_enter Tryz.func80, Tryz.ntmps80
        go_wp2_with fail
        refine C.out.mono ?_
        rintro e w' ⟨rfl, rfl⟩
        go_wp2_with fail
        refine L.out.mono ?_
        rintro e w1 ⟨rfl, hb⟩
        have HB := Lib.hid hb; clear hb
        go_wp2_with fail
        refine (K.out _).mono ?_
        rintro e w2 ⟨rfl, hb⟩
        have HB2 := Lib.hid (HB.out.trans (hb.mono HB.out.size)); clear hb
        go_wp2_with fail
        refine (D.out _ (HL.out.below HB2.out)).mono ?_
        rintro e w3 ⟨rfl, hb⟩
        have HB3 := Lib.hid (HB2.out.trans (hb.mono HB2.out.size)); clear hb
        go_wp2_with fail
        go_ret2
        exact ⟨by rw [hq.out]; rfl, HB3.out⟩
    · have hP : P = [194, 175] := by rw [hpr]; rfl
      subst hP
      have hsg : signed d true = 45 :: d := rfl
      rw [hsg] at K
      clear hpr hsg
      have hc1 : ∀ W, (Op.stringOp .add ⟨#[194, 175]⟩ (strOf d)).run Tryz.prog W = .ok (.string (txt.strOf (([194, 175] : List UInt8) ++ d))) W := cat_run [194, 175] d (by simp only [List.length_cons, List.length_nil]; omega)
      have hc2 : ∀ W, (Op.stringOp .add ⟨#[45]⟩ (strOf d)).run Tryz.prog W = .ok (.string (strOf (45 :: d))) W := cat_run [45] d (by simp only [List.length_cons, List.length_nil]; omega)
      obtain ⟨x, hx⟩ : ∃ x, x = ([194, 175] : List UInt8) ++ d := ⟨_, rfl⟩
      rw [← hx] at e1 e2 hq hc1
      clear hx
      obtain ⟨b, hb⟩ : ∃ b, b = (t == x) := ⟨_, rfl⟩
      rw [← hb] at e1 e2 hq
      clear hb
      cases b
      all_goals
        go_enter Tryz.func80, Tryz.ntmps80
        go_wp2_with fail
        refine C.out.mono ?_
        rintro e w' ⟨rfl, rfl⟩
        go_wp2_with fail
        refine L.out.mono ?_
        rintro e w1 ⟨rfl, hb⟩
        have HB := Lib.hid hb; clear hb
        go_wp2_with fail
        refine (K.out _).mono ?_
        rintro e w2 ⟨rfl, hb⟩
        have HB2 := Lib.hid (HB.out.trans (hb.mono HB.out.size)); clear hb
        go_wp2_with fail
        refine (D.out _ (HL.out.below HB2.out)).mono ?_
        rintro e w3 ⟨rfl, hb⟩
        have HB3 := Lib.hid (HB2.out.trans (hb.mono HB2.out.size)); clear hb
        go_wp2_with fail
        go_ret2
        exact ⟨by rw [hq.out]; rfl, HB3.out⟩
  all_goals
    have hno : ∀ v, Lib.parseIntB 64 (signed d neg) ≠ .ok v := fun v h => by rw [hpo] at h; cases h
    have K := Lib.hid (parse_err (signed d neg) hsl hno)
    have hq : Hid (R = ([], 0)) := Lib.hid (by
      rw [hr]
      cases hnb : numB d neg with
      | none => rfl
      | some n => exact absurd (parse_in hnb) (hno n))
    clear hr hpo hw htx hsl hno
    cases neg
    · have hsg : signed d false = d := rfl
      rw [hsg] at K
      clear hpr hsg
      go_enter Tryz.func80, Tryz.ntmps80
      go_wp2_with fail
      refine C.out.mono ?_
      rintro e w' ⟨rfl, rfl⟩
      go_wp2_with fail
      refine L.out.mono ?_
      rintro e w1 ⟨rfl, hb⟩
      have HB := Lib.hid hb; clear hb
      go_wp2_with fail
      refine (K.out _ (HL.out.below HB.out)).mono ?_
      rintro e w2 ⟨v, t, a, rfl, hb⟩
      have HB2 := Lib.hid (HB.out.trans (hb.mono HB.out.size)); clear hb
      go_wp2_with fail
      go_ret2
      exact ⟨by rw [hq.out]; rfl, HB2.out⟩
    · have hsg : signed d true = 45 :: d := rfl
      rw [hsg] at K
      clear hpr hsg
      have hc1 : ∀ W, (Op.stringOp .add ⟨#[194, 175]⟩ (strOf d)).run Tryz.prog W = .ok (.string (txt.strOf (([194, 175] : List UInt8) ++ d))) W := cat_run [194, 175] d (by simp only [List.length_cons, List.length_nil]; omega)
      have hc2 : ∀ W, (Op.stringOp .add ⟨#[45]⟩ (strOf d)).run Tryz.prog W = .ok (.string (strOf (45 :: d))) W := cat_run [45] d (by simp only [List.length_cons, List.length_nil]; omega)
      go_enter Tryz.func80, Tryz.ntmps80
      go_wp2_with fail
      refine C.out.mono ?_
      rintro e w' ⟨rfl, rfl⟩
      go_wp2_with fail
      refine L.out.mono ?_
      rintro e w1 ⟨rfl, hb⟩
      have HB := Lib.hid hb; clear hb
      go_wp2_with fail
      refine (K.out _ (HL.out.below HB.out)).mono ?_
      rintro e w2 ⟨v, t, a, rfl, hb⟩
      have HB2 := Lib.hid (HB.out.trans (hb.mono HB.out.size)); clear hb
      go_wp2_with fail
      go_ret2
      exact ⟨by rw [hq.out]; rfl, HB2.out⟩
end Go.Proofs.YthgojbaindejjaaGreatDoor.lx
