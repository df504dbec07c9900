/- The walk of LexPairs. -/
import Derived.Test.YtklmchhojopfiaaDoorLexAwake
import Derived.Test.YtklmchhojopfiaaDoorLexLaid
import Derived.Test.YtklmchhojopfiaaDoorLexLawMath
namespace Go.Proofs.YtklmchhojopfiaaDoor.lx
open Go.ChangeShapes Go.WideShapes Go.ChangeAt Go.RowKit Go.Proofs.YtklmchhojopfiaaDoor.mem Go.Proofs.YtklmchhojopfiaaDoor.txt
set_option linter.unusedVariables false

set_option maxHeartbeats 4000000 in
set_option maxRecDepth 100000 in
theorem pairs_out (a b : List UInt8) (w : World) (hl : Lays w) (h : 3000 < a.length ∨ (a.length ≤ 3000 ∧ 3000 < b.length)) : Calls Tryd.prog 5 #[.string (strOf a), .string (strOf b)] w (Holds w) := by
  have AW := Lib.hid (fun W h => awake_true W h)
  have HL := Lib.hid hl
  have hz := strOf_size a
  have hz2 := strOf_size b
  clear hl
  rcases h with h | ⟨h, h'⟩
  · have g1 : (3000 : Int) < a.length := by omega
    clear h
    go_enter Tryd.func5, Tryd.ntmps5
    go_wp2_with fail
    refine (AW.out _ HL.out).mono ?_
    rintro e w1 ⟨rfl, hb⟩
    have T1 := Lib.hid ((Aft.refl w).call hb); clear hb
    go_wp2_with fail
    refine (AW.out _ (HL.out.below T1.out)).mono ?_
    rintro e w2 ⟨rfl, hb⟩
    have T2 := Lib.hid (T1.out.call hb); clear hb
    go_wp2_with fail
    go_ret
    exact ⟨rfl, T2.out⟩
  · have g1 : ¬ (3000 : Int) < a.length := by omega
    have g2 : (3000 : Int) < b.length := by omega
    clear h h'
    go_enter Tryd.func5, Tryd.ntmps5
    go_wp2_with fail
    refine (AW.out _ HL.out).mono ?_
    rintro e w1 ⟨rfl, hb⟩
    have T1 := Lib.hid ((Aft.refl w).call hb); clear hb
    go_wp2_with fail
    refine (AW.out _ (HL.out.below T1.out)).mono ?_
    rintro e w2 ⟨rfl, hb⟩
    have T2 := Lib.hid (T1.out.call hb); clear hb
    go_wp2_with fail
    go_ret
    exact ⟨rfl, T2.out⟩
set_option maxHeartbeats 4000000 in
set_option maxRecDepth 100000 in
theorem pairs_in (a b : List UInt8) (w : World) (hl : Lays w) (ha : a.length ≤ 3000) (hb : b.length ≤ 3000) : Calls Tryd.prog 5 #[.string (strOf a), .string (strOf b)] w (Holds w) := by
  have AW := Lib.hid (fun W h => awake_true W h)
  have HL := Lib.hid hl
  have hz := strOf_size a
  have hz2 := strOf_size b
  have g1 : ¬ (3000 : Int) < a.length := by omega
  have g2 : ¬ (3000 : Int) < b.length := by omega
  have KA := Lib.hid (fun W h => tokens_any a (by omega) W h)
  have KB := Lib.hid (fun W h => tokens_any b (by omega) W h)
  have KC := Lib.hid (fun W h => tokens_any (a ++ [13] ++ b) (by simp only [List.length_append, List.length_cons, List.length_nil]; omega) W h)
  have htp := tok_pair a b
  have hlen : (a ++ [13] ++ b).length ≤ 65536 := by simp only [List.length_append, List.length_cons, List.length_nil]; omega
  have c1 : ∀ W, (Op.stringOp .add (strOf a) ⟨#[13]⟩).run Tryd.prog W = .ok (.string (txt.strOf (a ++ ([13] : List UInt8)))) W := cat_run a [13] (by simp only [List.length_cons, List.length_nil]; omega)
  have c2 : ∀ W, (Op.stringOp .add (txt.strOf (a ++ ([13] : List UInt8))) (strOf b)).run Tryd.prog W = .ok (.string (txt.strOf (a ++ ([13] : List UInt8) ++ b))) W := cat_run (a ++ [13]) b (by simp only [List.length_append, List.length_cons, List.length_nil]; omega)
  have AM : Hid (∀ {L : List Tk}, tok a = some L → L.length ≤ 3000) := Lib.hid (fun h => by have := (tok_len a.length a _ (Nat.le_refl _) h).1; omega)
  have BM : Hid (∀ {L : List Tk}, tok b = some L → L.length ≤ 3000) := Lib.hid (fun h => by have := (tok_len b.length b _ (Nat.le_refl _) h).1; omega)
  cases hA : tok a with
  | none =>
    obtain ⟨u1, u2⟩ := toks_not hA (by omega)
    obtain ⟨v1, v2⟩ := toks_not (by rw [htp, hA]; rfl : tok (a ++ [13] ++ b) = none) hlen
    rw [u1, u2] at KA
    rw [v1, v2] at KC
    obtain ⟨L2, hL2⟩ : ∃ L, L = tokL b := ⟨_, rfl⟩
    obtain ⟨e2, he2⟩ : ∃ L, L = okI b := ⟨_, rfl⟩
    rw [← hL2, ← he2] at KB
    obtain ⟨x, hx⟩ : ∃ x, x = a ++ ([13] : List UInt8) := ⟨_, rfl⟩
    rw [← hx] at c1 c2 KC
    obtain ⟨y, hy⟩ : ∃ y, y = x ++ b := ⟨_, rfl⟩
    rw [← hy] at c2 KC
    clear u1 u2 v1 v2 hL2 he2 hx hy htp hlen hA ha hb hl
    go_enter Tryd.func5, Tryd.ntmps5
    go_wp2_with fail
    refine (AW.out _ HL.out).mono ?_
    rintro e w1 ⟨rfl, hb⟩
    have T1 := Lib.hid ((Aft.refl w).call hb); clear hb
    go_wp2_with fail
    refine (KA.out _ (HL.out.below T1.out)).mono ?_
    rintro e w2 ⟨A1, d1, rfl, ho, hb⟩
    have R1 := Lib.hid ho.rd
    have T1 := Lib.hid (T1.out.call hb); clear hb ho
    go_wp2_with fail
    refine (KB.out _ (HL.out.below T1.out)).mono ?_
    rintro e w3 ⟨A2, d2, rfl, ho, hb⟩
    have R1 := Lib.hid (R1.out.below hb)
    have R2 := Lib.hid ho.rd
    have T1 := Lib.hid (T1.out.call hb); clear hb ho
    go_wp2_with fail
    refine (KC.out _ (HL.out.below T1.out)).mono ?_
    rintro e w4 ⟨A3, d3, rfl, ho, hb⟩
    have R1 := Lib.hid (R1.out.below hb)
    have R2 := Lib.hid (R2.out.below hb)
    have R3 := Lib.hid ho.rd
    have T1 := Lib.hid (T1.out.call hb); clear hb ho
    go_wp2_with fail
    go_ret
    exact ⟨rfl, T1.out⟩
  | some LA =>
    obtain ⟨u1, u2⟩ := toks_of hA (by omega)
    rw [u1, u2] at KA
    cases hB : tok b with
    | none =>
      obtain ⟨p1, p2⟩ := toks_not hB (by omega)
      obtain ⟨v1, v2⟩ := toks_not (by rw [htp, hA, hB]; rfl : tok (a ++ [13] ++ b) = none) hlen
      rw [p1, p2] at KB
      rw [v1, v2] at KC
      obtain ⟨x, hx⟩ : ∃ x, x = a ++ ([13] : List UInt8) := ⟨_, rfl⟩
      rw [← hx] at c1 c2 KC
      obtain ⟨y, hy⟩ : ∃ y, y = x ++ b := ⟨_, rfl⟩
      rw [← hy] at c2 KC
      clear u1 u2 v1 v2 p1 p2 hx hy htp hlen hA hB ha hb hl
      go_enter Tryd.func5, Tryd.ntmps5
      go_wp2_with fail
      refine (AW.out _ HL.out).mono ?_
      rintro e w1 ⟨rfl, hb⟩
      have T1 := Lib.hid ((Aft.refl w).call hb); clear hb
      go_wp2_with fail
      refine (KA.out _ (HL.out.below T1.out)).mono ?_
      rintro e w2 ⟨A1, d1, rfl, ho, hb⟩
      have R1 := Lib.hid ho.rd
      have T1 := Lib.hid (T1.out.call hb); clear hb ho
      go_wp2_with fail
      refine (KB.out _ (HL.out.below T1.out)).mono ?_
      rintro e w3 ⟨A2, d2, rfl, ho, hb⟩
      have R1 := Lib.hid (R1.out.below hb)
      have R2 := Lib.hid ho.rd
      have T1 := Lib.hid (T1.out.call hb); clear hb ho
      go_wp2_with fail
      refine (KC.out _ (HL.out.below T1.out)).mono ?_
      rintro e w4 ⟨A3, d3, rfl, ho, hb⟩
      have R1 := Lib.hid (R1.out.below hb)
      have R2 := Lib.hid (R2.out.below hb)
      have R3 := Lib.hid ho.rd
      have T1 := Lib.hid (T1.out.call hb); clear hb ho
      go_wp2_with fail
      go_ret
      exact ⟨rfl, T1.out⟩
    | some LB =>
      obtain ⟨p1, p2⟩ := toks_of hB (by omega)
      obtain ⟨v1, v2⟩ := toks_of (by rw [htp, hA, hB]; rfl : tok (a ++ [13] ++ b) = some (LA ++ LB)) hlen
      have nA := AM.out hA
      have nB := BM.out hB
      rw [p1, p2] at KB
      rw [v1, v2] at KC
      have BA := Lib.hid (fun A c W h => back_any A LA.length c LA W (by omega) h)
      have BB := Lib.hid (fun A c W h => back_any A LB.length c LB W (by omega) h)
      have BC := Lib.hid (fun A c W h => back_any A (LA ++ LB).length c (LA ++ LB) W (by rw [List.length_append]; omega) h)
      have SS := Lib.hid (fun A B c d W h h' => same_any A B (LA ++ LB).length c d (LA ++ LB) W (by rw [List.length_append]; omega) h h')
      have hapl : (LA ++ LB).length = LA.length + LB.length := List.length_append
      have HAP := Lib.hid hapl
      obtain ⟨x, hx⟩ : ∃ x, x = a ++ ([13] : List UInt8) := ⟨_, rfl⟩
      rw [← hx] at c1 c2 KC
      obtain ⟨y, hy⟩ : ∃ y, y = x ++ b := ⟨_, rfl⟩
      rw [← hy] at c2 KC
      obtain ⟨nL, hnL⟩ : ∃ n, n = (LA ++ LB).length := ⟨_, rfl⟩
      rw [← hnL] at BC SS HAP
      have HNL := Lib.hid hnL
      clear u1 u2 v1 v2 p1 p2 hx hy htp hlen hA hB ha hb hl hapl hnL
      go_enter Tryd.func5, Tryd.ntmps5
      go_wp2_with fail
      refine (AW.out _ HL.out).mono ?_
      rintro e w1 ⟨rfl, hb⟩
      have T1 := Lib.hid ((Aft.refl w).call hb); clear hb
      go_wp2_with fail
      refine (KA.out _ (HL.out.below T1.out)).mono ?_
      rintro e w2 ⟨A1, d1, rfl, ho, hb⟩
      have R1 := Lib.hid ho.rd
      have T1 := Lib.hid (T1.out.call hb); clear hb ho
      go_wp2_with fail
      refine (KB.out _ (HL.out.below T1.out)).mono ?_
      rintro e w3 ⟨A2, d2, rfl, ho, hb⟩
      have R1 := Lib.hid (R1.out.below hb)
      have R2 := Lib.hid ho.rd
      have T1 := Lib.hid (T1.out.call hb); clear hb ho
      go_wp2_with fail
      refine (KC.out _ (HL.out.below T1.out)).mono ?_
      rintro e w4 ⟨A3, d3, rfl, ho, hb⟩
      have R1 := Lib.hid (R1.out.below hb)
      have R2 := Lib.hid (R2.out.below hb)
      have R3 := Lib.hid ho.rd
      have T1 := Lib.hid (T1.out.call hb); clear hb ho
      rw [← HNL.out]
      go_wp2_with fail
      refine (BA.out A1 d1 _ (R1.out)).mono ?_
      rintro e w6 ⟨A4, d4, rfl, ho, hb⟩
      have O4 := Lib.hid ho
      have F6 := Lib.hid hb
      have R2 := Lib.hid (R2.out.below hb)
      clear hb ho
      go_wp2_with fail
      refine (BB.out A2 d2 _ (R2.out)).mono ?_
      rintro e w7 ⟨A5, d5, rfl, ho, hb⟩
      have O4 := Lib.hid (O4.out.below hb)
      have R5 := Lib.hid ho.rd
      have Z5 := Lib.hid (ownK_nilcap ho)
      have F6 := Lib.hid (F6.out.trans (hb.mono F6.out.size))
      clear hb ho
      go_wp2_with (at_builtin; go_loud (refine wpList_appendK_w Tryd.underlying27 refToken_info (by rfl) (.tmp 59) (.tmp 61) (by rfl) w4.heap.size _ LA (by rfl) O4.out A5 LB.length d5 LB (by rfl) R5.out Z5.out (by omega) F6.out.size ?_; intro v8 w8 ho8 hg8 _; have F8 := Lib.hid (OwnK.below_grown F6.out O4.out hg8 F6.out.size); obtain ⟨A8, d8, rfl, _⟩ := ho8.form; rw [← HNL.out] at ho8 ⊢; have R8 := Lib.hid ho8.rd; clear ho8 hg8))
      have R3 := Lib.hid (R3.out.below F8.out)
      rw [← HNL.out] at R3
      have T1 := Lib.hid (T1.out.call F8.out)
      refine (BC.out A3 d3 _ R3.out).mono ?_
      rintro e w9 ⟨A9, d9, rfl, ho, hb⟩
      rw [← HNL.out] at ho ⊢
      have R9 := Lib.hid ho.rd
      have R8 := Lib.hid (R8.out.below hb)
      have T1 := Lib.hid (T1.out.call hb); clear hb ho
      go_wp2_with fail
      refine (SS.out A8 A9 d8 d9 _ R8.out R9.out).mono ?_
      rintro e w10 ⟨rfl, q, rfl⟩
      have T1 := Lib.hid (T1.out.drew q)
      go_wp2_with fail
      go_ret
      exact ⟨rfl, T1.out⟩
theorem walk_LexPairs (s t : ByteArray) (w : World) (hl : Lays w) : Calls Tryd.prog 5 #[.string s, .string t] w (Holds w) := by
  rw [← str_bl s, ← str_bl t]
  by_cases h1 : (bl s).length ≤ 3000
  · by_cases h2 : (bl t).length ≤ 3000
    · exact pairs_in _ _ w hl h1 h2
    · exact pairs_out _ _ w hl (.inr ⟨h1, by omega⟩)
  · exact pairs_out _ _ w hl (.inl (by omega))
end Go.Proofs.YtklmchhojopfiaaDoor.lx
