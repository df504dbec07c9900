/- The walk of LexAppends. -/
import Derived.Test.YtklmchhojopfiaaDoorLawTokens
namespace Go.Proofs.YtklmchhojopfiaaDoor.lx
open Go.ChangeShapes Go.WideShapes Go.ChangeAt Go.RowKit Go.Proofs.YtklmchhojopfiaaDoor.mem Go.Proofs.YtklmchhojopfiaaDoor.txt
set_option linter.unusedVariables false

set_option maxHeartbeats 4000000 in
set_option maxRecDepth 100000 in
theorem appends_out (s : List UInt8) (t : List UInt8) (w : World) (hl : Lays w) (hm : s.length ≤ 9223372036854775807)
    (h : 3000 < s.length ∨ (s.length ≤ 3000 ∧ 100 < t.length) ∨ (s.length ≤ 3000 ∧ t.length ≤ 100 ∧ okB s = false) ∨ (s.length ≤ 3000 ∧ t.length ≤ 100 ∧ okB s = true ∧ nameB t = false)) : Calls Tryd.prog 6 #[.string (strOf s), .string (strOf t)] w (Holds w) := by
  have AW := Lib.hid (fun W h => awake_true W h)
  have HL := Lib.hid hl
  have hz := strOf_size s
  have hz2 := strOf_size t
  have KR := Lib.hid (fun W => refTokens_any (strOf s) (by rw [hz]; exact hm) W)
  rw [bl_str] at KR
  obtain ⟨L, hL⟩ : ∃ L, L = tokL s := ⟨_, rfl⟩
  rw [← hL] at KR
  obtain ⟨ok, hok⟩ : ∃ ok, ok = okB s := ⟨_, rfl⟩
  rw [← hok] at KR h
  clear hL hok hl hm
  rcases h with h | ⟨h, h'⟩ | ⟨h, h', h''⟩ | ⟨h, h', h'', h3⟩
  · have g1 : (3000 : Int) < s.length := by omega
    clear h
    go_enter Tryd.func6, Tryd.ntmps6
    go_wp2_with fail
    refine (KR.out _).mono ?_
    rintro e w1 ⟨AL, dL, rfl, ho, hb⟩
    have RL := Lib.hid ho.rd
    have ZL := Lib.hid (ownK_nilcap ho)
    have T1 := Lib.hid ((Aft.refl w).call hb); clear hb ho
    go_wp2_with fail
    refine (AW.out _ (HL.out.below T1.out)).mono ?_
    rintro e w2 ⟨rfl, hb⟩
    have RL := Lib.hid (RL.out.below hb)
    have T1 := Lib.hid (T1.out.call hb); clear hb
    go_wp2_with fail
    refine (AW.out _ (HL.out.below T1.out)).mono ?_
    rintro e w3 ⟨rfl, hb⟩
    have T1 := Lib.hid (T1.out.call hb); clear hb
    go_wp2_with fail
    go_ret
    exact ⟨rfl, T1.out⟩
  · have g1 : ¬ (3000 : Int) < s.length := by omega
    have g2 : (100 : Int) < t.length := by omega
    clear h h'
    go_enter Tryd.func6, Tryd.ntmps6
    go_wp2_with fail
    refine (KR.out _).mono ?_
    rintro e w1 ⟨AL, dL, rfl, ho, hb⟩
    have RL := Lib.hid ho.rd
    have ZL := Lib.hid (ownK_nilcap ho)
    have T1 := Lib.hid ((Aft.refl w).call hb); clear hb ho
    go_wp2_with fail
    refine (AW.out _ (HL.out.below T1.out)).mono ?_
    rintro e w2 ⟨rfl, hb⟩
    have RL := Lib.hid (RL.out.below hb)
    have T1 := Lib.hid (T1.out.call hb); clear hb
    go_wp2_with fail
    refine (AW.out _ (HL.out.below T1.out)).mono ?_
    rintro e w3 ⟨rfl, hb⟩
    have T1 := Lib.hid (T1.out.call hb); clear hb
    go_wp2_with fail
    go_ret
    exact ⟨rfl, T1.out⟩
  · have g1 : ¬ (3000 : Int) < s.length := by omega
    have g2 : ¬ (100 : Int) < t.length := by omega
    subst h''
    clear h h'
    go_enter Tryd.func6, Tryd.ntmps6
    go_wp2_with fail
    refine (KR.out _).mono ?_
    rintro e w1 ⟨AL, dL, rfl, ho, hb⟩
    have RL := Lib.hid ho.rd
    have ZL := Lib.hid (ownK_nilcap ho)
    have T1 := Lib.hid ((Aft.refl w).call hb); clear hb ho
    go_wp2_with fail
    refine (AW.out _ (HL.out.below T1.out)).mono ?_
    rintro e w2 ⟨rfl, hb⟩
    have RL := Lib.hid (RL.out.below hb)
    have T1 := Lib.hid (T1.out.call hb); clear hb
    go_wp2_with fail
    refine (AW.out _ (HL.out.below T1.out)).mono ?_
    rintro e w3 ⟨rfl, hb⟩
    have T1 := Lib.hid (T1.out.call hb); clear hb
    go_wp2_with fail
    go_ret
    exact ⟨rfl, T1.out⟩
  · have g1 : ¬ (3000 : Int) < s.length := by omega
    have g2 : ¬ (100 : Int) < t.length := by omega
    have KN := Lib.hid (fun W => refName_any (strOf t) W (by rw [hz2]; omega))
    rw [bl_str, h3] at KN
    subst h''
    clear h h' h3
    go_enter Tryd.func6, Tryd.ntmps6
    go_wp2_with fail
    refine (KR.out _).mono ?_
    rintro e w1 ⟨AL, dL, rfl, ho, hb⟩
    have RL := Lib.hid ho.rd
    have ZL := Lib.hid (ownK_nilcap ho)
    have T1 := Lib.hid ((Aft.refl w).call hb); clear hb ho
    go_wp2_with fail
    refine (AW.out _ (HL.out.below T1.out)).mono ?_
    rintro e w2 ⟨rfl, hb⟩
    have RL := Lib.hid (RL.out.below hb)
    have T1 := Lib.hid (T1.out.call hb); clear hb
    go_wp2_with fail
    refine (KN.out _).mono ?_
    rintro e w9 ⟨rfl, rfl⟩
    go_wp2_with fail
    refine (AW.out _ (HL.out.below T1.out)).mono ?_
    rintro e w3 ⟨rfl, hb⟩
    have T1 := Lib.hid (T1.out.call hb); clear hb
    go_wp2_with fail
    go_ret
    exact ⟨rfl, T1.out⟩
set_option maxHeartbeats 8000000 in
set_option maxRecDepth 100000 in
theorem appends_in (s : List UInt8) (t : List UInt8) (w : World) (hl : Lays w) (h1 : s.length ≤ 3000) (h2 : t.length ≤ 100) (L : List Tk) (hT : tok s = some L) (h4 : nameB t = true) : Calls Tryd.prog 6 #[.string (strOf s), .string (strOf t)] w (Holds w) := by
  have AW := Lib.hid (fun W h => awake_true W h)
  have HL := Lib.hid hl
  have hz := strOf_size s
  have hz2 := strOf_size t
  have KR := Lib.hid (fun W => refTokens_any (strOf s) (by rw [hz]; omega) W)
  have KN := Lib.hid (fun W => refName_any (strOf t) W (by rw [hz2]; omega))
  rw [bl_str] at KR
  rw [bl_str, h4] at KN
  have hLl : L.length ≤ 3000 := by have := (tok_len s.length s L (Nat.le_refl _) hT).1; omega
  have u1 : tokL s = L := (toks_of hT (by omega)).1
  have u2 : okB s = true := by unfold okB toks; rw [if_neg (by omega), hT]; rfl
  rw [u1, u2] at KR
  have hn2 : t ≠ [] ∧ wordL t = t := by
    unfold nameB at h4
    rw [Bool.and_eq_true] at h4
    exact ⟨by simpa using h4.1, by simpa using h4.2⟩
  have hl3 : (s ++ [44]).length ≤ 65536 := by simp only [List.length_append, List.length_cons, List.length_nil]; omega
  have hl4 : (s ++ [32] ++ t).length ≤ 65536 := by simp only [List.length_append, List.length_cons, List.length_nil]; omega
  have hl5 : (s ++ [43]).length ≤ 65536 := by simp only [List.length_append, List.length_cons, List.length_nil]; omega
  have v1 := toks_of (tok_comma hT) hl3
  have v2 := toks_of (tok_named hT hn2.1 hn2.2) hl4
  have v3 := toks_not (tok_plus hT) hl5
  have K1 := Lib.hid (fun W h => tokens_any (s ++ [44]) (by omega) W h)
  have K2 := Lib.hid (fun W h => tokens_any (s ++ [32] ++ t) (by omega) W h)
  have K3 := Lib.hid (fun W h => tokens_any (s ++ [43]) (by omega) W h)
  rw [v1.1, v1.2] at K1
  rw [v2.1, v2.2] at K2
  rw [v3.1, v3.2] at K3
  have c1 : ∀ W, (Op.stringOp .add (strOf s) ⟨#[44]⟩).run Tryd.prog W = .ok (.string (txt.strOf (s ++ ([44] : List UInt8)))) W := cat_run s [44] (by simp only [List.length_cons, List.length_nil]; omega)
  have c2 : ∀ W, (Op.stringOp .add (strOf s) ⟨#[32]⟩).run Tryd.prog W = .ok (.string (txt.strOf (s ++ ([32] : List UInt8)))) W := cat_run s [32] (by simp only [List.length_cons, List.length_nil]; omega)
  have c3 : ∀ W, (Op.stringOp .add (txt.strOf (s ++ ([32] : List UInt8))) (strOf t)).run Tryd.prog W = .ok (.string (txt.strOf (s ++ ([32] : List UInt8) ++ t))) W := cat_run (s ++ [32]) t (by simp only [List.length_append, List.length_cons, List.length_nil]; omega)
  have c4 : ∀ W, (Op.stringOp .add (strOf s) ⟨#[43]⟩).run Tryd.prog W = .ok (.string (txt.strOf (s ++ ([43] : List UInt8)))) W := cat_run s [43] (by simp only [List.length_cons, List.length_nil]; omega)
  have e1 : ∀ x : Tk, (L ++ [x]).length = L.length + 1 := fun x => by rw [List.length_append]; rfl
  have BA := Lib.hid (fun (x : Tk) A c W h => back_any A (L.length + 1) c (L ++ [x]) W (by omega) h)
  have SS := Lib.hid (fun (x : Tk) A B c d W h h' => same_any A B (L.length + 1) c d (L ++ [x]) W (by omega) h h')
  have HE := Lib.hid e1
  obtain ⟨x1, hx1⟩ : ∃ x, x = s ++ ([44] : List UInt8) := ⟨_, rfl⟩
  rw [← hx1] at c1 K1
  obtain ⟨x2, hx2⟩ : ∃ x, x = s ++ ([32] : List UInt8) := ⟨_, rfl⟩
  rw [← hx2] at c2 c3 K2
  obtain ⟨x3, hx3⟩ : ∃ x, x = x2 ++ t := ⟨_, rfl⟩
  rw [← hx3] at c3 K2
  obtain ⟨x4, hx4⟩ : ∃ x, x = s ++ ([43] : List UInt8) := ⟨_, rfl⟩
  rw [← hx4] at c4 K3
  have g1 : ¬ (3000 : Int) < s.length := by omega
  have g2 : ¬ (100 : Int) < t.length := by omega
  clear v1 v2 v3 u1 u2 hx1 hx2 hx3 hx4 hl3 hl4 hl5 hT hn2 h1 h2 h4 hl e1
  go_enter Tryd.func6, Tryd.ntmps6
  go_wp2_with fail
  refine (KR.out _).mono ?_
  rintro e w1 ⟨AL, dL, rfl, ho, hb⟩
  have RL := Lib.hid ho.rd
  have ZL := Lib.hid (ownK_nilcap ho)
  have T1 := Lib.hid ((Aft.refl w).call hb); clear hb ho
  go_wp2_with fail
  refine (AW.out _ (HL.out.below T1.out)).mono ?_
  rintro e w2 ⟨rfl, hb⟩
  have RL := Lib.hid (RL.out.below hb)
  have T1 := Lib.hid (T1.out.call hb); clear hb
  go_wp2_with fail
  refine (KN.out _).mono ?_
  rintro e w9 ⟨rfl, rfl⟩
  go_wp2_with fail
  refine (K1.out _ (HL.out.below T1.out)).mono ?_
  rintro e w3 ⟨A1, d1, rfl, ho, hb⟩
  rw [HE.out] at ho ⊢
  have R1 := Lib.hid ho.rd
  have RL := Lib.hid (RL.out.below hb)
  have T1 := Lib.hid (T1.out.call hb); clear hb ho
  go_wp2_with fail
  refine (K2.out _ (HL.out.below T1.out)).mono ?_
  rintro e w4 ⟨A2, d2, rfl, ho, hb⟩
  rw [HE.out] at ho ⊢
  have R1 := Lib.hid (R1.out.below hb)
  have R2 := Lib.hid ho.rd
  have RL := Lib.hid (RL.out.below hb)
  have T1 := Lib.hid (T1.out.call hb); clear hb ho
  go_wp2_with fail
  refine (K3.out _ (HL.out.below T1.out)).mono ?_
  rintro e w5 ⟨A3, d3, rfl, _, hb⟩
  have R1 := Lib.hid (R1.out.below hb)
  have R2 := Lib.hid (R2.out.below hb)
  have RL := Lib.hid (RL.out.below hb)
  have T1 := Lib.hid (T1.out.call hb); clear hb
  go_wp2_with fail
  refine (BA.out (⟨3, [44], 0⟩) A1 d1 _ R1.out).mono ?_
  rintro e V1 ⟨B1, f1, rfl, ho, hb⟩
  rw [HE.out] at ho ⊢
  have RB := Lib.hid ho.rd
  have RL := Lib.hid (RL.out.below hb)
  have R2 := Lib.hid (R2.out.below hb)
  have T1 := Lib.hid (T1.out.call hb); clear hb ho
  have OE := Lib.hid (ownK_empty 38 V1)
  have HE0 := Lib.hid (show Below V1.heap.size V1 (V1.alloc (.cells #[] 38)) from (Below.refl _ _).alloc (Nat.le_refl _) _)
  have RLE := Lib.hid (RL.out.below HE0.out)
  go_wp2_with (first
    | (at_builtin; refine wpList_appendK_w Tryd.underlying27 refToken_info (by rfl) (.tmp 73) (.tmp 74) (by rfl) V1.heap.size _ [] (by rfl) OE.out AL L.length dL L (by rfl) RLE.out ZL.out (by simp only [List.length_nil]; omega) HE0.out.size ?_; intro v8 w8 ho8 hg8 _; have F8 := Lib.hid (OwnK.below_grown HE0.out OE.out hg8 HE0.out.size); rw [List.nil_append] at ho8; have O8 := Lib.hid ho8; obtain ⟨P8, e8, rfl, _⟩ := ho8.form; clear ho8 hg8)
    | (at_builtin; refine wpList_pushK_w Tryd.underlying27 refToken_info (by rfl) (.tmp 75) (.tmp 77) (by rfl) V1.heap.size _ L (by rfl) O8.out F8.out.size 3 0 [44] _ _ (by rfl) (by rfl) L.length rfl (by omega) ?_; intro P9 e9 w9 ho9 hg9; have F9 := Lib.hid (OwnK.below_grown F8.out O8.out hg9 F8.out.size); have R9 := Lib.hid ho9.rd; clear ho9 hg9))
  have RB := Lib.hid (RB.out.below F9.out)
  have RL := Lib.hid (RL.out.below F9.out)
  have R2 := Lib.hid (R2.out.below F9.out)
  have T1 := Lib.hid (T1.out.call F9.out)
  refine (SS.out (⟨3, [44], 0⟩) B1 P9 f1 e9 _ RB.out R9.out).mono ?_
  rintro e w10 ⟨rfl, q1, rfl⟩
  have T1 := Lib.hid (T1.out.drew q1)
  have RL := Lib.hid (RL.out.below (below_drewN (Below.refl _ _) q1))
  have R2 := Lib.hid (R2.out.below (below_drewN (Below.refl _ _) q1))
  go_wp2_with fail
  refine (BA.out (⟨1, t, 0⟩) A2 d2 _ R2.out).mono ?_
  rintro e V2 ⟨B2, f2, rfl, ho, hb⟩
  rw [HE.out] at ho ⊢
  have RB := Lib.hid ho.rd
  have RL := Lib.hid (RL.out.below hb)
  have T1 := Lib.hid (T1.out.call hb); clear hb ho
  have OE := Lib.hid (ownK_empty 38 V2)
  have HE0 := Lib.hid (show Below V2.heap.size V2 (V2.alloc (.cells #[] 38)) from (Below.refl _ _).alloc (Nat.le_refl _) _)
  have RLE := Lib.hid (RL.out.below HE0.out)
  go_wp2_with (first
    | (at_builtin; refine wpList_appendK_w Tryd.underlying27 refToken_info (by rfl) (.tmp 84) (.tmp 85) (by rfl) V2.heap.size _ [] (by rfl) OE.out AL L.length dL L (by rfl) RLE.out ZL.out (by simp only [List.length_nil]; omega) HE0.out.size ?_; intro v8 w8 ho8 hg8 _; have F8 := Lib.hid (OwnK.below_grown HE0.out OE.out hg8 HE0.out.size); rw [List.nil_append] at ho8; have O8 := Lib.hid ho8; obtain ⟨P8, e8, rfl, _⟩ := ho8.form; clear ho8 hg8)
    | (at_builtin; refine wpList_pushK_w Tryd.underlying27 refToken_info (by rfl) (.tmp 86) (.tmp 89) (by rfl) V2.heap.size _ L (by rfl) O8.out F8.out.size 1 0 t _ _ (by rfl) (by rfl) L.length rfl (by omega) ?_; intro P9 e9 w9 ho9 hg9; have F9 := Lib.hid (OwnK.below_grown F8.out O8.out hg9 F8.out.size); have R9 := Lib.hid ho9.rd; clear ho9 hg9))
  have RB := Lib.hid (RB.out.below F9.out)
  have RL := Lib.hid (RL.out.below F9.out)
  have T1 := Lib.hid (T1.out.call F9.out)
  refine (SS.out (⟨1, t, 0⟩) B2 P9 f2 e9 _ RB.out R9.out).mono ?_
  rintro e w10 ⟨rfl, q2, rfl⟩
  have T1 := Lib.hid (T1.out.drew q2)
  have RL := Lib.hid (RL.out.below (below_drewN (Below.refl _ _) q2))
  go_wp2_with fail
  go_ret
  exact ⟨rfl, T1.out⟩
theorem walk_LexAppends (s t : ByteArray) (hs : s.size ≤ maxLen) (w : World) (hl : Lays w) : Calls Tryd.prog 6 #[.string s, .string t] w (Holds w) := by
  unfold maxLen at hs
  rw [← str_bl s, ← str_bl t]
  have hz := bl_size s
  by_cases h1 : (bl s).length ≤ 3000
  · by_cases h2 : (bl t).length ≤ 100
    · cases hT : tok (bl s) with
      | none => exact appends_out _ _ w hl (by omega) (.inr (.inr (.inl ⟨h1, h2, by unfold okB toks; rw [if_neg (by omega), hT]; rfl⟩)))
      | some L =>
        cases hN : nameB (bl t)
        · exact appends_out _ _ w hl (by omega) (.inr (.inr (.inr ⟨h1, h2, by unfold okB toks; rw [if_neg (by omega), hT]; rfl, hN⟩)))
        · exact appends_in _ _ w hl h1 h2 L hT hN
    · exact appends_out _ _ w hl (by omega) (.inr (.inl ⟨h1, by omega⟩))
  · exact appends_out _ _ w hl (by omega) (.inl (by omega))
end Go.Proofs.YtklmchhojopfiaaDoor.lx
