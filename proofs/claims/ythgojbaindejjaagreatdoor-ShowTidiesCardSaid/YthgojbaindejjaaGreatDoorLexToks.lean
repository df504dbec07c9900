/- Package lex: the tokens of a text. -/
import Derived.Test.YthgojbaindejjaaGreatDoorLexFirst
import Derived.Test.YthgojbaindejjaaGreatDoorTokRow
namespace Go.Proofs.YthgojbaindejjaaGreatDoor.lx
open Go.ChangeShapes Go.WideShapes Go.ChangeAt Go.RowKit Go.Proofs.YthgojbaindejjaaGreatDoor.mem Go.Proofs.YthgojbaindejjaaGreatDoor.txt
set_option linter.unusedVariables false

theorem drop_len (a b : List UInt8) (h : ∃ r, b = a ++ r) : (strOf b).extract a.length (strOf b).size = strOf (b.drop a.length) ∧ (a.length : Int) ≤ (strOf b).size := by
  obtain ⟨r, rfl⟩ := h
  refine ⟨by rw [piece_str, bl_str, strOf_size]; congr 1; rw [List.take_of_length_le]; rw [List.length_drop]; omega, ?_⟩
  rw [strOf_size, List.length_append]; omega
theorem tokenL_info : (Tryz.prog.info? 75).map (fun i => (i.zero, i.size, i.bytes)) = some (some (.agg #[.int .i64 0, .string ⟨#[]⟩, .int .i64 0]), 3, 32) := by kernel_rfl
set_option maxHeartbeats 2000000 in
set_option maxRecDepth 100000 in
theorem tokens_any (l : List UInt8) (hlm : l.length ≤ 9223372036854775807) (w : World) (hL : Lays w) : Calls Tryz.prog 53 #[.string (strOf l)] w (Toks 75 w (tokL l) (.int .i64 (okI l))) := by
  have hsz := strOf_size l
  by_cases hlen : 65536 < l.length
  · have e1 : tokL l = [] := by unfold tokL toks; rw [if_pos hlen]; rfl
    have e2 : okI l = 1 := by unfold okI toks; rw [if_pos hlen]; rfl
    rw [e1, e2]
    have h1 : (65536 : Int) < (strOf l).size := by rw [hsz]; omega
    clear e1 e2 hL hsz hlen
    go_enter Tryz.func53, Tryz.ntmps53
    go_wp2_with fail
    go_ret2
    exact toks_none _ _ (Below.refl _ _)
  have h1 : ¬ (65536 : Int) < (strOf l).size := by rw [hsz]; omega
  have HS : Hid (∀ M, tok l = some M → tokL l = M ∧ okI l = 0) := Lib.hid (fun M h => by unfold tokL okI toks; rw [if_neg hlen, h]; exact ⟨rfl, rfl⟩)
  have HN : Hid (tok l = none → tokL l = [] ∧ okI l = 1) := Lib.hid (fun h => by unfold tokL okI toks; rw [if_neg hlen, h]; exact ⟨rfl, rfl⟩)
  obtain ⟨T, hT⟩ : ∃ T, T = tokL l := ⟨_, rfl⟩
  obtain ⟨E, hE⟩ : ∃ E, E = okI l := ⟨_, rfl⟩
  rw [← hT, ← hE] at HS HN ⊢
  have HL := Lib.hid hL
  have K0 := Lib.hid (skip_any (strOf l) w)
  rw [bl_str] at K0
  have KS := Lib.hid (fun (R : List UInt8) W => skip_any (strOf R) W)
  have KF := Lib.hid (fun (R : List UInt8) h W hL => first_any R h W hL)
  have hle : l.length ≤ 65536 := by omega
  have HQ0 := Lib.hid (tok_skip l)
  have hdl : (l.dropWhile blB).length ≤ l.length := (List.dropWhile_sublist blB).length_le
  have HHD : Hid (∀ R : List UInt8, ∀ c r, R.dropWhile blB = c :: r → blB c = false) := Lib.hid (fun R c r h => by
    have := List.head?_dropWhile_not blB R
    rw [h] at this
    simpa using this)
  obtain ⟨R0, hR0⟩ : ∃ R0, R0 = l.dropWhile blB := ⟨_, rfl⟩
  have HH0 := Lib.hid (fun c r h => HHD.out l c r h)
  rw [← hR0] at K0 HQ0 hdl HH0
  clear hT hE hL hR0 hsz hlen
  go_enter Tryz.func53, Tryz.ntmps53
  go_wp2_with fail
  refine K0.out.mono ?_
  rintro e w1 ⟨rfl, hb⟩
  have HB := Lib.hid hb; clear hb
  go_wp2_with fail
  go_loopw [4, 5] (fun v x wr => ∃ A n c, ∃ M : List Tk, ∃ R : List UInt8, v = .slice A n c ∧ x = .string (strOf R) ∧ n + R.length ≤ 65536 ∧ Hid (M.length = n) ∧ Hid (OwnK 75 wr w.heap.size (.slice A n c) M) ∧ Hid (Below w.heap.size w wr) ∧ Hid (tok l = (tok R).map (M ++ ·)) ∧ Hid (∀ c r, R = c :: r → blB c = false)) (fun _ x _ => lenOf x)
  case atStart => exact ⟨none, 0, 0, [], R0, rfl, rfl, by omega, Lib.hid rfl, Lib.hid (ownK_nil _ _ _), HB, Lib.hid (by rw [← HQ0.out]; cases tok R0 <;> rfl), HH0⟩
  case round =>
    obtain ⟨A, n, c, M, R, rfl, rfl, hnR, HM, HO, HB1, HT, HH⟩ := hrel
    by_cases h0 : R = []
    · obtain ⟨e1, e2⟩ := empty_list h0
      have HX := Lib.hid (HS.out M (by rw [HT.out, h0, tok_nil]; simp))
      clear h0
      go_wp2_with fail
      go_ret2
      rw [HX.out.1, HX.out.2]
      exact toks_some _ HO.out HB1.out
    · obtain ⟨e1, e2⟩ := full_list h0
      obtain ⟨c0, r0, hcr⟩ : ∃ c0 r0, R = c0 :: r0 := by
        cases R with
        | nil => exact absurd rfl h0
        | cons a b => exact ⟨a, b, rfl⟩
      have HCR := Lib.hid hcr
      have HBL := Lib.hid (HH.out c0 r0 hcr)
      have F := Lib.hid (KF.out R (by omega) wr (HL.out.below HB1.out))
      cases hf : fir R with
      | none =>
        have HX := Lib.hid (HN.out (by rw [HT.out, HCR.out, tok_none HBL.out (by rw [← HCR.out]; exact hf)]; rfl))
        rw [hf] at F
        clear h0 hcr hf
        go_wp2_with fail
        refine F.out.mono ?_
        rintro e w2 ⟨rfl, hb⟩
        have HB2 := Lib.hid (HB1.out.trans (hb.mono HB1.out.size)); clear hb
        go_wp2_with fail
        go_ret2
        rw [HX.out.1, HX.out.2]
        exact toks_none _ _ (HB2.out.alloc HB2.out.size _)
      | some t =>
        have hfl := fir_len hf
        have hfp := (fir_pre hf).2.1
        obtain ⟨x1, x2⟩ := drop_len t.t R hfp
        have HT2 : Hid (tok l = (tok (R.drop t.t.length)).map ((M ++ [t]) ++ ·)) := Lib.hid (by
          rw [HT.out, HCR.out, tok_some HBL.out (by rw [← HCR.out]; exact hf)]
          cases tok ((c0 :: r0).drop t.t.length) <;> simp)
        rw [hf] at F
        obtain ⟨tk, tt, tn⟩ := t
        simp only [] at hfl x1 x2 HT2
        have hln : (R.drop tt.length).length = R.length - tt.length := List.length_drop
        have HT3 := Lib.hid (tok_skip (R.drop tt.length))
        have hdl2 : ((R.drop tt.length).dropWhile blB).length ≤ (R.drop tt.length).length := (List.dropWhile_sublist blB).length_le
        have HH2 := Lib.hid (HHD.out (R.drop tt.length))
        have S2 := Lib.hid (KS.out (R.drop tt.length))
        rw [bl_str] at S2
        obtain ⟨R2, hR2⟩ : ∃ R2, R2 = R.drop tt.length := ⟨_, rfl⟩
        rw [← hR2] at x1 HT2 HT3 hdl2 HH2 S2 hln
        obtain ⟨R3, hR3⟩ : ∃ R3, R3 = R2.dropWhile blB := ⟨_, rfl⟩
        rw [← hR3] at HT3 hdl2 HH2 S2
        have htz := strOf_size tt
        clear h0 hcr hf hfp hR2 hR3 HT
        go_wp2_with fail
        refine F.out.mono ?_
        rintro e w2 ⟨rfl, hb⟩
        have HO2 := Lib.hid (HO.out.below hb)
        have HB2 := Lib.hid (HB1.out.trans (hb.mono HB1.out.size))
        have HLE := Lib.hid (show wr.heap.size ≤ w2.heap.size from hb.size)
        have HLT := Lib.hid (World.ownsRow.lt HO.out)
        clear hb
        have HO3 := Lib.hid (HO2.out.below ((Below.refl w2.heap.size w2).alloc (Nat.le_refl _) (.cells #[.int .i64 tk, .string (strOf tt), .int .i64 tn] 75)))
        have HB3 := Lib.hid (HB2.out.alloc HB2.out.size (.cells #[.int .i64 tk, .string (strOf tt), .int .i64 tn] 75))
        have HC3 := Lib.hid (show (w2.alloc (.cells #[.int .i64 tk, .string (strOf tt), .int .i64 tn] 75)).cell? ⟨w2.heap.size, 1, none⟩ = some (.string (strOf tt)) by
          rw [cell_of_row _ _ _ _ 75 (0, 0) (heap_alloc_new w2 _)]; rfl)
        have HZ3 := Lib.hid (show w2.heap.size < (w2.alloc (.cells #[.int .i64 tk, .string (strOf tt), .int .i64 tn] 75)).heap.size by simp)
        go_wp2_with (at_builtin; refine wpList_pushK Tryz.underlying70 tokenL_info (by rfl) (.tmp 24) (.tmp 26) (by rfl) w.heap.size _ M (by rfl) HO3.out HB3.out.size tk tn tt _ _ (by rfl) (by simp) n HM.out (by omega) ?_; intro A3 c3 w3 ho3 hg3; have HO4 := Lib.hid ho3; have HB4 := Lib.hid (OwnK.below_grown HB3.out HO3.out hg3 HB3.out.size); have hc4 := grown_cell hg3 HZ3.out (fun e => by have := (HLT.out w2.heap.size e.symm).2; have := HLE.out; omega) HC3.out; clear ho3 hg3)
        refine (S2.out _).mono ?_
        rintro e w5 ⟨rfl, hb⟩
        have HO5 := Lib.hid (HO4.out.below hb)
        have HB5 := Lib.hid (HB4.out.trans (hb.mono HB4.out.size)); clear hb
        have HM5 : Hid ((M ++ [(⟨tk, tt, tn⟩ : Tk)]).length = n + 1) := Lib.hid (by rw [List.length_append, HM.out]; rfl)
        have HT5 : Hid (tok l = (tok R3).map ((M ++ [⟨tk, tt, tn⟩]) ++ ·)) := Lib.hid (by rw [HT3.out]; exact HT2.out)
        go_wp2_with fail
        go_roundw
        case rel => exact ⟨A3, n + 1, c3, _, R3, rfl, rfl, by omega, HM5, HO5, HB5, HT5, HH2⟩
        case measure => rw [lenOf_str, lenOf_str]; omega
end Go.Proofs.YthgojbaindejjaaGreatDoor.lx
