/- The reference's tokens of a text. -/
import Derived.Test.YthgojbaindejjaaGreatDoorLexNam
import Derived.Test.YthgojbaindejjaaGreatDoorTokSame
namespace Go.Proofs.YthgojbaindejjaaGreatDoor.lx
open Go.ChangeShapes Go.WideShapes Go.ChangeAt Go.RowKit Go.Proofs.YthgojbaindejjaaGreatDoor.mem Go.Proofs.YthgojbaindejjaaGreatDoor.txt
set_option linter.unusedVariables false

def okB (l : List UInt8) : Bool := (toks l).isSome
theorem bl_not {c : UInt8} (h1 : ((c.toNat : Int) == 32) = false) (h2 : ((c.toNat : Int) == 9) = false) (h3 : ((c.toNat : Int) == 13) = false) : blB c = false := by
  rw [Bool.eq_false_iff]; intro h; rw [bl_iff] at h
  simp only [beq_eq_false_iff_ne] at h1 h2 h3
  omega
theorem bl_yes {c : UInt8} (h : ((c.toNat : Int) == 32) = true ∨ ((c.toNat : Int) == 9) = true ∨ ((c.toNat : Int) == 13) = true) : blB c = true := by
  rw [bl_iff]
  simp only [beq_iff_eq] at h
  omega
theorem drop_next {l : List UInt8} {k : Nat} {c : UInt8} {r : List UInt8} (h : l.drop k = c :: r) : l.drop (k + 1) = r := by rw [← List.drop_drop, h]; rfl
theorem map_step {l R R2 : List UInt8} {M : List Tk} {t : Tk} (h : tok l = (tok R).map (M ++ ·)) (h2 : tok R = (tok R2).map (t :: ·)) : tok l = (tok R2).map ((M ++ [t]) ++ ·) := by
  rw [h, h2]; cases tok R2 <;> simp
theorem last_snoc {R : List UInt8} {k : Nat} {g : List UInt8} (h : gls[k]? = some g) : lastG R (gls.take (k + 1)) = if g.isPrefixOf R then g else lastG R (gls.take k) := by
  unfold lastG; rw [take_snoc h, List.foldl_append]; rfl
theorem slice_run (s : ByteArray) (a b : Nat) (h1 : a ≤ b) (h2 : b ≤ s.size) (W : World) : (Instr.slice 9 (.string s) (some (.int .i64 (a : Int))) (some (.int .i64 (b : Int))) none).run Tryz.prog W = .ok (.string (strOf (((bl s).drop a).take (b - a)))) W := by
  rw [run_slice_string W 9 s .i64 .i64 a b (by kernel_rfl) (by omega) (by omega) (by omega), ← piece_str]
  rfl
set_option maxHeartbeats 4000000 in
set_option maxRecDepth 100000 in
theorem refTokens_any (s : ByteArray) (hlm : s.size ≤ 9223372036854775807) (w : World) : Calls Tryz.prog 45 #[.string s] w (Toks 80 w (tokL (bl s)) (.bool (okB (bl s)))) := by
  have hsz := bl_size s
  by_cases hlen : 65536 < s.size
  · have e1 : tokL (bl s) = [] := by unfold tokL toks; rw [if_pos (by omega)]; rfl
    have e2 : okB (bl s) = false := by unfold okB toks; rw [if_pos (by omega)]; rfl
    rw [e1, e2]
    have h1 : (65536 : Int) < s.size := by omega
    clear e1 e2 hsz hlen
    go_enter Tryz.func45, Tryz.ntmps45
    go_wp2_with fail
    go_ret2
    exact toks_none _ _ (Below.refl _ _)
  have h1 : ¬ (65536 : Int) < s.size := by omega
  have HS : Hid (∀ M, tok (bl s) = some M → tokL (bl s) = M ∧ okB (bl s) = true) := Lib.hid (fun M h => by unfold tokL okB toks; rw [if_neg (by omega), h]; exact ⟨rfl, rfl⟩)
  have HN : Hid (tok (bl s) = none → tokL (bl s) = [] ∧ okB (bl s) = false) := Lib.hid (fun h => by unfold tokL okB toks; rw [if_neg (by omega), h]; exact ⟨rfl, rfl⟩)
  obtain ⟨T, hT⟩ : ∃ T, T = tokL (bl s) := ⟨_, rfl⟩
  obtain ⟨E, hE⟩ : ∃ E, E = okB (bl s) := ⟨_, rfl⟩
  rw [← hT, ← hE] at HS HN ⊢
  have hs6 : s.size ≤ 65536 := by omega
  have HSZ := Lib.hid hsz
  clear hT hE hlen hlm hsz
  go_enter Tryz.func45, Tryz.ntmps45
  go_wp2_with fail
  go_loopw [4, 5] (fun v i wr => ∃ A n c, ∃ M : List Tk, ∃ a : Nat, v = .slice A n c ∧ i = .int .i64 a ∧ a ≤ s.size ∧ n ≤ a ∧ Hid (M.length = n) ∧ Hid (OwnK 80 wr w.heap.size (.slice A n c) M) ∧ Hid (Below w.heap.size w wr) ∧ Hid (tok (bl s) = (tok ((bl s).drop a)).map (M ++ ·))) (fun _ i _ => s.size - (intOf i).toNat)
  case atStart => exact ⟨none, 0, 0, [], 0, rfl, rfl, Nat.zero_le _, Nat.le_refl _, Lib.hid rfl, Lib.hid (ownK_nil _ _ _), Lib.hid (Below.refl _ _), Lib.hid (by rw [List.drop_zero]; cases tok (bl s) <;> rfl)⟩
  case round =>
    obtain ⟨A, n, c, M, a, rfl, rfl, ha, hna, HM, HO, HB, HT⟩ := hrel
    by_cases hlt : a < s.size
    · have HD := Lib.hid (bl_drop s a hlt)
      obtain ⟨b1, hb1⟩ : ∃ b, ((s[a].toNat : Int) == 32) = b := ⟨_, rfl⟩
      obtain ⟨b2, hb2⟩ : ∃ b, ((s[a].toNat : Int) == 9) = b := ⟨_, rfl⟩
      obtain ⟨b3, hb3⟩ : ∃ b, ((s[a].toNat : Int) == 13) = b := ⟨_, rfl⟩
      by_cases hbl : b1 = true ∨ b2 = true ∨ b3 = true
      · have HT2 : Hid (tok (bl s) = (tok ((bl s).drop (a + 1))).map (M ++ ·)) := Lib.hid (by
          rw [HT.out, HD.out, tok_bl (bl_yes (by rw [hb1, hb2, hb3]; exact hbl))])
        cases b1
        · cases b2
          · have h3 : b3 = true := by simpa using hbl
            subst h3
            clear hbl
            go_wp2_with fail
            go_roundw
            case rel => exact ⟨A, n, c, M, a + 1, rfl, by go_num, by omega, by omega, HM, HO, HB, HT2⟩
            case measure => first | (simp [intOf]; done) | (simp [intOf]; omega)
          · clear hbl
            go_wp2_with fail
            go_roundw
            case rel => exact ⟨A, n, c, M, a + 1, rfl, by go_num, by omega, by omega, HM, HO, HB, HT2⟩
            case measure => first | (simp [intOf]; done) | (simp [intOf]; omega)
        · clear hbl
          go_wp2_with fail
          go_roundw
          case rel => exact ⟨A, n, c, M, a + 1, rfl, by go_num, by omega, by omega, HM, HO, HB, HT2⟩
          case measure => first | (simp [intOf]; done) | (simp [intOf]; omega)
      have e1 : b1 = false := by cases b1; rfl; simp at hbl
      have e2 : b2 = false := by cases b2; rfl; simp at hbl
      have e3 : b3 = false := by cases b3; rfl; simp at hbl
      subst e1; subst e2; subst e3
      have HBL := Lib.hid (bl_not hb1 hb2 hb3)
      have HR := Lib.hid (show (bl s).drop (a + 1) = (bl s).drop (a + 1) from rfl)
      have L := Lib.hid (refLetter_any s[a] wr)
      have hne : (bl s).drop a ≠ [] := by rw [HD.out]; simp
      clear hbl
      obtain ⟨x, hx⟩ : ∃ x, x = letB s[a] := ⟨_, rfl⟩
      rw [← hx] at L
      have HX := Lib.hid hx.symm
      clear hx
      cases x
      · have hR : (bl s).drop a = s[a] :: (bl s).drop (a + 1) := HD.out
        have BG := Lib.hid (show Calls Tryz.prog 58 #[.string s, .int .i64 a, .string ⟨#[194, 175]⟩] wr fun e w' => e = .returned (.bool (negB ((bl s).drop a))) ∧ wr = w' from begins_any s a hiM wr (by omega) (by decide) (by omega))
        have hpl := pre_len ((bl s).drop a)
        rw [List.length_drop, HSZ.out] at hpl
        have hp2 : (preL ((bl s).drop a)).length = if negB ((bl s).drop a) then 2 else 0 := by unfold preL; cases negB ((bl s).drop a) <;> rfl
        obtain ⟨f, hf⟩ : ∃ f, f = a + (preL ((bl s).drop a)).length := ⟨_, rfl⟩
        have hfs : f ≤ s.size := by omega
        have hdf : (bl s).drop f = ((bl s).drop a).drop (preL ((bl s).drop a)).length := by rw [hf, List.drop_drop]
        have EN := Lib.hid (end_any s f wr (by omega) hfs)
        have hdg : (((bl s).drop a).drop (preL ((bl s).drop a)).length).takeWhile wpB = digL ((bl s).drop a) := rfl
        have hdl := tw_len wpB ((bl s).drop f)
        rw [List.length_drop, HSZ.out] at hdl
        have hS1 := slice_run s f (f + (digL ((bl s).drop a)).length) (by omega) (by rw [← hdg, ← hdf]; omega)
        rw [Nat.add_sub_cancel_left, ← hdg, ← hdf, tw_take, hdf, hdg] at hS1
        rw [hdf, hdg] at EN hdl
        have hpa : (preL ((bl s).drop a) ++ digL ((bl s).drop a)).length = f + (digL ((bl s).drop a)).length - a := by rw [List.length_append]; omega
        have hS2 := slice_run s a (f + (digL ((bl s).drop a)).length) (by omega) (by omega)
        rw [← hpa, take_pre (num_pre _)] at hS2
        have VA := Lib.hid (value_any (strOf (digL ((bl s).drop a))) (negB ((bl s).drop a)) wr (by rw [strOf_size]; omega))
        rw [bl_str] at VA
        have HFN := Lib.hid (fun (h : digL ((bl s).drop a) ≠ []) => show fir ((bl s).drop a) = (numB (digL ((bl s).drop a)) (negB ((bl s).drop a))).map fun n => ⟨2, preL ((bl s).drop a) ++ digL ((bl s).drop a), n⟩ by
          rw [hR] at h ⊢; exact fir_num HX.out h)
        have HFG := Lib.hid (fun (h : digL ((bl s).drop a) = []) => show fir ((bl s).drop a) = if glyL ((bl s).drop a) = [] then none else some ⟨3, glyL ((bl s).drop a), 0⟩ by
          rw [hR] at h ⊢; exact fir_gly HX.out h)
        have HTN := Lib.hid (fun (h : fir ((bl s).drop a) = none) => HN.out (by rw [HT.out, hR, tok_none HBL.out (by rw [← hR]; exact h)]; rfl))
        have HTS := Lib.hid (fun t (h : fir ((bl s).drop a) = some t) => show tok (bl s) = (tok ((bl s).drop (a + t.t.length))).map ((M ++ [t]) ++ ·) from map_step HT.out (by
          have h2 := h
          rw [hR] at h2 ⊢
          rw [tok_some HBL.out h2, ← hR, List.drop_drop]))
        have HUD : Hid (negB ((bl s).drop a) = false → preL ((bl s).drop a) ++ digL ((bl s).drop a) = digL ((bl s).drop a)) := Lib.hid (fun h => by unfold preL; rw [h]; rfl)
        have hgl := (gly_pre ((bl s).drop a))
        have hgl2 : (glyL ((bl s).drop a)).length ≤ s.size - a := by
          obtain ⟨r, h⟩ := hgl
          have := congrArg List.length h
          rw [List.length_append, List.length_drop, HSZ.out] at this
          omega
        have HLG := Lib.hid (last_gly ((bl s).drop a))
        have BG2 := Lib.hid (fun (g : List UInt8) W (hg : g.length ≤ 100) => begins_any s a g W (by omega) hg (by omega))
        obtain ⟨G, hG⟩ : ∃ G, G = glyL ((bl s).drop a) := ⟨_, rfl⟩
        rw [← hG] at HFG hgl2 HLG
        obtain ⟨d, hd⟩ : ∃ d, d = digL ((bl s).drop a) := ⟨_, rfl⟩
        rw [← hd] at EN hdl hS1 hS2 VA HFN HFG hpa HUD
        obtain ⟨u, hu⟩ : ∃ u, u = preL ((bl s).drop a) ++ d := ⟨_, rfl⟩
        rw [← hu] at hS2 HFN hpa HUD
        obtain ⟨neg, hn⟩ : ∃ neg, neg = negB ((bl s).drop a) := ⟨_, rfl⟩
        rw [← hn] at BG VA HFN hp2 HUD
        obtain ⟨R, hRR⟩ : ∃ R, R = (bl s).drop a := ⟨_, rfl⟩
        rw [← hRR] at HFN HFG HTN HTS HLG BG2
        obtain ⟨to, hto⟩ : ∃ to, to = f + d.length := ⟨_, rfl⟩
        rw [← hto] at EN hS1 hS2 hpa
        have hts : to ≤ s.size := by omega
        have haf : a ≤ f := by omega
        have hfi : (f : Int) = a + (if neg then 2 else 0 : Nat) := by rw [hf, hp2]; split <;> omega
        clear hf
        clear hR hpl hp2 hdf hdg hgl hG hd hu hn hRR hne hdl
        by_cases hd : d = []
        · have htf : f = to := by rw [hto, hd]; rfl
          subst htf
          have HFG2 := Lib.hid (HFG.out hd)
          have GS := Lib.hid (glyphs_any wr)
          clear hto hd hS1 hS2 VA HFN HFG hpa
          -- WAYS B
          cases neg
          · have hfa : a = f := by have e : (if false = true then 2 else 0 : Nat) = 0 := rfl; rw [e] at hfi; omega
            subst hfa
            clear hfi
            go_wp2_with fail
            with_reducible refine L.out.mono ?_
            rintro e w' ⟨rfl, rfl⟩
            go_wp2_with fail
            with_reducible refine BG.out.mono ?_
            rintro e w' ⟨rfl, rfl⟩
            go_wp2_with fail
            with_reducible refine EN.out.mono ?_
            rintro e w' ⟨rfl, rfl⟩
            go_wp2_with fail
            refine GS.out.mono ?_
            rintro e w2 ⟨GA, rfl, hgr, hb⟩
            obtain ⟨ad, rfl, _, HGC⟩ := hgr
            have HGC := Lib.hid HGC
            have HO2 := Lib.hid (HO.out.below hb)
            have HB2 := Lib.hid (HB.out.trans (hb.mono HB.out.size)); clear hb
            go_wp2_with fail
            go_loop [12, 14] (fun fo i => ∃ k : Nat, k ≤ 12 ∧ i = .int .i64 k ∧ ∃ u : List UInt8, fo = .string (strOf u) ∧ Hid (u = lastG R (gls.take k))) (fun _ i => 12 - (intOf i).toNat)
            case atStart => exact ⟨0, Nat.zero_le _, rfl, [], rfl, Lib.hid rfl⟩
            case round =>
              obtain ⟨k, hk, rfl, u, rfl, HU⟩ := hrel
              by_cases hlt2 : k < 12
              · obtain ⟨g, hg⟩ : ∃ g, gls[k]? = some g := ⟨_, List.getElem?_eq_getElem hlt2⟩
                have hgl : g.length ≤ 100 := by
                  have : ∀ g ∈ gls, g.length ≤ 100 := by decide
                  exact this g (mem_at hg)
                have hc := HGC.out k g hg
                have HLS := Lib.hid (last_snoc (R := R) hg)
                have B3 := Lib.hid (BG2.out g w2 hgl)
                obtain ⟨b, hb⟩ : ∃ b, b = g.isPrefixOf R := ⟨_, rfl⟩
                rw [← hb] at B3 HLS
                clear hg hgl hb
                cases b
                · have HU2 : Hid (u = lastG R (gls.take (k + 1))) := Lib.hid (by rw [HLS.out]; exact HU.out)
                  go_wp2_with fail
                  refine B3.out.mono ?_
                  rintro e w' ⟨rfl, rfl⟩
                  go_wp2_with fail
                  go_round
                  case rel => exact ⟨k + 1, by omega, by go_num, u, rfl, HU2⟩
                  case measure => first | (simp [intOf]; done) | (simp [intOf]; omega)
                · have HU2 : Hid (g = lastG R (gls.take (k + 1))) := Lib.hid (by rw [HLS.out]; rfl)
                  go_wp2_with fail
                  refine B3.out.mono ?_
                  rintro e w' ⟨rfl, rfl⟩
                  go_wp2_with fail
                  go_round
                  case rel => exact ⟨k + 1, by omega, by go_num, g, rfl, HU2⟩
                  case measure => first | (simp [intOf]; done) | (simp [intOf]; omega)
              · obtain rfl : k = 12 := by omega
                have hug : u = G := by rw [HU.out, ← HLG.out]; rfl
                subst hug
                by_cases hge : u = []
                · obtain ⟨y1, y2⟩ := empty_list hge
                  have HX2 := Lib.hid (HTN.out (by rw [HFG2.out, if_pos hge]))
                  clear hge
                  go_wp2_with fail
                  go_ret2
                  rw [HX2.out.1, HX2.out.2]
                  exact toks_none _ _ HB2.out
                · obtain ⟨y1, y2⟩ := full_list hge
                  have HT5 := Lib.hid (HTS.out ⟨3, u, 0⟩ (by rw [HFG2.out, if_neg hge]))
                  have hz := strOf_size u
                  have hup : 1 ≤ u.length := by
                    have : u.length ≠ 0 := fun e => hge (List.eq_nil_of_length_eq_zero e)
                    omega
                  clear hge
                  go_wp2_with (at_builtin; refine wpList_pushK Tryz.underlying77 refToken_info (by rfl) (.tmp 110) (.tmp 113) (by rfl) w.heap.size _ M (by rfl) HO2.out HB2.out.size 3 0 u _ _ (by rfl) (by rfl) n HM.out (by omega) ?_; intro P3 d3 w3 ho3 hg3; have HO4 := Lib.hid ho3; have HB4 := Lib.hid (OwnK.below_grown HB2.out HO2.out hg3 HB2.out.size); clear ho3 hg3)
                  go_roundw
                  case rel => exact ⟨P3, n + 1, d3, _, a + u.length, rfl, by go_num, by omega, by omega, Lib.hid (by rw [List.length_append, HM.out]; rfl), HO4, HB4, HT5⟩
                  case measure => first | (simp [intOf]; done) | (simp [intOf]; omega)
          · have hf2 : (a : Int) + 2 = f := by have e : (if true = true then 2 else 0 : Nat) = 2 := rfl; rw [e] at hfi; omega
            clear hfi
            go_wp2_with fail
            with_reducible refine L.out.mono ?_
            rintro e w' ⟨rfl, rfl⟩
            go_wp2_with fail
            with_reducible refine BG.out.mono ?_
            rintro e w' ⟨rfl, rfl⟩
            go_wp2_with fail
            with_reducible refine EN.out.mono ?_
            rintro e w' ⟨rfl, rfl⟩
            go_wp2_with fail
            refine GS.out.mono ?_
            rintro e w2 ⟨GA, rfl, hgr, hb⟩
            obtain ⟨ad, rfl, _, HGC⟩ := hgr
            have HGC := Lib.hid HGC
            have HO2 := Lib.hid (HO.out.below hb)
            have HB2 := Lib.hid (HB.out.trans (hb.mono HB.out.size)); clear hb
            go_wp2_with fail
            go_loop [12, 14] (fun fo i => ∃ k : Nat, k ≤ 12 ∧ i = .int .i64 k ∧ ∃ u : List UInt8, fo = .string (strOf u) ∧ Hid (u = lastG R (gls.take k))) (fun _ i => 12 - (intOf i).toNat)
            case atStart => exact ⟨0, Nat.zero_le _, rfl, [], rfl, Lib.hid rfl⟩
            case round =>
              obtain ⟨k, hk, rfl, u, rfl, HU⟩ := hrel
              by_cases hlt2 : k < 12
              · obtain ⟨g, hg⟩ : ∃ g, gls[k]? = some g := ⟨_, List.getElem?_eq_getElem hlt2⟩
                have hgl : g.length ≤ 100 := by
                  have : ∀ g ∈ gls, g.length ≤ 100 := by decide
                  exact this g (mem_at hg)
                have hc := HGC.out k g hg
                have HLS := Lib.hid (last_snoc (R := R) hg)
                have B3 := Lib.hid (BG2.out g w2 hgl)
                obtain ⟨b, hb⟩ : ∃ b, b = g.isPrefixOf R := ⟨_, rfl⟩
                rw [← hb] at B3 HLS
                clear hg hgl hb
                cases b
                · have HU2 : Hid (u = lastG R (gls.take (k + 1))) := Lib.hid (by rw [HLS.out]; exact HU.out)
                  go_wp2_with fail
                  refine B3.out.mono ?_
                  rintro e w' ⟨rfl, rfl⟩
                  go_wp2_with fail
                  go_round
                  case rel => exact ⟨k + 1, by omega, by go_num, u, rfl, HU2⟩
                  case measure => first | (simp [intOf]; done) | (simp [intOf]; omega)
                · have HU2 : Hid (g = lastG R (gls.take (k + 1))) := Lib.hid (by rw [HLS.out]; rfl)
                  go_wp2_with fail
                  refine B3.out.mono ?_
                  rintro e w' ⟨rfl, rfl⟩
                  go_wp2_with fail
                  go_round
                  case rel => exact ⟨k + 1, by omega, by go_num, g, rfl, HU2⟩
                  case measure => first | (simp [intOf]; done) | (simp [intOf]; omega)
              · obtain rfl : k = 12 := by omega
                have hug : u = G := by rw [HU.out, ← HLG.out]; rfl
                subst hug
                by_cases hge : u = []
                · obtain ⟨y1, y2⟩ := empty_list hge
                  have HX2 := Lib.hid (HTN.out (by rw [HFG2.out, if_pos hge]))
                  clear hge
                  go_wp2_with fail
                  go_ret2
                  rw [HX2.out.1, HX2.out.2]
                  exact toks_none _ _ HB2.out
                · obtain ⟨y1, y2⟩ := full_list hge
                  have HT5 := Lib.hid (HTS.out ⟨3, u, 0⟩ (by rw [HFG2.out, if_neg hge]))
                  have hz := strOf_size u
                  have hup : 1 ≤ u.length := by
                    have : u.length ≠ 0 := fun e => hge (List.eq_nil_of_length_eq_zero e)
                    omega
                  clear hge
                  go_wp2_with (at_builtin; refine wpList_pushK Tryz.underlying77 refToken_info (by rfl) (.tmp 110) (.tmp 113) (by rfl) w.heap.size _ M (by rfl) HO2.out HB2.out.size 3 0 u _ _ (by rfl) (by rfl) n HM.out (by omega) ?_; intro P3 d3 w3 ho3 hg3; have HO4 := Lib.hid ho3; have HB4 := Lib.hid (OwnK.below_grown HB2.out HO2.out hg3 HB2.out.size); clear ho3 hg3)
                  go_roundw
                  case rel => exact ⟨P3, n + 1, d3, _, a + u.length, rfl, by go_num, by omega, by omega, Lib.hid (by rw [List.length_append, HM.out]; rfl), HO4, HB4, HT5⟩
                  case measure => first | (simp [intOf]; done) | (simp [intOf]; omega)
        · have hft : f < to := by
            have : d.length ≠ 0 := fun e => hd (List.eq_nil_of_length_eq_zero e)
            omega
          have HFN2 := Lib.hid (HFN.out hd)
          clear hto hd HFN HFG BG2 HLG
          cases neg
          · have hfa : a = f := by have e : (if false = true then 2 else 0 : Nat) = 0 := rfl; rw [e] at hfi; omega
            subst hfa
            clear hfi
            have hud : d = u := (HUD.out rfl).symm
            subst hud
            clear hS2
            rcases hnb : numB d false with _ | v
            · have HX2 := Lib.hid (HTN.out (by rw [HFN2.out, hnb]; rfl))
              have hvr : valR d false = (0, false) := by unfold valR; rw [hnb]
              rw [hvr] at VA
              clear hvr hnb
              go_wp2_with fail
              with_reducible refine L.out.mono ?_
              rintro e w' ⟨rfl, rfl⟩
              go_wp2_with fail
              with_reducible refine BG.out.mono ?_
              rintro e w' ⟨rfl, rfl⟩
              go_wp2_with fail
              with_reducible refine EN.out.mono ?_
              rintro e w' ⟨rfl, rfl⟩
              go_wp2_with fail
              with_reducible refine VA.out.mono ?_
              rintro e w' ⟨rfl, rfl⟩
              go_wp2_with fail
              go_ret2
              rw [HX2.out.1, HX2.out.2]
              exact toks_none _ _ HB.out
            · have HT5 := Lib.hid (HTS.out ⟨2, d, v⟩ (by rw [HFN2.out, hnb]; rfl))
              have hvr : valR d false = (v, true) := by unfold valR; rw [hnb]
              rw [hvr] at VA
              simp only [] at HT5
              rw [hpa, show a + (to - a) = to by omega] at HT5
              clear hvr hnb hpa
              go_wp2_with fail
              with_reducible refine L.out.mono ?_
              rintro e w' ⟨rfl, rfl⟩
              go_wp2_with fail
              with_reducible refine BG.out.mono ?_
              rintro e w' ⟨rfl, rfl⟩
              go_wp2_with fail
              with_reducible refine EN.out.mono ?_
              rintro e w' ⟨rfl, rfl⟩
              go_wp2_with fail
              with_reducible refine VA.out.mono ?_
              rintro e w' ⟨rfl, rfl⟩
              go_wp2_with (at_builtin; refine wpList_pushK Tryz.underlying77 refToken_info (by rfl) (.tmp 80) (.tmp 87) (by rfl) w.heap.size _ M (by rfl) HO.out HB.out.size 2 v d _ _ (by rfl) (by rfl) n HM.out (by omega) ?_; intro P3 d3 w3 ho3 hg3; have HO4 := Lib.hid ho3; have HB4 := Lib.hid (OwnK.below_grown HB.out HO.out hg3 HB.out.size); clear ho3 hg3)
              go_roundw
              case rel => exact ⟨P3, n + 1, d3, _, to, rfl, rfl, hts, by omega, Lib.hid (by rw [List.length_append, HM.out]; rfl), HO4, HB4, HT5⟩
              case measure => first | (simp [intOf]; done) | (simp [intOf]; omega)
          · have hf2 : (a : Int) + 2 = f := by have e : (if true = true then 2 else 0 : Nat) = 2 := rfl; rw [e] at hfi; omega
            clear hfi
            rcases hnb : numB d true with _ | v
            · have HX2 := Lib.hid (HTN.out (by rw [HFN2.out, hnb]; rfl))
              have hvr : valR d true = (0, false) := by unfold valR; rw [hnb]
              rw [hvr] at VA
              clear hvr hnb
              go_wp2_with fail
              with_reducible refine L.out.mono ?_
              rintro e w' ⟨rfl, rfl⟩
              go_wp2_with fail
              with_reducible refine BG.out.mono ?_
              rintro e w' ⟨rfl, rfl⟩
              go_wp2_with fail
              with_reducible refine EN.out.mono ?_
              rintro e w' ⟨rfl, rfl⟩
              go_wp2_with fail
              with_reducible refine VA.out.mono ?_
              rintro e w' ⟨rfl, rfl⟩
              go_wp2_with fail
              go_ret2
              rw [HX2.out.1, HX2.out.2]
              exact toks_none _ _ HB.out
            · have HT5 := Lib.hid (HTS.out ⟨2, u, v⟩ (by rw [HFN2.out, hnb]; rfl))
              have hvr : valR d true = (v, true) := by unfold valR; rw [hnb]
              rw [hvr] at VA
              simp only [] at HT5
              rw [hpa, show a + (to - a) = to by omega] at HT5
              clear hvr hnb hpa
              go_wp2_with fail
              with_reducible refine L.out.mono ?_
              rintro e w' ⟨rfl, rfl⟩
              go_wp2_with fail
              with_reducible refine BG.out.mono ?_
              rintro e w' ⟨rfl, rfl⟩
              go_wp2_with fail
              with_reducible refine EN.out.mono ?_
              rintro e w' ⟨rfl, rfl⟩
              go_wp2_with fail
              with_reducible refine VA.out.mono ?_
              rintro e w' ⟨rfl, rfl⟩
              go_wp2_with (at_builtin; refine wpList_pushK Tryz.underlying77 refToken_info (by rfl) (.tmp 80) (.tmp 87) (by rfl) w.heap.size _ M (by rfl) HO.out HB.out.size 2 v u _ _ (by rfl) (by rfl) n HM.out (by omega) ?_; intro P3 d3 w3 ho3 hg3; have HO4 := Lib.hid ho3; have HB4 := Lib.hid (OwnK.below_grown HB.out HO.out hg3 HB.out.size); clear ho3 hg3)
              go_roundw
              case rel => exact ⟨P3, n + 1, d3, _, to, rfl, rfl, hts, by omega, Lib.hid (by rw [List.length_append, HM.out]; rfl), HO4, HB4, HT5⟩
              case measure => first | (simp [intOf]; done) | (simp [intOf]; omega)
      · have HF : Hid (fir ((bl s).drop a) = some ⟨1, ((bl s).drop a).takeWhile wpB, 0⟩) := Lib.hid (by rw [HD.out]; exact fir_let HX.out)
        have EN := Lib.hid (end_any s a wr (by omega) (by omega))
        have hfl := fir_len HF.out
        simp only [List.length_drop, HSZ.out] at hfl
        have HT2 : Hid (tok (bl s) = (tok ((bl s).drop (a + (((bl s).drop a).takeWhile wpB).length))).map ((M ++ [⟨1, ((bl s).drop a).takeWhile wpB, 0⟩]) ++ ·)) := Lib.hid (map_step HT.out (by
          have := HF.out
          rw [HD.out] at this ⊢
          rw [tok_some HBL.out this, ← HD.out, List.drop_drop]))
        have hsl := slice_run s a (a + (((bl s).drop a).takeWhile wpB).length) (by omega) (by omega)
        rw [Nat.add_sub_cancel_left, tw_take] at hsl
        obtain ⟨u, hu⟩ : ∃ u, u = ((bl s).drop a).takeWhile wpB := ⟨_, rfl⟩
        rw [← hu] at hfl HT2 hsl EN
        obtain ⟨to, hto⟩ : ∃ to, to = a + u.length := ⟨_, rfl⟩
        rw [← hto] at HT2 hsl EN
        have h2 : to ≤ s.size := by omega
        have h3 : a < to := by omega
        clear hu hto HF hne
        go_wp2_with fail
        refine L.out.mono ?_
        rintro e w' ⟨rfl, rfl⟩
        go_wp2_with fail
        refine EN.out.mono ?_
        rintro e w' ⟨rfl, rfl⟩
        go_wp2_with (at_builtin; refine wpList_pushK Tryz.underlying77 refToken_info (by rfl) (.tmp 47) (.tmp 53) (by rfl) w.heap.size _ M (by rfl) HO.out HB.out.size 1 0 u _ _ (by rfl) (by rfl) n HM.out (by omega) ?_; intro P3 d3 w3 ho3 hg3; have HO4 := Lib.hid ho3; have HB4 := Lib.hid (OwnK.below_grown HB.out HO.out hg3 HB.out.size); clear ho3 hg3)
        go_roundw
        case rel => exact ⟨P3, n + 1, d3, _, to, rfl, rfl, h2, by omega, Lib.hid (by rw [List.length_append, HM.out]; rfl), HO4, HB4, HT2⟩
        case measure => first | (simp [intOf]; done) | (simp [intOf]; omega)
    · have HX := Lib.hid (HS.out M (by rw [HT.out, List.drop_eq_nil_of_le (by rw [HSZ.out]; omega), tok_nil]; simp))
      go_wp2_with fail
      go_ret2
      rw [HX.out.1, HX.out.2]
      exact toks_some _ HO.out HB.out
end Go.Proofs.YthgojbaindejjaaGreatDoor.lx
