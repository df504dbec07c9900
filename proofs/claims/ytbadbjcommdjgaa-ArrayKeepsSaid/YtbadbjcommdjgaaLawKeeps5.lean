/- The law ArrayKeeps. -/
import Derived.Test.YtbadbjcommdjgaaLawCells5
namespace Go.Proofs.Ytbadbjcommdjgaa.laws
open Go.ChangeShapes Go.WideShapes Go.ChangeAt Go.RowKit Go.Proofs.Ytbadbjcommdjgaa.mem Go.Proofs.Ytbadbjcommdjgaa.shp Go.Proofs.Ytbadbjcommdjgaa.eql Go.Proofs.Ytbadbjcommdjgaa.gam Go.Proofs.Ytbadbjcommdjgaa.strd Go.Proofs.Ytbadbjcommdjgaa.sml Go.Proofs.Ytbadbjcommdjgaa.arr
set_option linter.unusedVariables false

/-- Nothing has turned but blocks from Lo to Hi. -/
structure Out (Lo Hi : Nat) (U V : World) : Prop where
  os : V.os = U.os
  tape : V.tape = U.tape
  output : V.output = U.output
  size : U.heap.size ≤ V.heap.size
  block : ∀ k, k < U.heap.size → (k < Lo ∨ Hi ≤ k) → V.heap[k]? = U.heap[k]?
theorem Out.refl (Lo Hi : Nat) (U : World) : Out Lo Hi U U := ⟨rfl, rfl, rfl, Nat.le_refl _, fun _ _ _ => rfl⟩
theorem Out.setCell {Lo Hi : Nat} {U V : World} (h : Out Lo Hi U V) {g : Nat} (h1 : Lo ≤ g) (h2 : g < Hi) (j : Nat) (x : Value) : Out Lo Hi U (V.setCell ⟨g, j, none⟩ x) :=
  ⟨h.os, h.tape, h.output, by simpa [World.setCell] using h.size, fun k hk ho => (Below.heap_setCell _ _ _ _ (show k ≠ g by omega)).trans (h.block k hk ho)⟩
theorem Out.box {Lo Hi : Nat} {U V : World} (h : Out Lo Hi U V) {b : Nat} {x y : Value} (hb : Box2 U b x y) (ho : b < Lo ∨ Hi ≤ b) : Box2 V b x y :=
  ⟨(World.cell?_of_block (a := ⟨b, 0, none⟩) (h.block b hb.2.2 ho)).trans hb.1, (World.cell?_of_block (a := ⟨b, 1, none⟩) (h.block b hb.2.2 ho)).trans hb.2.1, Nat.lt_of_lt_of_le hb.2.2 h.size⟩
theorem Out.own {Lo Hi B : Nat} {U V : World} (h : Out Lo Hi U V) {t : TypeId} {v : Value} {xs : List Int} (hx : OwnT t U B v xs) (hB : Hi ≤ B) : OwnT t V B v xs := by
  refine ⟨hx.1, ?_⟩
  rcases hx.2 with h2 | ⟨g, cap, cur, hv, hg, hh, r⟩
  · exact .inl h2
  · exact .inr ⟨g, cap, cur, hv, hg, by rw [h.block g (Array.getElem?_eq_some_iff.1 hh).1 (.inr (by omega))]; exact hh, r⟩
theorem Out.aft {Lo Hi : Nat} {w U V : World} (h : Out Lo Hi U V) (ha : Aft w U) (hL : w.heap.size ≤ Lo) : Aft w V :=
  ⟨h.os.trans ha.os, h.tape.trans ha.tape, h.output.trans ha.output, Nat.le_trans ha.size h.size, fun k hk => (h.block k (Nat.lt_of_lt_of_le hk ha.size) (.inl (Nat.lt_of_lt_of_le hk hL))).trans (ha.block k hk)⟩

/-- A row of the call's own with some element: its block. -/
theorem ownE_at {t : TypeId} {w : World} {B n c : Nat} {A : Option Addr} {xs : List Int} (h : OwnE t w B A n c xs) {k : Nat} (hk : k < n) :
    ∃ g, A = some ⟨g, 0, none⟩ ∧ B ≤ g ∧ g < w.heap.size ∧ OwnT t w B (.slice (some ⟨g, 0, none⟩) n c) xs ∧ w.cell? ⟨g, k, none⟩ = some (.int .i64 (xs.getD k 0)) ∧ w.frozen? ⟨g, k, none⟩ = false := by
  rcases h with h | ⟨h0, _⟩
  · have hl := h.len
    rcases h.2 with ⟨hv, h0⟩ | ⟨g, cap, cur, hv, hg, hh, r⟩
    · omega
    · injection hv with e1 e2 e3
      subst e1
      refine ⟨g, rfl, hg, (Array.getElem?_eq_some_iff.1 hh).1, h, h.cellAt ?_, h.frozenAt k⟩
      rw [List.getD, List.getElem?_eq_getElem (by omega)]; rfl
  · omega

theorem ownE_aside {t u : TypeId} {w : World} {B B' g n c N M : Nat} {A : Option Addr} {xs ys : List Int} (h : OwnE t w B A n c xs) (h' : OwnT u w B' (.slice (some ⟨g, 0, none⟩) N M) ys) (hne : t ≠ u) (k : Nat) (v : Value) : OwnE t (w.setCell ⟨g, k, none⟩ v) B A n c xs := by
  rcases Nat.eq_zero_or_pos n with h0 | h0
  · subst h0
    exact .inr ⟨rfl, List.eq_nil_of_length_eq_zero h.rd.1⟩
  · obtain ⟨g', rfl, _, _, h2, _⟩ := ownE_at h h0
    exact .inl (h2.aside (p := ⟨g, k, none⟩) (fun e => own_apart h2 h' hne e.symm) v)

theorem keeps_few (A B : Option Addr) (n c m k : Nat) (s d : List Int) (w : World) (hn : n ≤ maxLen) (hm : m ≤ maxLen) (h : RdA w A n B m s d) (hf : smlA s d 300 = false) :
    Calls Try.prog 7 #[.agg #[.slice A n c, .slice B m k]] w (Holds w) := by
  have P1 := fun W h => Lib.hid (hf ▸ refSmallA_any A B n c m k s d 300 W hn hm h (by omega) (by omega))
  have K0 := Lib.hid (keep_new (c := c) (k := k) h 25)
  clear h hf
  go_enter Try.func7, Try.ntmps7
  go_wp2_with fail
  refine (awake_true _).mono ?_
  rintro e w1 ⟨rfl, hb⟩
  have K1 := Lib.hid (K0.out.call hb)
  obtain ⟨k1, k2, _⟩ := K1.out.box
  clear hb K0
  go_wp2_with fail
  refine (P1 _ K1.out.rd).out.mono ?_
  rintro e w2 ⟨rfl, hb⟩
  have K2 := Lib.hid (K1.out.call hb)
  clear hb K1 k1 k2
  go_wp2_with fail
  refine (awake_true _).mono ?_
  rintro e w3 ⟨rfl, hb⟩
  have K3 := Lib.hid (K2.out.call hb)
  clear hb K2
  go_wp2_with fail
  go_ret
  exact ⟨rfl, K3.out.aft⟩

set_option maxHeartbeats 4000000 in
set_option maxRecDepth 100000 in
theorem keeps_some (A B : Option Addr) (n c m k : Nat) (s d : List Int) (w : World) (h : RdA w A n B m s d) (hf : smlA s d 300 = true) :
    Calls Try.prog 7 #[.agg #[.slice A n c, .slice B m k]] w (Holds w) := by
  obtain ⟨hsb, hc0⟩ : smlB s 300 = true ∧ chkA s d = 0 := by
    unfold smlA at hf
    simpa using hf
  have hsb' := of_decide_eq_true hsb
  have hn : n ≤ 6 := by rw [← h.s.1]; exact hsb'.1
  have hm : m ≤ 300 := by have := (chkA_0 hc0).2; rw [h.d.1] at this; omega
  have hn' : n ≤ maxLen := by unfold maxLen; omega
  have hm' : m ≤ maxLen := by unfold maxLen; omega
  have P1 := fun W h => Lib.hid (hf ▸ refSmallA_any A B n c m k s d 300 W hn' hm' h (by omega) (by omega))
  have P2 := fun W h => Lib.hid (refCopyA_any A B n c m k s d W (by omega) (by omega) h)
  have P3 := fun A' B' c' k' W h => Lib.hid (new_right A' B' n c' m k' s d W (by omega) (by omega) h hc0)
  have P4 := fun A' B' c' k' W h => Lib.hid (copy_any A' B' n c' m k' s d W (by omega) (by omega) h)
  have P5 := fun B' k' W h => Lib.hid (vector_any B' m k' d W (by omega) h)
  have P6 := fun A' B' c' k' W h => Lib.hid (refArrEqual_at (A := A') (B := B') (A' := A) (B' := B) (n := n) (c := c') (m := m) (k := k') (n' := n) (c' := c) (m' := m) (k' := k) (s := s) (d := d) (s' := s) (d' := d) (w := W) true eqA_of hn' hm' hn' hm' h)
  have P8 := fun A1 B1 c1 k1 A2 c2 W h h' => Lib.hid (refArrEqual_at (A := A1) (B := B1) (A' := A2) (B' := B) (n := 1) (c := c1) (m := m) (k := k1) (n' := 1) (c' := c2) (m' := m) (k' := k) (s := [(m : Int)]) (d := d) (s' := [(m : Int)]) (d' := d) (w := W) true eqA_of (by decide) hm' (by decide) hm' h h')
  have K0 := Lib.hid (keep_new (c := c) (k := k) h 25)
  have HX0 := Lib.hid h
  clear h hf hsb hc0 hsb' hn' hm'
  go_enter Try.func7, Try.ntmps7
  go_wp2_with fail
  refine (awake_true _).mono ?_
  rintro e w1 ⟨rfl, hb⟩
  have K1 := Lib.hid (K0.out.call hb)
  obtain ⟨k1, k2, _⟩ := K1.out.box
  clear hb K0
  go_wp2_with fail
  refine (P1 _ K1.out.rd).out.mono ?_
  rintro e w2 ⟨rfl, hb⟩
  have K2 := Lib.hid (K1.out.call hb)
  clear k1 k2
  obtain ⟨k1, k2, _⟩ := K2.out.box
  clear hb K1 P1
  go_wp2_with fail
  -- own := ref.Copy(a)
  refine (P2 _ K2.out.rd).out.mono ?_
  rintro e w3 ⟨PA, pa, PB, pb, rfl, hoA, hoB, hb⟩
  have hbx := one_below w3 #[.slice PA n pa, .slice PB m pb] 25
  have K3 := Lib.hid ((K2.out.call hb).call hbx)
  have OA3 := Lib.hid (hoA.below hbx)
  have OB3 := Lib.hid (hoB.below hbx)
  have X3 := Lib.hid (box2_new w3 (.slice PA n pa) (.slice PB m pb) 25)
  have HLo := Lib.hid (show w.heap.size < w2.heap.size ∧ w2.heap.size ≤ w3.heap.size from ⟨K2.out.box.2.2, hb.size⟩)
  have HH3 := Lib.hid (show w3.heap.size ≤ (w3.alloc (.cells #[.slice PA n pa, .slice PB m pb] 25)).heap.size by simp)
  -- own rows lie below w3.heap.size
  have HLA := Lib.hid (show ∀ g, 0 < n → PA = some ⟨g, 0, none⟩ → g < w3.heap.size from fun g h0 e => by
    obtain ⟨g', e', _, hlt, _⟩ := ownE_at hoA h0
    rw [e] at e'; injection e' with e'; injection e' with e'; rw [e']; exact hlt)
  have HLB := Lib.hid (show ∀ g, 0 < m → PB = some ⟨g, 0, none⟩ → g < w3.heap.size from fun g h0 e => by
    obtain ⟨g', e', _, hlt, _⟩ := ownE_at hoB h0
    rw [e] at e'; injection e' with e'; injection e' with e'; rw [e']; exact hlt)
  clear hb hbx hoA hoB K2 k1 k2 P2
  obtain ⟨x1, x2, _⟩ := X3.out
  go_wp2_with fail
  -- b, e := array.New(own.Shape, own.Data)
  refine (P3 _ _ _ _ _ ⟨OA3.out.rd, OB3.out.rd⟩).out.mono ?_
  rintro e w4 ⟨A4, c4, B4, d4, rfl, h1, h2, hb⟩
  have hbx := one_below w4 #[.slice A4 n c4, .slice B4 m d4] 25
  have K4 := Lib.hid ((K3.out.call hb).call hbx)
  have OA4 := Lib.hid ((OA3.out.below hb).below hbx)
  have OB4 := Lib.hid ((OB3.out.below hb).below hbx)
  have X4 := Lib.hid ((X3.out.below hb).below hbx)
  have RA4 := Lib.hid (((Own.t h1).below hbx).le HH3.out)
  have RB4 := Lib.hid ((h2.below hbx).le HH3.out)
  have Y4 := Lib.hid (box2_new w4 (.slice A4 n c4) (.slice B4 m d4) 25)
  have H4 := Lib.hid (show w3.heap.size ≤ w4.heap.size from Nat.le_trans HH3.out hb.size)
  clear x1 x2
  have X4' := Lib.hid (X3.out.below hb)
  obtain ⟨x1, x2, _⟩ := X4'.out
  clear hb hbx h1 h2 K3 OA3 OB3 X3 P3
  go_wp2_with fail
  -- c := array.Copy(own)
  refine (P4 _ _ _ _ _ ⟨OA4.out.rd, OB4.out.rd⟩).out.mono ?_
  rintro e w5 ⟨A5, c5, B5, d5, rfl, h1, h2, hb⟩
  have hbx := one_below w5 #[.slice A5 n c5, .slice B5 m d5] 25
  have K5 := Lib.hid ((K4.out.call hb).call hbx)
  have OA5 := Lib.hid ((OA4.out.below hb).below hbx)
  have OB5 := Lib.hid ((OB4.out.below hb).below hbx)
  have X5 := Lib.hid ((X4.out.below hb).below hbx)
  have RA5 := Lib.hid ((RA4.out.below hb).below hbx)
  have RB5 := Lib.hid ((RB4.out.below hb).below hbx)
  have Y5 := Lib.hid ((Y4.out.below hb).below hbx)
  have H45 := Lib.hid (show w3.heap.size ≤ w5.heap.size from by have := hb.size; have := H4.out; simp at *; omega)
  have SA5 := Lib.hid (((Own.t h1).below hbx).le (show w3.heap.size ≤ _ from by have := H4.out; simp; omega))
  have SB5 := Lib.hid ((h2.below hbx).le (show w3.heap.size ≤ _ from by have := H4.out; simp; omega))
  have Z5 := Lib.hid (box2_new w5 (.slice A5 n c5) (.slice B5 m d5) 25)
  clear x1 x2
  have X5' := Lib.hid (X4.out.below hb)
  obtain ⟨x1, x2, _⟩ := X5'.out
  clear hb hbx h1 h2 K4 OA4 OB4 X4 X4' RA4 RB4 Y4 P4
  go_wp2_with fail
  -- v := array.Vector(own.Data...)
  refine (P5 _ _ _ OB5.out.rd).out.mono ?_
  rintro e w6 ⟨A6, c6, B6, d6, rfl, h1, h2, hb⟩
  obtain ⟨U, hU⟩ : ∃ U, U = w6.alloc (.cells #[.slice A6 1 c6, .slice B6 m d6] 25) := ⟨_, rfl⟩
  have hbx : Below w6.heap.size w6 U := by rw [hU]; exact one_below _ _ _
  have H6 := Lib.hid (show w3.heap.size ≤ w6.heap.size from by have := hb.size; have := H45.out; simp at *; omega)
  have K6 := Lib.hid ((K5.out.call hb).call hbx)
  have OA6 := Lib.hid ((OA5.out.below hb).below hbx)
  have OB6 := Lib.hid ((OB5.out.below hb).below hbx)
  have X6 := Lib.hid ((X5.out.below hb).below hbx)
  have RA6 := Lib.hid ((RA5.out.below hb).below hbx)
  have RB6 := Lib.hid ((RB5.out.below hb).below hbx)
  have Y6 := Lib.hid ((Y5.out.below hb).below hbx)
  have SA6 := Lib.hid ((SA5.out.below hb).below hbx)
  have SB6 := Lib.hid ((SB5.out.below hb).below hbx)
  have Z6 := Lib.hid ((Z5.out.below hb).below hbx)
  have TA6 := Lib.hid (((Own.t h1).below hbx).le (show w3.heap.size ≤ _ from by have := H45.out; simp; omega))
  have TB6 := Lib.hid ((h2.below hbx).le (show w3.heap.size ≤ _ from by have := H45.out; simp; omega))
  have V6 := Lib.hid (show Box2 U w6.heap.size (.slice A6 1 c6) (.slice B6 m d6) by rw [hU]; exact box2_new _ _ _ _)
  have HU := Lib.hid hU
  clear hb hbx h1 h2 hU x1 x2 K5 OA5 OB5 X5 X5' RA5 RB5 Y5 SA5 SB5 Z5 P5
  go_wp2_with fail
  rw [← HU.out]
  go_loopw [8] (fun i wr => ∃ j : Nat, j ≤ n ∧ i = .int .i64 j ∧ Hid (∃ xs, OwnE 3 wr w2.heap.size PA n pa xs) ∧ Hid (OwnE 2 wr w2.heap.size PB m pb d) ∧ Hid (Out w2.heap.size w3.heap.size U wr)) (fun i _ => n - (intOf i).toNat)
  case atStart => exact ⟨0, Nat.zero_le _, rfl, Lib.hid ⟨_, OA6.out⟩, OB6, Lib.hid (Out.refl _ _ _)⟩
  case round =>
    obtain ⟨j, hj, rfl, HA, HB, HO⟩ := hrel
    obtain ⟨x1, x2, _⟩ := HO.out.box X6.out (.inr (Nat.le_refl _))
    by_cases hlt : j < n
    · obtain ⟨xs, hxs⟩ := HA.out
      obtain ⟨g, hPA, hg1, hg2, how, hcg, hfg⟩ := ownE_at hxs hlt
      have hg3 := HLA.out g (by omega) hPA
      subst hPA
      have HOW := Lib.hid how
      have HG := Lib.hid (And.intro hg1 hg3)
      have hji : (j : Int) < (n : Int) := by omega
      generalize xs.getD j 0 = y at *
      clear hxs how hg1 hg2 hg3
      go_wp2_with fail
      go_roundw
      case rel => exact ⟨j + 1, by omega, by go_num, Lib.hid ⟨_, .inl (HOW.out.set_ j _)⟩, Lib.hid (ownE_aside HB.out HOW.out (by decide) j _), Lib.hid (HO.out.setCell HG.out.1 HG.out.2 j _)⟩
      case measure => first | (simp [intOf]; done) | (simp [intOf]; omega)
    · go_wp2_with fail
      go_loopw [9] (fun i wr => ∃ j : Nat, j ≤ m ∧ i = .int .i64 j ∧ Hid (∃ ys, OwnE 2 wr w2.heap.size PB m pb ys) ∧ Hid (Out w2.heap.size w3.heap.size U wr)) (fun i _ => m - (intOf i).toNat)
      case atStart => exact ⟨0, Nat.zero_le _, rfl, Lib.hid ⟨_, HB.out⟩, HO⟩
      case round =>
        clear x1 x2 HA HB HO
        obtain ⟨j2, hj2, rfl, HB, HO⟩ := hrel
        obtain ⟨x1, x2, _⟩ := HO.out.box X6.out (.inr (Nat.le_refl _))
        by_cases hlt2 : j2 < m
        · obtain ⟨ys, hys⟩ := HB.out
          obtain ⟨g, hPB, hg1, hg2, how, hcg, hfg⟩ := ownE_at hys hlt2
          have hg3 := HLB.out g (by omega) hPB
          subst hPB
          have HOW := Lib.hid how
          have HG := Lib.hid (And.intro hg1 hg3)
          have hji : (j2 : Int) < (m : Int) := by omega
          generalize ys.getD j2 0 = y at *
          clear hys how hg1 hg2 hg3
          go_wp2_with fail
          go_roundw
          case rel => exact ⟨j2 + 1, by omega, by go_num, Lib.hid ⟨_, .inl (HOW.out.set_ j2 _)⟩, Lib.hid (HO.out.setCell HG.out.1 HG.out.2 j2 _)⟩
          case measure => first | (simp [intOf]; done) | (simp [intOf]; omega)
        · have hO := HO.out
          have hAf := hO.aft K6.out.aft (Nat.le_of_lt HLo.out.1)
          have HAf := Lib.hid hAf
          have HX := Lib.hid (HX0.out.below hAf)
          have Q0 := Lib.hid (hO.box K6.out.box (.inl HLo.out.1))
          have Q4 := Lib.hid (hO.box Y6.out (.inr H4.out))
          have Q5 := Lib.hid (hO.box Z6.out (.inr H45.out))
          have Q6 := Lib.hid (hO.box V6.out (.inr H6.out))
          have R4 := Lib.hid (show RdA wr A4 n B4 m s d from ⟨(hO.own RA6.out (Nat.le_refl _)).rd, (hO.own RB6.out (Nat.le_refl _)).rd⟩)
          have R5 := Lib.hid (show RdA wr A5 n B5 m s d from ⟨(hO.own SA6.out (Nat.le_refl _)).rd, (hO.own SB6.out (Nat.le_refl _)).rd⟩)
          have R6 := Lib.hid (show RdA wr A6 1 B6 m [(m : Int)] d from ⟨(hO.own TA6.out (Nat.le_refl _)).rd, (hO.own TB6.out (Nat.le_refl _)).rd⟩)
          have KC : ∀ V, Below wr.heap.size wr V → V.cell? ⟨w.heap.size, 0, none⟩ = some (.slice A n c) ∧ V.cell? ⟨w.heap.size, 1, none⟩ = some (.slice B m k) ∧ V.cell? ⟨w4.heap.size, 0, none⟩ = some (.slice A4 n c4) ∧ V.cell? ⟨w4.heap.size, 1, none⟩ = some (.slice B4 m d4) ∧ V.cell? ⟨w5.heap.size, 0, none⟩ = some (.slice A5 n c5) ∧ V.cell? ⟨w5.heap.size, 1, none⟩ = some (.slice B5 m d5) ∧ V.cell? ⟨w6.heap.size, 0, none⟩ = some (.slice A6 1 c6) ∧ V.cell? ⟨w6.heap.size, 1, none⟩ = some (.slice B6 m d6) := fun V h =>
            ⟨(Q0.out.below h).1, (Q0.out.below h).2.1, (Q4.out.below h).1, (Q4.out.below h).2.1, (Q5.out.below h).1, (Q5.out.below h).2.1, (Q6.out.below h).1, (Q6.out.below h).2.1⟩
          have HKC := Lib.hid KC
          obtain ⟨k1, k2, k3, k4, k5, k6, k7, k8⟩ := KC wr (Below.refl _ _)
          clear hO hAf KC K6 OA6 OB6 X6 RA6 RB6 Y6 SA6 SB6 Z6 TA6 TB6 V6 HB HO
          go_wp2_with fail
          refine ((P6 _ _ _ _ _ R4.out).out HX.out).mono ?_
          rintro e v1 ⟨rfl, h3⟩
          have HK1 := Lib.hid (below_step (W := wr) (Below.refl _ _) h3)
          clear k1 k2 k3 k4 k5 k6 k7 k8
          obtain ⟨k1, k2, k3, k4, k5, k6, k7, k8⟩ := HKC.out _ HK1.out
          clear h3
          go_wp2_with fail
          refine ((P6 _ _ _ _ _ (R5.out.below HK1.out)).out (HX.out.below HK1.out)).mono ?_
          rintro e v2 ⟨rfl, h3⟩
          have HK2 := Lib.hid (below_step (W := wr) HK1.out h3)
          clear k1 k2 k3 k4 k5 k6 k7 k8
          obtain ⟨k1, k2, k3, k4, k5, k6, k7, k8⟩ := HKC.out _ HK2.out
          obtain ⟨q1, q2, q3, q4, q5, q6, q7, q8⟩ := HKC.out _ (below_more HK2.out (.cells #[.int .i64 (m : Int)] 3))
          clear h3
          go_wp2_with fail
          have HLL := Lib.hid (show Rd (v2.alloc (.cells #[.int .i64 (m : Int)] 3)) (some ⟨v2.heap.size, 0, none⟩) 1 [(m : Int)] from rd_new v2 _ [(m : Int)])
          have HLD := Lib.hid (HX.out.below (below_more HK2.out (.cells #[.int .i64 (m : Int)] 3)))
          have HVV := Lib.hid (R6.out.below (below_more HK2.out (.cells #[.int .i64 (m : Int)] 3)))
          refine (P8 _ _ _ _ _ _ _ HVV.out (RdA.mk HLL.out HLD.out.d)).out.mono ?_
          rintro e v3 ⟨rfl, h3⟩
          clear q1 q2 q3 q4 q5 q6 q7 q8
          have HK3 := Lib.hid (below_step (W := wr) (below_more HK2.out _) h3)
          clear k1 k2 k3 k4 k5 k6 k7 k8
          obtain ⟨k1, k2, k3, k4, k5, k6, k7, k8⟩ := HKC.out _ HK3.out
          clear h3
          go_wp2_with fail
          go_ret
          exact ⟨rfl, HAf.out.call HK3.out⟩

theorem walk_ArrayKeeps (A B : Option Addr) (n c m k : Nat) (s d : List Int) (w : World) (hs : In w A n c s) (hd : In w B m k d) :
    Calls Try.prog 7 #[.agg #[.slice A n c, .slice B m k]] w (Holds w) := by
  have h : RdA w A n B m s d := ⟨hs.rd, hd.rd⟩
  cases hf : smlA s d 300
  · exact keeps_few A B n c m k s d w hs.len hd.len h hf
  · exact keeps_some A B n c m k s d w h hf
end Go.Proofs.Ytbadbjcommdjgaa.laws
