/- The walk of GammaInverse. -/
import Derived.Test.YtehpigijlgkokaaGammaAwake
import Derived.Test.YtehpigijlgkokaaRefAll
namespace Go.Proofs.Ytehpigijlgkokaa.laws
open Go.ChangeShapes Go.WideShapes Go.ChangeAt Go.RowKit Go.Proofs.Ytehpigijlgkokaa.mem Go.Proofs.Ytehpigijlgkokaa.shp Go.Proofs.Ytehpigijlgkokaa.eql Go.Proofs.Ytehpigijlgkokaa.strd Go.Proofs.Ytehpigijlgkokaa.gam Go.Proofs.Ytehpigijlgkokaa.sml Go.Proofs.Ytehpigijlgkokaa.all
set_option linter.unusedVariables false

/-- The number of cells of a right shape is the product of its dimensions. -/
theorem cel_prod {xs : List Int} (h0 : chkE xs = 0) : celN xs = prodL xs := by
  by_cases hc : celN xs = 0
  · by_cases hp : prodL xs = 0
    · omega
    · have := right_ones h0 (prodL_ones (fun x hx => (chk_all h0 x hx).1) hp)
      omega
  · exact (right_some h0 hc).2.1.symm

theorem inverse_wrong (A : Option Addr) (n c : Nat) (xs : List Int) (w : World) (hx : In w A n c xs) (h : smlB xs 300 = false) :
    Calls Try.prog 4 #[.slice A n c] w (Holds w) := by
  have PS := fun W h => small_any A n c xs 300 W hx.len h (by omega) (by omega)
  rw [h] at PS
  have HX := Lib.hid hx.rd
  have PS := fun W h => Lib.hid (PS W h)
  rename_i q1; clear q1 hx h
  go_enter Try.func4, Try.ntmps4
  go_wp2_with fail
  refine (awake_true _).mono ?_
  rintro e w1 ⟨rfl, hb⟩
  have T1 := Lib.hid ((Aft.refl w).call hb)
  clear hb
  go_wp2_with fail
  refine (PS _ (T1.out.rd HX.out)).out.mono ?_
  rintro e w' ⟨rfl, rfl⟩
  go_wp2_with fail
  refine (awake_true _).mono ?_
  rintro e w2 ⟨rfl, hb⟩
  have T2 := Lib.hid (T1.out.call hb)
  clear hb
  go_wp2_with fail
  go_ret
  exact ⟨rfl, T2.out⟩

set_option maxHeartbeats 4000000 in
theorem inverse_right (A : Option Addr) (n c : Nat) (xs : List Int) (w : World) (hx : In w A n c xs) (h : smlB xs 300 = true) :
    Calls Try.prog 4 #[.slice A n c] w (Holds w) := by
  have PS := fun W h => small_any A n c xs 300 W hx.len h (by omega) (by omega)
  rw [h] at PS
  obtain ⟨hl6, h0, hc300, hmx⟩ := of_decide_eq_true h
  have hn6 : n ≤ 6 := by rw [← hx.rd.1]; exact hl6
  have hcp := cel_prod h0
  have ha := chk_all h0
  have PA := fun W h => refAll_any A n c xs W (by omega) h ha fun k => by have := (prodL_take_le (fun x hx => (ha x hx).1) k).2; omega
  obtain ⟨N, hN⟩ : ∃ N, N = (idxs xs).length := ⟨_, rfl⟩
  have hNN : N = (prodL xs).toNat := by rw [hN, idxs_len]
  have hp0 := (prodL_max fun x hx => (ha x hx).1).1
  have hNP : (N : Int) = prodL xs := by omega
  have hN300 : N ≤ 300 := by omega
  have hin : ∀ k : Nat, k < N → inB xs (k : Int) = true := fun k hk => decide_eq_true ⟨by omega, by omega⟩
  have PI : ∀ k : Nat, k < N → ∀ W, Rd W A n xs → Hid (Calls Try.prog 11 #[.slice A n c, .int .i64 (k : Int)] W (MakesB W (idxL xs (k : Int)) true)) := by
    intro k hk W h1
    have h2 := index_any A n c xs (k : Int) W hx.len h1 h0
    have e : idxN xs (k : Int) = idxL xs (k : Int) := by unfold idxN; rw [if_pos (hin k hk)]
    rw [hin k hk, e] at h2
    exact Lib.hid h2
  have PO : ∀ k : Nat, k < N → ∀ W (P : Option Addr) (d : Nat), Rd W A n xs → Rd W P n (idxL xs (k : Int)) → Hid (Calls Try.prog 10 #[.slice A n c, .slice P n d] W (Pair W (k : Int) true)) := by
    intro k hk W P d h1 h2
    obtain ⟨g1, g2, g3, g4⟩ := in_ones h0 (hin k hk)
    have er := idx_right g1 g2 g3
    have h3 := offset_any A P n c n d xs (idxL xs (k : Int)) W hx.len hx.len h1 h2 h0
    have e : offN xs (idxL xs (k : Int)) = (k : Int) := by unfold offN; rw [if_pos er.1]; exact er.2
    rw [e, er.1] at h3
    exact Lib.hid h3
  have PZ : ∀ o : Int, (o < 0 ∨ (N : Int) ≤ o) → ∀ W, Rd W A n xs → Hid (Calls Try.prog 11 #[.slice A n c, .int .i64 o] W (MakesB W [] false)) := by
    intro o ho W h1
    have h2 := index_any A n c xs o W hx.len h1 h0
    have e : inB xs o = false := decide_eq_false (by omega)
    have e2 : idxN xs o = [] := by unfold idxN; rw [e]; rfl
    rw [e, e2] at h2
    exact Lib.hid h2
  have hat : ∀ k : Nat, k < N → (idxs xs)[k]? = some (idxL xs (k : Int)) := fun k hk => idxs_at (by omega)
  have hil : ∀ k : Nat, (idxL xs (k : Int)).length = n := fun k => by rw [idx_len, hx.rd.1]
  have hnm : n ≤ maxLen := hx.len
  have HX := Lib.hid hx.rd
  generalize idxs xs = I at *
  have HNL := Lib.hid hN
  have HAT := Lib.hid hat
  have HIL := Lib.hid hil
  have HPI := Lib.hid PI
  have HPO := Lib.hid PO
  have HPZ := Lib.hid PZ
  have PS := fun W h => Lib.hid (PS W h)
  have PA := fun W h => Lib.hid (PA W h)
  rename_i q1 q2
  clear q1 q2 hx h h0 hcp ha hp0 hin PI PO PZ hat hil hN hNN hNP hmx hl6 hc300
  go_enter Try.func4, Try.ntmps4
  go_wp2_with fail
  refine (awake_true _).mono ?_
  rintro e w1 ⟨rfl, hb⟩
  have T1 := Lib.hid ((Aft.refl w).call hb)
  clear hb
  go_wp2_with fail
  refine (PS _ (T1.out.rd HX.out)).out.mono ?_
  rintro e w' ⟨rfl, rfl⟩
  go_wp2_with fail
  refine (PA _ (T1.out.rd HX.out)).out.mono ?_
  rintro e wl ⟨L, C, rfl, hrm, hlc, hcm, hnone, hb⟩
  rw [← HNL.out] at hrm hlc
  simp only [← HNL.out]
  have HRM := Lib.hid hrm
  have TL := Lib.hid (T1.out.call hb)
  have HLC := Lib.hid hlc
  clear hrm hb hlc hnone
  go_wp2_with fail
  go_loopw [4] (fun i wr => ∃ k : Nat, k ≤ N ∧ i = .int .i64 k ∧ Hid (Aft wl wr)) (fun i _ => N - (intOf i).toNat)
  case atStart => exact ⟨0, Nat.zero_le _, rfl, Lib.hid (Aft.refl _)⟩
  case round =>
    obtain ⟨k, hk, rfl, UL⟩ := hrel
    have T2 := Lib.hid (TL.out.call UL.out)
    by_cases hlt : k < N
    · obtain ⟨adr, P, d, rfl, hlr, hcr, hrp, _, _, _⟩ := HRM.out.at_ (HAT.out k hlt)
      have hI := HPI.out k hlt
      have hO := HPO.out k hlt
      have HI := Lib.hid hI
      have HO := Lib.hid hO
      have hilk := HIL.out k
      rw [hilk] at hcr hrp
      clear hI hO hilk
      have HLK := Lib.hid (HIL.out k)
      generalize idxL xs (k : Int) = p at *
      have HCR := Lib.hid hcr
      have HLR := Lib.hid hlr
      have HRP := Lib.hid hrp
      clear hcr hlr hrp
      have PE : ∀ (P Q : Option Addr) (k l : Nat) (W : World), Rd W P n p → Rd W Q n p → Hid (Calls Try.prog 16 #[.slice P n k, .slice Q n l] W (Says W true)) :=
        fun P Q k l W h1 h2 => Lib.hid (refEqual_at true (eq_of rfl) hnm hnm h1 h2)
      go_wp2_with fail
      refine (HI.out _ (T2.out.rd HX.out)).out.mono ?_
      intro e w3 hm
      obtain ⟨Q, l, rfl, ho, hb, _, _, _⟩ := hm.out
      have T3 := Lib.hid (T2.out.call hb)
      have U3 := Lib.hid (UL.out.call hb)
      have R3 := Lib.hid ho.rd
      rw [HLK.out] at R3
      simp only [HLK.out]
      clear hm ho hb
      have hc3 := (Below.cell (p := adr.add k) U3.out (by rw [blk_add]; exact HLR.out)).trans HCR.out
      go_wp2_with fail
      refine (HO.out _ _ _ (T3.out.rd HX.out) (U3.out.rd HRP.out)).out.mono ?_
      rintro e w4 ⟨rfl, hb⟩
      have T4 := Lib.hid (T3.out.call hb)
      have U4 := Lib.hid (U3.out.call hb)
      have R4 := Lib.hid (R3.out.below hb)
      clear hb hc3
      have hc4 := (Below.cell (p := adr.add k) U4.out (by rw [blk_add]; exact HLR.out)).trans HCR.out
      go_wp2_with fail
      refine (PE _ _ _ _ _ R4.out (U4.out.rd HRP.out)).out.mono ?_
      rintro e w5 ⟨rfl, hb⟩
      have U5 := Lib.hid (U4.out.call hb)
      clear hb hc4
      go_wp2_with fail
      go_roundw
      case rel => exact ⟨k + 1, by omega, by go_num, U5⟩
      case measure => first | (simp [intOf]; done) | (simp [intOf]; omega)
    · obtain rfl : k = N := by omega
      go_wp2_with fail
      refine (HPZ.out _ (.inr (Int.le_refl _)) _ (T2.out.rd HX.out)).out.mono ?_
      intro e w3 hm
      obtain ⟨Q, l, rfl, ho, hb, _, _, _⟩ := hm.out
      have T3 := Lib.hid (T2.out.call hb)
      clear hm ho hb
      go_wp2_with fail
      refine (HPZ.out _ (.inl (by omega)) _ (T3.out.rd HX.out)).out.mono ?_
      intro e w4 hm
      obtain ⟨Q4, l4, rfl, ho, hb, _, _, _⟩ := hm.out
      have T4 := Lib.hid (T3.out.call hb)
      clear hm ho hb
      go_wp2_with fail
      go_ret
      exact ⟨rfl, T4.out⟩

theorem walk_GammaInverse (A : Option Addr) (n c : Nat) (xs : List Int) (w : World) (hx : In w A n c xs) :
    Calls Try.prog 4 #[.slice A n c] w (Holds w) := by
  cases h : smlB xs 300
  · exact inverse_wrong A n c xs w hx h
  · exact inverse_right A n c xs w hx h
end Go.Proofs.Ytehpigijlgkokaa.laws
