/- The walk of GammaDots. -/
import Derived.Test.YtehpigijlgkokaaGammaAwake
import Derived.Test.YtehpigijlgkokaaRefStrides
namespace Go.Proofs.Ytehpigijlgkokaa.laws
open Go.ChangeShapes Go.WideShapes Go.ChangeAt Go.RowKit Go.Proofs.Ytehpigijlgkokaa.mem Go.Proofs.Ytehpigijlgkokaa.shp Go.Proofs.Ytehpigijlgkokaa.eql Go.Proofs.Ytehpigijlgkokaa.strd Go.Proofs.Ytehpigijlgkokaa.gam
set_option linter.unusedVariables false

/-- A slice of int16 that came in: it reads as the list. -/
structure In16 (w : World) (A : Option Addr) (n c : Nat) (xs : List Int) : Prop where
  len : xs.length = n
  rd : ∀ k, k < n → ∃ ad, A = some ad ∧ ad.block < w.heap.size ∧ w.cell? (ad.add k) = some (.int .i16 (xs.getD k 0))
  le : n ≤ c
  max : c ≤ maxLen
  fit : ∀ x ∈ xs, -32768 ≤ x ∧ x ≤ 32767
theorem In16.below {w w' : World} {A : Option Addr} {n c : Nat} {xs : List Int} (h : In16 w A n c xs) (hb : Below w.heap.size w w') : In16 w' A n c xs :=
  ⟨h.len, fun k hk => by
    obtain ⟨ad, ha, hlt, hc⟩ := h.rd k hk
    exact ⟨ad, ha, Nat.lt_of_lt_of_le hlt hb.size, (hb.cell (by rw [blk_add]; exact hlt)).trans hc⟩, h.le, h.max, h.fit⟩
theorem In16.at_ {w : World} {A : Option Addr} {n c : Nat} {xs : List Int} (h : In16 w A n c xs) {k : Nat} (hk : k < n) :
    ∃ ad x, A = some ad ∧ xs[k]? = some x ∧ w.cell? (ad.add k) = some (.int .i16 x) := by
  obtain ⟨ad, ha, _, hc⟩ := h.rd k hk
  have hl : k < xs.length := by rw [h.len]; exact hk
  refine ⟨ad, xs[k], ha, List.getElem?_eq_getElem hl, ?_⟩
  rw [hc, List.getD, List.getElem?_eq_getElem hl]; rfl
theorem in16_of_row {w : World} {a : Option Addr} {len cap : Nat} {zs : List Int}
    (h : (a = none ∧ len = 0 ∧ cap = 0 ∧ zs = []) ∨
      ∃ x, a = some x ∧ len ≤ cap ∧ cap ≤ maxLen ∧ zs.length = cap ∧ (∀ i, i < zs.length → w.cell? (x.add i) = some (.int .i16 (zs.getD i 0))) ∧ ∀ n ∈ zs, (Lit.int .i16 n).wf = true) :
    In16 w a len cap (zs.take len) := by
  rcases h with ⟨rfl, rfl, rfl, rfl⟩ | ⟨x, rfl, h1, h2, h3, h4, h5⟩
  · exact ⟨rfl, fun k hk => absurd hk (by omega), Nat.zero_le _, Nat.zero_le _, fun x hx => by simp at hx⟩
  · refine ⟨by rw [List.length_take]; omega, fun k hk => ⟨x, rfl, ?_, ?_⟩, h1, h2, fun y hy => Go.bounds_i16 (h5 y (List.mem_of_mem_take hy))⟩
    · have := World.block_lt_of_cell? _ _ (h4 k (by omega))
      have e : (x.add k).block = x.block := by unfold Addr.add; split <;> rfl
      rwa [e] at this
    · rw [h4 k (by omega)]
      simp [hk]

set_option maxHeartbeats 1000000 in
theorem wide_any (A : Option Addr) (n c : Nat) (xs : List Int) (w : World) (hx : In16 w A n c xs) (h100 : n ≤ 100) :
    Calls Try.prog 20 #[.slice A n c] w (Makes w xs) := by
  have HX := Lib.hid hx; clear hx
  go_enter Try.func20, Try.ntmps20
  go_wp2_with fail
  go_loopw [3, 4] (fun v i wr => ∃ k : Nat, k ≤ n ∧ i = .int .i64 k ∧ Own wr w.heap.size v (xs.take k) ∧ Below w.heap.size w wr) (fun _ i _ => n - (intOf i).toNat)
  case atStart => exact ⟨0, Nat.zero_le _, rfl, by simpa using own_nil _ _, Below.refl _ _⟩
  case round =>
    obtain ⟨k, hk, rfl, hown, hbel⟩ := hrel
    by_cases hlt : k < n
    · obtain ⟨ad, x, rfl, hx, hcell⟩ := (HX.out.below hbel).at_ hlt
      have hf := HX.out.fit x (mem_at hx)
      have hf1 := hf.1
      have hf2 := hf.2
      have HLn := Lib.hid (show (xs.take k).length < 1099511627776 by rw [List.length_take]; omega)
      have HN := Lib.hid (take_snoc hx)
      clear hf hx
      go_wp2_with (at_builtin; refine wpList_push rfl (.tmp 11) (.tmp 17) rfl _ _ rfl hown hbel _ _ rfl HLn.out ?_; intro v2 w2 hown2 hbel2)
      go_roundw
      case rel => exact ⟨k + 1, by omega, by go_num, by rw [HN.out]; exact hown2, hbel2⟩
      case measure => first | (simp [intOf]; done) | (simp [intOf]; omega)
    · have HE := Lib.hid (show xs.take k = xs by rw [List.take_of_length_le (by rw [HX.out.len]; omega)])
      go_wp2_with fail
      go_ret
      rw [HE.out] at hown
      exact ⟨_, rfl, hown, hbel⟩

/-- A list is long, or the shape is wrong: awake again. -/
theorem dots_wrong (A B C : Option Addr) (n c m d l e : Nat) (us vs xs : List Int) (o : Int) (w : World) (hu : In16 w A n c us) (hv : In16 w B m d vs) (hx : In w C l e xs) (h : 100 < n ∨ 100 < m ∨ ¬ chkE xs = 0) :
    Calls Try.prog 5 #[.slice A n c, .slice B m d, .slice C l e, .int .u16 o] w (Holds w) := by
  have PC := fun W h => refCheck_any C l e xs W hx.len h
  have HX := Lib.hid hx.rd; clear hx hu hv
  by_cases hn : 100 < n
  · clear h PC
    go_enter Try.func5, Try.ntmps5
    go_wp2_with fail
    refine (awake_true _).mono ?_
    rintro e w1 ⟨rfl, hb⟩
    have T1 := Lib.hid ((Aft.refl w).call hb)
    clear hb
    go_wp2_with fail
    refine (awake_true _).mono ?_
    rintro e w2 ⟨rfl, hb⟩
    have T2 := Lib.hid (T1.out.call hb)
    clear hb
    go_wp2_with fail
    go_ret
    exact ⟨rfl, T2.out⟩
  · by_cases hm : 100 < m
    · clear h PC
      go_enter Try.func5, Try.ntmps5
      go_wp2_with fail
      refine (awake_true _).mono ?_
      rintro e w1 ⟨rfl, hb⟩
      have T1 := Lib.hid ((Aft.refl w).call hb)
      clear hb
      go_wp2_with fail
      refine (awake_true _).mono ?_
      rintro e w2 ⟨rfl, hb⟩
      have T2 := Lib.hid (T1.out.call hb)
      clear hb
      go_wp2_with fail
      go_ret
      exact ⟨rfl, T2.out⟩
    · have h0 : ¬ chkE xs = 0 := by omega
      have h01 : (chkE xs != 0) = true := by simpa using h0
      clear h h0
      generalize chkE xs = E at *
      have PC := fun W h => Lib.hid (PC W h)
      rename_i q1; clear q1
      go_enter Try.func5, Try.ntmps5
      go_wp2_with fail
      refine (awake_true _).mono ?_
      rintro e w1 ⟨rfl, hb⟩
      have T1 := Lib.hid ((Aft.refl w).call hb)
      clear hb
      go_wp2_with fail
      refine (PC _ (T1.out.rd HX.out)).out.mono ?_
      rintro e w' ⟨rfl, rfl⟩
      go_wp2_with fail
      refine (awake_true _).mono ?_
      rintro e w2 ⟨rfl, hb⟩
      have T2 := Lib.hid (T1.out.call hb)
      clear hb
      go_wp2_with fail
      go_ret
      exact ⟨rfl, T2.out⟩

set_option maxHeartbeats 4000000 in
theorem dots_right (A B C : Option Addr) (n c m d l e : Nat) (us vs xs : List Int) (o : Int) (w : World) (hu : In16 w A n c us) (hv : In16 w B m d vs) (hx : In w C l e xs) (hn : n ≤ 100) (hm : m ≤ 100) (h0 : chkE xs = 0) (ho0 : 0 ≤ o) (ho1 : o ≤ 65535) :
    Calls Try.prog 5 #[.slice A n c, .slice B m d, .slice C l e, .int .u16 o] w (Holds w) := by
  have hl16 : l ≤ 16 := by have := (chk_len h0).1; rw [hx.rd.1] at this; exact this
  have PC := fun W h => refCheck_any C l e xs W hx.len h
  rw [h0] at PC
  have PU := fun W h => wide_any A n c us W h hn
  have PV := fun W h => wide_any B m d vs W h hm
  have bu : ∀ x ∈ us, -65536 ≤ x ∧ x ≤ 65536 := fun x h => by have := hu.fit x h; omega
  have bv : ∀ x ∈ vs, -65536 ≤ x ∧ x ≤ 65536 := fun x h => by have := hv.fit x h; omega
  have P1 := fun W P k Q j h1 h2 => dot_any P Q n k m j us vs W (by unfold maxLen; omega) (by unfold maxLen; omega) h1 h2 (.inl hn) bu bv
  have P2 := fun W P k Q j h1 h2 => refDot_any P Q n k m j us vs W (by unfold maxLen; omega) (by unfold maxLen; omega) h1 h2 (.inl hn) bu bv
  have P3 := fun W P k Q j h1 h2 => dot_any P Q m k n j vs us W (by unfold maxLen; omega) (by unfold maxLen; omega) h1 h2 (.inl hm) bv bu
  rw [dot_comm vs us] at P3
  have PI := fun W h => index_any C l e xs o W hx.len h h0
  have PS := fun W h => refStrides_any C l e xs W hx.len h
  have HX := Lib.hid hx.rd
  have HU := Lib.hid hu
  have HV := Lib.hid hv
  have HLU := Lib.hid hu.len
  have HLV := Lib.hid hv.len
  have HLX := Lib.hid hx.rd.1
  clear hu hv hx bu bv
  generalize dotL us vs = r at *
  have PC := fun W h => Lib.hid (PC W h)
  have PU := fun W h => Lib.hid (PU W h)
  have PV := fun W h => Lib.hid (PV W h)
  have P1 := fun W P k Q j h1 h2 => Lib.hid (P1 W P k Q j h1 h2)
  have P2 := fun W P k Q j h1 h2 => Lib.hid (P2 W P k Q j h1 h2)
  have P3 := fun W P k Q j h1 h2 => Lib.hid (P3 W P k Q j h1 h2)
  rename_i q1 q2 q3 q4 q5 q6; clear q1 q2 q3 q4 q5 q6
  cases hi : inB xs o
  · have e1 : idxN xs o = [] := by unfold idxN; rw [hi]; rfl
    rw [hi, e1] at PI
    have PI := fun W h1 => Lib.hid (PI W h1)
    rename_i q1; clear q1 e1 hi h0 PS
    go_enter Try.func5, Try.ntmps5
    go_wp2_with fail
    refine (awake_true _).mono ?_
    rintro e w1 ⟨rfl, hb⟩
    have T1 := Lib.hid ((Aft.refl w).call hb)
    clear hb
    go_wp2_with fail
    refine (PC _ (T1.out.rd HX.out)).out.mono ?_
    rintro e w' ⟨rfl, rfl⟩
    go_wp2_with fail
    refine (PU _ (HU.out.below T1.out)).out.mono ?_
    intro e w2 hm
    obtain ⟨P, k, rfl, ho, hb, _, _, _⟩ := hm.out
    have T2 := Lib.hid (T1.out.call hb)
    have R2 := Lib.hid ho.rd
    rw [HLU.out] at R2
    simp only [HLU.out]
    clear hm ho hb
    go_wp2_with fail
    refine (PV _ (HV.out.below T2.out)).out.mono ?_
    intro e w3 hm
    obtain ⟨Q, j, rfl, ho, hb, _, _, _⟩ := hm.out
    have T3 := Lib.hid (T2.out.call hb)
    have R3 := Lib.hid ho.rd
    have R23 := Lib.hid (R2.out.below hb)
    rw [HLV.out] at R3
    simp only [HLV.out]
    clear hm ho hb
    go_wp2_with fail
    refine (P1 _ _ _ _ _ R23.out R3.out).out.mono ?_
    rintro e w4 ⟨rfl, q, hq⟩
    have T4 := Lib.hid (show Aft w w4 by rw [hq]; exact T3.out.drew q)
    have U4 := Lib.hid (show Aft w3 w4 by rw [hq]; exact (Aft.refl w3).drew q)
    clear hq
    go_wp2_with fail
    refine (P2 _ _ _ _ _ (U4.out.rd R23.out) (U4.out.rd R3.out)).out.mono ?_
    rintro e w5 ⟨rfl, q, hq⟩
    have T5 := Lib.hid (show Aft w w5 by rw [hq]; exact T4.out.drew q)
    have U5 := Lib.hid (show Aft w3 w5 by rw [hq]; exact U4.out.drew q)
    clear hq
    go_wp2_with fail
    refine (P3 _ _ _ _ _ (U5.out.rd R3.out) (U5.out.rd R23.out)).out.mono ?_
    rintro e w6 ⟨rfl, q, hq⟩
    have T6 := Lib.hid (show Aft w w6 by rw [hq]; exact T5.out.drew q)
    have U6 := Lib.hid (show Aft w3 w6 by rw [hq]; exact U5.out.drew q)
    clear hq
    go_wp2_with fail
    refine (P1 _ _ _ _ _ (U6.out.rd R23.out) (U6.out.rd R3.out)).out.mono ?_
    rintro e w7 ⟨rfl, q, hq⟩
    have T7 := Lib.hid (show Aft w w7 by rw [hq]; exact T6.out.drew q)
    clear hq
    go_wp2_with fail
    refine (PI _ (T7.out.rd HX.out)).out.mono ?_
    intro e w8 hm
    obtain ⟨P8, k8, rfl, ho, hb, _, _, _⟩ := hm.out
    have T8 := Lib.hid (T7.out.call hb)
    clear hm ho hb
    go_wp2_with fail
    go_ret
    exact ⟨rfl, T8.out⟩
  · have e1 : idxN xs o = idxL xs o := by unfold idxN; rw [if_pos hi]
    obtain ⟨hp, hp0, hp1, hp2⟩ := in_ones h0 hi
    have er := idx_right hp hp0 hp1
    have P4 := fun W P k Q j h1 h2 => dot_any P Q l k l j (strL xs) (idxL xs o) W (by unfold maxLen; omega) (by unfold maxLen; omega) h1 h2 (.inl (by omega)) (str_range h0) fun y hy => by have := vld_le er.1 (fun x hx => (chk_all h0 x hx).2) y hy; omega
    have f1 : dotL (strL xs) (idxL xs o) = o := by rw [str_some h0 hp, dot_str, er.2]
    rw [f1] at P4
    have HLS := Lib.hid (show (strL xs).length = l by rw [str_len h0, HLX.out])
    have HLI := Lib.hid (show (idxL xs o).length = l by rw [idx_len, HLX.out])
    rw [hi, e1] at PI
    clear f1 e1 er hp hp0 hp1 hp2 hi h0
    generalize strL xs = S at *
    generalize idxL xs o = I at *
    have PI := fun W h1 => Lib.hid (PI W h1)
    have PS := fun W h1 => Lib.hid (PS W h1)
    have P4 := fun W P k Q j h1 h2 => Lib.hid (P4 W P k Q j h1 h2)
    rename_i q1 q2 q3; clear q1 q2 q3
    go_enter Try.func5, Try.ntmps5
    go_wp2_with fail
    refine (awake_true _).mono ?_
    rintro e w1 ⟨rfl, hb⟩
    have T1 := Lib.hid ((Aft.refl w).call hb)
    clear hb
    go_wp2_with fail
    refine (PC _ (T1.out.rd HX.out)).out.mono ?_
    rintro e w' ⟨rfl, rfl⟩
    go_wp2_with fail
    refine (PU _ (HU.out.below T1.out)).out.mono ?_
    intro e w2 hm
    obtain ⟨P, k, rfl, ho, hb, _, _, _⟩ := hm.out
    have T2 := Lib.hid (T1.out.call hb)
    have R2 := Lib.hid ho.rd
    rw [HLU.out] at R2
    simp only [HLU.out]
    clear hm ho hb
    go_wp2_with fail
    refine (PV _ (HV.out.below T2.out)).out.mono ?_
    intro e w3 hm
    obtain ⟨Q, j, rfl, ho, hb, _, _, _⟩ := hm.out
    have T3 := Lib.hid (T2.out.call hb)
    have R3 := Lib.hid ho.rd
    have R23 := Lib.hid (R2.out.below hb)
    rw [HLV.out] at R3
    simp only [HLV.out]
    clear hm ho hb
    go_wp2_with fail
    refine (P1 _ _ _ _ _ R23.out R3.out).out.mono ?_
    rintro e w4 ⟨rfl, q, hq⟩
    have T4 := Lib.hid (show Aft w w4 by rw [hq]; exact T3.out.drew q)
    have U4 := Lib.hid (show Aft w3 w4 by rw [hq]; exact (Aft.refl w3).drew q)
    clear hq
    go_wp2_with fail
    refine (P2 _ _ _ _ _ (U4.out.rd R23.out) (U4.out.rd R3.out)).out.mono ?_
    rintro e w5 ⟨rfl, q, hq⟩
    have T5 := Lib.hid (show Aft w w5 by rw [hq]; exact T4.out.drew q)
    have U5 := Lib.hid (show Aft w3 w5 by rw [hq]; exact U4.out.drew q)
    clear hq
    go_wp2_with fail
    refine (P3 _ _ _ _ _ (U5.out.rd R3.out) (U5.out.rd R23.out)).out.mono ?_
    rintro e w6 ⟨rfl, q, hq⟩
    have T6 := Lib.hid (show Aft w w6 by rw [hq]; exact T5.out.drew q)
    have U6 := Lib.hid (show Aft w3 w6 by rw [hq]; exact U5.out.drew q)
    clear hq
    go_wp2_with fail
    refine (P1 _ _ _ _ _ (U6.out.rd R23.out) (U6.out.rd R3.out)).out.mono ?_
    rintro e w7 ⟨rfl, q, hq⟩
    have T7 := Lib.hid (show Aft w w7 by rw [hq]; exact T6.out.drew q)
    clear hq
    go_wp2_with fail
    refine (PI _ (T7.out.rd HX.out)).out.mono ?_
    intro e w8 hm
    obtain ⟨P8, k8, rfl, ho, hb, _, _, _⟩ := hm.out
    have T8 := Lib.hid (T7.out.call hb)
    have R8 := Lib.hid ho.rd
    rw [HLI.out] at R8
    simp only [HLI.out]
    clear hm ho hb
    go_wp2_with fail
    refine (PS _ (T8.out.rd HX.out)).out.mono ?_
    intro e w9 hm
    obtain ⟨P9, k9, rfl, ho, hb, _, _, _⟩ := hm.out
    have T9 := Lib.hid (T8.out.call hb)
    have R9 := Lib.hid ho.rd
    have R89 := Lib.hid (R8.out.below hb)
    rw [HLS.out] at R9
    simp only [HLS.out]
    clear hm ho hb
    go_wp2_with fail
    refine (P4 _ _ _ _ _ R9.out R89.out).out.mono ?_
    rintro e w10 ⟨rfl, q, hq⟩
    have T10 := Lib.hid (show Aft w w10 by rw [hq]; exact T9.out.drew q)
    clear hq
    go_wp2_with fail
    go_ret
    exact ⟨rfl, T10.out⟩

theorem walk_GammaDots (A B C : Option Addr) (n c m d l e : Nat) (us vs xs : List Int) (o : Int) (w : World) (hu : In16 w A n c us) (hv : In16 w B m d vs) (hx : In w C l e xs) (ho : (Lit.int .u16 o).wf = true) :
    Calls Try.prog 5 #[.slice A n c, .slice B m d, .slice C l e, .int .u16 o] w (Holds w) := by
  have hb := Go.bounds_u16 ho
  by_cases h : 100 < n ∨ 100 < m ∨ ¬ chkE xs = 0
  · exact dots_wrong A B C n c m d l e us vs xs o w hu hv hx h
  · exact dots_right A B C n c m d l e us vs xs o w hu hv hx (by omega) (by omega) (by omega) hb.1 hb.2
end Go.Proofs.Ytehpigijlgkokaa.laws
