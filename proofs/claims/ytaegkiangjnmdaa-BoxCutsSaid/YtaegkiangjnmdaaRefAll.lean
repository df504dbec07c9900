/- The reference's All: all indices of a shape, in order. -/
import Derived.Test.YtaegkiangjnmdaaSmall
import Derived.Test.YtaegkiangjnmdaaMatrix
namespace Go.Proofs.Ytaegkiangjnmdaa.all
open Go.ChangeShapes Go.WideShapes Go.ChangeAt Go.RowKit Go.Proofs.Ytaegkiangjnmdaa.mem Go.Proofs.Ytaegkiangjnmdaa.prod Go.Proofs.Ytaegkiangjnmdaa.shp Go.Proofs.Ytaegkiangjnmdaa.strd Go.Proofs.Ytaegkiangjnmdaa.gam Go.Proofs.Ytaegkiangjnmdaa.sml
set_option linter.unusedVariables false

/-- All indices of a shape, in order. -/
def idxs (xs : List Int) : List (List Int) := (List.range (prodL xs).toNat).map fun k : Nat => idxL xs (k : Int)
/-- The indices that begin with p, with one number more. -/
def rowL (x : Int) (p : List Int) : List (List Int) := (List.range x.toNat).map fun j : Nat => p ++ [(j : Int)]

theorem prodL_snoc (xs : List Int) (x : Int) : prodL (xs ++ [x]) = prodL xs * x := by
  rw [prodL_append]
  show prodL xs * (1 * x) = _
  rw [Int.one_mul]
theorem idx_snoc : ∀ {xs : List Int} {x o : Int}, (∀ z ∈ xs, 1 ≤ z) → 1 ≤ x → 0 ≤ o → o < prodL xs * x → idxL (xs ++ [x]) o = idxL xs (o / x) ++ [o % x]
  | [], x, o, _, hx, h0, h1 => by
    have h1 : o < 1 * x := h1
    show [o / 1] = [o % x]
    rw [Int.emod_eq_of_lt h0 (by omega)]; simp
  | y :: xs, x, o, hp, hx, h0, h1 => by
    have hpp := prodL_pos (xs := xs) fun z hz => hp z (by simp [hz])
    have hm := mod_div o x (prodL xs) (by omega) (by omega)
    have hq : 0 < prodL xs * x := Int.mul_pos (by omega) (by omega)
    have ih := idx_snoc (xs := xs) (x := x) (o := o % (prodL xs * x)) (fun z hz => hp z (by simp [hz])) hx (Int.emod_nonneg _ (by omega)) (Int.emod_lt_of_pos _ hq)
    show o / prodL (xs ++ [x]) :: idxL (xs ++ [x]) (o % prodL (xs ++ [x])) = (o / x / prodL xs :: idxL xs (o / x % prodL xs)) ++ [o % x]
    rw [prodL_snoc, ih, Int.mul_comm (prodL xs) x, hm.1, hm.2, Int.ediv_ediv_of_nonneg (by omega)]
    rfl
theorem range_flat {α : Type} (X : Nat) (hX : 0 < X) (h : Nat → Nat → α) : ∀ P : Nat, (List.range P).flatMap (fun k => (List.range X).map (h k)) = (List.range (P * X)).map fun t => h (t / X) (t % X)
  | 0 => by simp
  | P + 1 => by
    rw [List.range_succ, List.flatMap_append, range_flat X hX h P, Nat.succ_mul, List.range_add, List.map_append, List.map_map]
    congr 1
    rw [List.flatMap_cons, List.flatMap_nil, List.append_nil]
    apply List.map_congr_left
    intro j hj
    have hj := List.mem_range.1 hj
    have e1 : (P * X + j) / X = P := by rw [Nat.add_comm, Nat.add_mul_div_right _ _ hX, Nat.div_eq_of_lt hj]; omega
    have e2 : (P * X + j) % X = j := by rw [Nat.add_comm, Nat.add_mul_mod_self_right, Nat.mod_eq_of_lt hj]
    simp [e1, e2]
theorem prodL_ones : ∀ {xs : List Int}, (∀ x ∈ xs, 0 ≤ x) → prodL xs ≠ 0 → ∀ x ∈ xs, 1 ≤ x
  | [], _, _, x, hx => by simp at hx
  | y :: xs, h, hp, x, hx => by
    rw [prodL_cons] at hp
    have h1 : prodL xs ≠ 0 := fun e => hp (by rw [e, Int.zero_mul])
    have h2 : y ≠ 0 := fun e => hp (by rw [e, Int.mul_zero])
    rcases List.mem_cons.1 hx with rfl | hx
    · have := h x (by simp); omega
    · exact prodL_ones (fun z hz => h z (by simp [hz])) h1 x hx
theorem toNat_mul' {a b : Int} (ha : 0 ≤ a) (hb : 0 ≤ b) : (a * b).toNat = a.toNat * b.toNat := by
  obtain ⟨A, rfl⟩ := Int.eq_ofNat_of_zero_le ha
  obtain ⟨B, rfl⟩ := Int.eq_ofNat_of_zero_le hb
  rw [← Int.natCast_mul, Int.toNat_natCast, Int.toNat_natCast, Int.toNat_natCast]
theorem idxs_snoc {xs : List Int} {x : Int} (h : ∀ z ∈ xs, 0 ≤ z) (hx : 0 ≤ x) : idxs (xs ++ [x]) = (idxs xs).flatMap (rowL x) := by
  have hpn := (prodL_max h).1
  unfold idxs
  rw [prodL_snoc, toNat_mul' hpn hx, List.flatMap_map]
  rcases Nat.eq_zero_or_pos x.toNat with hX | hX
  · rw [hX]
    simp [rowL, hX]
  · rcases Nat.eq_zero_or_pos (prodL xs).toNat with hP | hP
    · simp [hP]
    · have ho := prodL_ones h (by omega)
      have := range_flat x.toNat hX (fun k j => idxL xs (k : Int) ++ [(j : Int)]) (prodL xs).toNat
      show _ = (List.range (prodL xs).toNat).flatMap (fun k : Nat => (List.range x.toNat).map fun j : Nat => idxL xs (k : Int) ++ [(j : Int)])
      rw [this]
      apply List.map_congr_left
      intro t ht
      have ht := List.mem_range.1 ht
      have hxx : ((x.toNat : Nat) : Int) = x := by omega
      have hpp : (((prodL xs).toNat : Nat) : Int) = prodL xs := by omega
      have ht2 : (t : Int) < prodL xs * x := by rw [← hxx, ← hpp, ← Int.natCast_mul]; omega
      rw [idx_snoc ho (by omega) (by omega) ht2]
      simp [hxx]
theorem idxs_len (xs : List Int) : (idxs xs).length = (prodL xs).toNat := by simp [idxs]
theorem idxs_at {xs : List Int} {k : Nat} (h : k < (prodL xs).toNat) : (idxs xs)[k]? = some (idxL xs (k : Int)) := by simp [idxs, h]
theorem rowL_len (x : Int) (p : List Int) : (rowL x p).length = x.toNat := by simp [rowL]
theorem rowL_at {x : Int} {p : List Int} {q : Nat} (h : (q : Int) < x) : (rowL x p)[q]? = some (p ++ [(q : Int)]) := by
  have : q < x.toNat := by omega
  simp [rowL, this]
theorem flat_len (x : Int) : ∀ ps : List (List Int), (ps.flatMap (rowL x)).length = ps.length * x.toNat
  | [] => by simp
  | p :: ps => by rw [List.flatMap_cons, List.length_append, flat_len x ps, rowL_len, List.length_cons, Nat.succ_mul]; omega
theorem flat_snoc {x : Int} {ps : List (List Int)} {j : Nat} {p : List Int} (h : ps[j]? = some p) : (ps.take (j + 1)).flatMap (rowL x) = (ps.take j).flatMap (rowL x) ++ rowL x p := by
  rw [take_snoc h, List.flatMap_append]; simp

set_option maxHeartbeats 4000000 in
theorem refAll_own (A : Option Addr) (n c : Nat) (xs : List Int) (w : World) (hn : n ≤ 16) (hx : Rd w A n xs) (h0 : ∀ x ∈ xs, 0 ≤ x ∧ x ≤ 65536) (hb : ∀ k, prodL (xs.take k) ≤ 1048576) :
    Calls Try.prog 44 #[.slice A n c] w (MakesO w (idxs xs)) := by
  have HX := Lib.hid hx; have H0 := Lib.hid h0; have HB := Lib.hid hb; clear hx h0 hb
  have hrd : OwnM ((w.alloc (.cells #[] 3)).alloc (.cells #[.slice (some ⟨w.heap.size, 0, none⟩) 0 0] 22)) w.heap.size (.slice (some ⟨w.heap.size + 1, 0, none⟩) 1 1) (idxs (xs.take 0)) := by
    have e : idxs (xs.take 0) = [[]] := by simp [idxs, prodL, idxL]
    rw [e]
    have := ownM_one (own_empty w) rfl (by simp)
    simpa using this
  have HR := Lib.hid hrd; clear hrd
  have HW := Lib.hid (((Below.refl w.heap.size w).alloc (Nat.le_refl _) (.cells #[] 3)).alloc (by simp) (.cells #[.slice (some ⟨w.heap.size, 0, none⟩) 0 0] 22))
  go_enter Try.func44, Try.ntmps44
  go_wp2_with fail
  go_loopw [3, 4] (fun v i wr => ∃ k : Nat, k ≤ n ∧ i = .int .i64 k ∧ ∃ (P : Option Addr) (N C : Nat), v = .slice P N C ∧ N ≤ 1048576 ∧ Hid (OwnM wr w.heap.size (.slice P N C) (idxs (xs.take k))) ∧ Hid (N ≤ C ∧ C ≤ maxLen ∧ (P = none → C = 0)) ∧ Below w.heap.size w wr) (fun _ i _ => n - (intOf i).toNat)
  case atStart => exact ⟨0, Nat.zero_le _, rfl, _, 1, 1, rfl, by omega, HR, Lib.hid ⟨Nat.le_refl _, by unfold maxLen; omega, fun h => by cases h⟩, HW.out⟩
  case round =>
    obtain ⟨k, hk, rfl, P, N, C, rfl, hN, HM, HC, hbel⟩ := hrel
    obtain ⟨wo, rfl⟩ : ∃ wo : World, wo = wr := ⟨_, rfl⟩
    by_cases hlt : k < n
    · obtain ⟨ad, x, rfl, hx, _⟩ := HX.out.at_ hlt
      have hxr := H0.out x (mem_at hx)
      have hx0 := hxr.1
      have hx1 := hxr.2
      have HXK := Lib.hid hx
      have HMR := Lib.hid HM.out.rdM
      have HLN := Lib.hid HMR.out.1
      clear hxr hx
      go_wp2_with fail
      go_loopw [5, 6] (fun v i w2 => ∃ j : Nat, j ≤ N ∧ i = .int .i64 j ∧ OwnM w2 wo.heap.size v (((idxs (xs.take k)).take j).flatMap (rowL x)) ∧ Below wo.heap.size wo w2) (fun _ i _ => N - (intOf i).toNat)
      case atStart => exact ⟨0, Nat.zero_le _, rfl, by simpa using ownM_nil _ _, Below.refl _ _⟩
      case round =>
        obtain ⟨j, hj, rfl, hown, hbel2⟩ := hrel
        obtain ⟨w2, rfl⟩ : ∃ w2 : World, w2 = wr := ⟨_, rfl⟩
        by_cases hjl : j < N
        · obtain ⟨p, hp⟩ : ∃ p, (idxs (xs.take k))[j]? = some p := ⟨_, List.getElem?_eq_getElem (by rw [HLN.out]; exact hjl)⟩
          obtain ⟨adr, Q, cc, rfl, hlr, hcr, hrp, hpc, hcm, hqc⟩ := HMR.out.at_ hp
          have HQC := Lib.hid hqc
          have HCR := Lib.hid hcr
          have HLR := Lib.hid hlr
          have HP := Lib.hid hp
          have HRP := Lib.hid hrp
          have hpl : p.length ≤ 16 := by
            have h1 := HP.out
            unfold idxs at h1
            rw [List.getElem?_map] at h1
            obtain ⟨t, _, e⟩ := Option.map_eq_some_iff.1 h1
            rw [← e, idx_len, List.length_take]
            have := HX.out.1
            omega
          have hL2 : (((idxs (xs.take k)).take j).flatMap (rowL x)).length ≤ 68719476736 := by
            rw [flat_len]
            have h1 : ((idxs (xs.take k)).take j).length ≤ 1048576 := by rw [List.length_take]; omega
            have h2 : x.toNat ≤ 65536 := by omega
            exact Nat.mul_le_mul h1 h2
          have HL2 := Lib.hid hL2
          have HPL := Lib.hid hpl
          clear hqc hcr hlr hp hrp hpc hcm hL2 hpl
          go_wp2_with fail
          go_loopw [5, 7] (fun v i w3 => ∃ q : Nat, (q : Int) ≤ x ∧ i = .int .i64 q ∧ OwnM w3 wo.heap.size v (((idxs (xs.take k)).take j).flatMap (rowL x) ++ (rowL x p).take q) ∧ Below wo.heap.size wo w3) (fun _ i _ => x.toNat - (intOf i).toNat)
          case atStart => exact ⟨0, hx0, rfl, by simpa using hown, hbel2⟩
          case round =>
            obtain ⟨q, hq, rfl, hown3, hbel3⟩ := hrel
            have hcx := ((HX.out.below hbel).below hbel3).cell_ HXK.out
            by_cases hqx : (q : Int) < x
            · have hco3 := (hbel3.cell (p := adr.add j) (by rw [blk_add]; exact HLR.out)).trans HCR.out
              have hco : (wr.alloc (.cells #[] 3)).cell? (adr.add j) = some (.slice Q p.length cc) := (World.cell?_alloc_lt _ _ _ (by rw [blk_add]; exact Nat.lt_of_lt_of_le HLR.out hbel3.size)).trans hco3
              clear hco3
              have HRP3 := Lib.hid (HRP.out.below hbel3)
              have HO3 := Lib.hid hown3
              have HB3 := Lib.hid hbel3
              have HL3 := Lib.hid (show (((idxs (xs.take k)).take j).flatMap (rowL x) ++ (rowL x p).take q).length < 1099511627776 by
                rw [List.length_append, List.length_take]
                have := HL2.out
                omega)
              have HN := Lib.hid (take_snoc (rowL_at (p := p) hqx))
              clear hown3 hbel3
              have HPL2 := Lib.hid (show ([] : List Int).length + p.length ≤ 1099511627776 by have := HPL.out; simp; omega)
              have HPL3 := Lib.hid (show p.length < 1099511627776 by have := HPL.out; omega)
              have HRP4 := Lib.hid (HRP3.out.below ((Below.refl wr.heap.size wr).alloc (Nat.le_refl _) (.cells #[] 3)))
              have HE4 := Lib.hid (own_empty wr)
              have HS4 := Lib.hid (show wr.heap.size ≤ (wr.alloc (.cells #[] 3)).heap.size by simp)
              have HA4 := Lib.hid ((Below.refl wr.heap.size wr).alloc (Nat.le_refl _) (.cells #[] 3))
              go_wp2_with (first
                | (at_builtin; refine wpList_append rfl (.tmp 31) (.tmp 35) rfl _ _ [] rfl HE4.out _ _ _ p rfl HRP4.out HQC.out HPL2.out HS4.out ?_; intro v4 w4 ho4 hg4 _; have HO4 := Lib.hid (show Own w4 wr.heap.size v4 p from ho4); have HB4 := Lib.hid (Own.below_grown HA4.out HE4.out hg4 HS4.out); clear ho4 hg4)
                | (at_builtin; refine wpList_push rfl (.tmp 36) (.tmp 38) rfl _ _ rfl HO4.out HB4.out _ _ rfl HPL3.out ?_; intro v5 w5 ho5 hb5; obtain ⟨A5, m5, c5, rfl⟩ := ho5.shape; have HO5 := Lib.hid ho5; have HB5 := Lib.hid (HB3.out.trans (hb5.mono HB3.out.size)); have HB35 := Lib.hid hb5; clear ho5 hb5)
                | (at_builtin; refine wpList_pushM rfl (.tmp 30) (.tmp 40) rfl _ _ rfl HO3.out HB35.out HB5.out _ (p ++ [(q : Int)]) HO5.out HB3.out.size _ rfl HL3.out ?_; intro v6 w6 ho6 hb6))
              go_roundw
              case rel => exact ⟨q + 1, by omega, by go_num, by rw [HN.out, ← List.append_assoc]; exact ho6, hb6⟩
              case measure => first | (simp [intOf]; done) | (simp [intOf]; omega)
            · have HE : Hid (((idxs (xs.take k)).take j).flatMap (rowL x) ++ (rowL x p).take q = ((idxs (xs.take k)).take (j + 1)).flatMap (rowL x)) := Lib.hid (by
                rw [flat_snoc HP.out, List.take_of_length_le (l := rowL x p) (by rw [rowL_len]; omega)])
              rw [HE.out] at hown3
              go_wp2_with fail
              go_roundw
              case rel => exact ⟨j + 1, by omega, by go_num, hown3, hbel3⟩
              case measure => first | (simp [intOf]; done) | (simp [intOf]; omega)
        · have HE : Hid (((idxs (xs.take k)).take j).flatMap (rowL x) = idxs (xs.take (k + 1))) := Lib.hid (by
            rw [List.take_of_length_le (by rw [HLN.out]; omega), take_snoc HXK.out, idxs_snoc (fun z hz => (H0.out z (List.mem_of_mem_take hz)).1) hx0])
          rw [HE.out] at hown
          obtain ⟨P2, C2, rfl, hc1, hc2, hc3⟩ := hown.form
          have HR2 := Lib.hid (hown.le hbel.size)
          have HC2 := Lib.hid (And.intro hc1 (And.intro hc2 hc3))
          have hN2 : (idxs (xs.take (k + 1))).length ≤ 1048576 := by
            rw [idxs_len]
            have := HB.out (k + 1)
            omega
          have HN2 := Lib.hid hN2
          have HB2 := Lib.hid (hbel.trans (hbel2.mono hbel.size))
          clear hown hc1 hc2 hc3 hN2
          go_wp2_with fail
          go_roundw
          case rel => exact ⟨k + 1, by omega, by go_num, _, _, _, rfl, HN2.out, HR2, HC2, HB2.out⟩
          case measure => first | (simp [intOf]; done) | (simp [intOf]; omega)
    · have HE : Hid (xs.take k = xs) := Lib.hid (List.take_of_length_le (by rw [HX.out.1]; omega))
      rw [HE.out] at HM
      have HLN := Lib.hid HM.out.rdM.1
      have hNN : N = (idxs xs).length := HLN.out.symm
      subst hNN
      go_wp2_with fail
      go_ret
      exact ⟨_, _, rfl, HM.out, HC.out.1, HC.out.2.1, HC.out.2.2, hbel⟩
theorem refAll_any (A : Option Addr) (n c : Nat) (xs : List Int) (w : World) (hn : n ≤ 16) (hx : Rd w A n xs) (h0 : ∀ x ∈ xs, 0 ≤ x ∧ x ≤ 65536) (hb : ∀ k, prodL (xs.take k) ≤ 1048576) :
    Calls Try.prog 44 #[.slice A n c] w (MakesM w (idxs xs)) := (refAll_own A n c xs w hn hx h0 hb).mono fun _ _ h => h.makesM
end Go.Proofs.Ytaegkiangjnmdaa.all
