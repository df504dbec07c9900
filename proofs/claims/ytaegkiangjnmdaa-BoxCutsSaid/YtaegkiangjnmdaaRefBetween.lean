/- The reference's range of indices: dims, Between, Few; the law's same. -/
import Derived.Test.YtaegkiangjnmdaaOdoMath
import Derived.Test.YtaegkiangjnmdaaMake
import Derived.Test.YtaegkiangjnmdaaGamma
import Derived.Test.YtaegkiangjnmdaaEqual
import Derived.Test.YtaegkiangjnmdaaAft
import Derived.Deep.RegionHeld3
import Derived.BigRegion
import Derived.StillTailTactics
namespace Go.Proofs.Ytaegkiangjnmdaa.odo
open Go.ChangeShapes Go.WideShapes Go.ChangeAt Go.RowKit Go.Proofs.Ytaegkiangjnmdaa.mem Go.Proofs.Ytaegkiangjnmdaa.prod Go.Proofs.Ytaegkiangjnmdaa.shp Go.Proofs.Ytaegkiangjnmdaa.strd Go.Proofs.Ytaegkiangjnmdaa.gam Go.Proofs.Ytaegkiangjnmdaa.sml Go.Proofs.Ytaegkiangjnmdaa.all Go.Proofs.Ytaegkiangjnmdaa.eql
set_option linter.unusedVariables false

theorem own_drew {w : World} {B : Nat} {v : Value} {xs : List Int} (h : Own w B v xs) : Own w.drew B v xs := h.below (below_drewN (Below.refl _ _) 1)
/-- append(out, y) as a step of a region that draws its order. -/
theorem step_push {W w : World} {ops : Array Oper} {o : Oper} {a : Act} {K : Act → World → Prop} {Q : Exit → Act → World → Prop} {E : Prop} (hgd : o.guard = none) (s x : Operand)
    (ho : o.op = .call { callee := .builtin .append, args := #[s, x], argTypes := #[22, 22] })
    (v : Value) (xs : List Int) (hs : a.eval s = v) (hown : Own w W.heap.size v xs) (hb : Below W.heap.size W w) (y : Int) (t : TypeId) (hx : a.eval x = .slice (some ⟨w.heap.size, 0, none⟩) 1 1)
    (h40 : xs.length < 1099511627776)
    (h : ∀ v' w', Own w' W.heap.size v' (xs ++ [y]) → Below W.heap.size W w' → K (a.put o.dst v') w') :
    if Region.wanted o (yielded ops a.tmps) = true then Oper.wp Try.prog o a (w.alloc (.cells #[.int .i64 y] t)) K Q else E := by
  have hw : Region.wanted o (yielded ops a.tmps) = true := by simp [Region.wanted, hgd]
  rw [if_pos hw]
  obtain ⟨v', w', hrun, h2, h3, h4⟩ := run_append (w.alloc (.cells #[.int .i64 y] t)) o.type W.heap.size v xs (hown.below ((Below.refl _ _).alloc (Nat.le_refl _) _)) _ 1 1 [y] (rd_one w t y) (fun h => by cases h) (by omega) (by have := hb.size; simp; omega)
  unfold Oper.wp execOp
  simp only [ho, resolve, invoke, builtin, Sem.run_bind, Sem.run_pure, Result.andThen_ok, List.map_toArray, List.map_cons, List.map_nil, hs, hx, hrun]
  exact h v' w' h2 (Own.below_grown (hb.alloc hb.size _) (hown.below ((Below.refl _ _).alloc (Nat.le_refl _) _)) h3 (by have := hb.size; simp; omega))

set_option maxHeartbeats 1000000 in
theorem dims_any (A B : Option Addr) (n c d : Nat) (lo hi : List Int) (w : World) (hn : n ≤ 65536) (ha : Rd w A n lo) (hb : Rd w B n hi) (hla : ∀ x ∈ lo, -4294967296 ≤ x ∧ x ≤ 4294967296) (hlb : ∀ x ∈ hi, -4294967296 ≤ x ∧ x ≤ 4294967296) :
    Calls Try.prog 45 #[.slice A n c, .slice B n d] w (Makes w (dimsL lo hi)) := by
  have HA := Lib.hid ha; have HB := Lib.hid hb; have HLA := Lib.hid hla; have HLB := Lib.hid hlb
  clear ha hb hla hlb
  go_enter Try.func45, Try.ntmps45
  go_wp2_with fail
  go_loopw [5, 6] (fun v i wr => ∃ k : Nat, k ≤ n ∧ i = .int .i64 k ∧ Own wr w.heap.size v ((dimsL lo hi).take k) ∧ Below w.heap.size w wr) (fun _ i _ => n - (intOf i).toNat)
  case atStart => exact ⟨0, Nat.zero_le _, rfl, by simpa using own_nil _ _, Below.refl _ _⟩
  case round =>
    obtain ⟨k, hk, rfl, hown, hbel⟩ := hrel
    by_cases hlt : k < n
    · obtain ⟨ad1, a, rfl, hka, hc1⟩ := (HA.out.below hbel).at_ hlt
      obtain ⟨ad2, b, rfl, hkb, hc2⟩ := (HB.out.below hbel).at_ hlt
      have hab := HLA.out a (mem_at hka)
      have hbb := HLB.out b (mem_at hkb)
      have HN := Lib.hid (take_snoc (dims_at hka hkb))
      have ha1 := hab.1
      have ha2 := hab.2
      have hb1 := hbb.1
      have hb2 := hbb.2
      have HO := Lib.hid hown
      have HBL := Lib.hid hbel
      have HLN := Lib.hid (show ((dimsL lo hi).take k).length < 1099511627776 by rw [List.length_take]; omega)
      have HKA := Lib.hid hka; have HKB := Lib.hid hkb
      clear hka hkb hab hbb hown hbel
      have hi1 : (k : Int) < (n : Int) := by omega
      have hw1 : IntKind.i64.wrap (b - a) = b - a := wrap_in (by omega) (by omega)
      have HOD := Lib.hid (own_drew HO.out)
      have HBD := Lib.hid (show Below w.heap.size w wr.drew from below_drewN HBL.out 1)
      by_cases hba : b - a < 0
      · go_wp2_with fail
        go_region_held3 (fun w' => w'.cell? (ad1.add k) = some (.int .i64 a) ∧ w'.cell? (ad2.add k) = some (.int .i64 b)) (first | go_keep | exact ⟨(HA.out.below hb').cell_ HKA.out, (HB.out.below hb').cell_ HKB.out⟩) ((refine step_push (by rfl) (.tmp 13) (.tmp 24) (by rfl) _ _ (by rfl) HOD.out HBD.out _ _ (by rfl) HLN.out ?_; intro v' w' ho' hb'))
        have HO' := Lib.hid ho'; have HB' := Lib.hid hb'
        clear ho' hb' hw1
        go_wp2_with fail
        go_roundw
        case rel => exact ⟨k + 1, by omega, by go_num, by rw [HN.out, Int.max_eq_right (by omega)]; exact HO'.out, HB'.out⟩
        case measure => first | (simp [intOf]; done) | (simp [intOf]; omega)
      · go_wp2_with fail
        go_region_held3 (fun w' => w'.cell? (ad1.add k) = some (.int .i64 a) ∧ w'.cell? (ad2.add k) = some (.int .i64 b)) (first | go_keep | exact ⟨(HA.out.below hb').cell_ HKA.out, (HB.out.below hb').cell_ HKB.out⟩) ((refine step_push (by rfl) (.tmp 13) (.tmp 24) (by rfl) _ _ (by rfl) HOD.out HBD.out _ _ (by rfl) HLN.out ?_; intro v' w' ho' hb'))
        have HO' := Lib.hid ho'; have HB' := Lib.hid hb'
        clear ho' hb' hw1
        go_wp2_with fail
        go_roundw
        case rel => exact ⟨k + 1, by omega, by go_num, by rw [HN.out, Int.max_eq_left (by omega)]; have := HO'.out; rwa [if_neg (by omega)] at this, HB'.out⟩
        case measure => first | (simp [intOf]; done) | (simp [intOf]; omega)
    · have HE : Hid ((dimsL lo hi).take k = dimsL lo hi) := Lib.hid (List.take_of_length_le (by rw [dims_len (by rw [HA.out.1, HB.out.1]), HA.out.1]; omega))
      rw [HE.out] at hown
      have HO := Lib.hid hown
      clear hown
      go_wp2_with fail
      go_ret
      exact ⟨_, rfl, HO.out, hbel⟩

theorem OwnM.at_ {w : World} {B : Nat} {A : Option Addr} {n c : Nat} {xss : List (List Int)} (h : OwnM w B (.slice A n c) xss) {k : Nat} {xs : List Int} (hx : xss[k]? = some xs) :
    ∃ gv u, A = some ⟨gv, 0, none⟩ ∧ w.cell? ⟨gv, k, none⟩ = some u ∧ Own w B u xs := by
  have hf := h.form
  obtain ⟨us, h1, h2, _⟩ := h
  obtain ⟨hl, _⟩ := List.getElem?_eq_some_iff.1 hx
  obtain ⟨g, cap, hv, _, hlt⟩ := World.ownsRow.form h1 (by omega)
  have hA : A = some ⟨g, 0, none⟩ := by injection hv
  subst hA
  have hu : k < us.length := by rw [h1.1]; omega
  refine ⟨g, us[k], rfl, ?_, (h2 k us[k] xs (List.getElem?_eq_getElem hu) hx).1⟩
  have := h1.cells (g := g) rfl k _ (List.getElem?_eq_getElem hu)
  rwa [add_at] at this
/-- A store into one of the rows. -/
theorem OwnM.set_ {w : World} {B gv n c k i g m e : Nat} {xss : List (List Int)} {xs : List Int} {y : Int} (h : OwnM w B (.slice (some ⟨gv, 0, none⟩) n c) xss) (hx : xss[k]? = some xs)
    (hc : w.cell? ⟨gv, k, none⟩ = some (.slice (some ⟨g, 0, none⟩) m e)) : OwnM (w.setCell ⟨g, i, none⟩ (.int .i64 y)) B (.slice (some ⟨gv, 0, none⟩) n c) (xss.set k (xs.set i y)) := by
  obtain ⟨us, h1, h2, h3⟩ := h
  obtain ⟨hl, _⟩ := List.getElem?_eq_some_iff.1 hx
  have hu : k < us.length := by rw [h1.1]; omega
  have hck := h1.cells (g := gv) rfl k _ (List.getElem?_eq_getElem hu)
  rw [add_at, hc] at hck
  have hus : us[k]? = some (.slice (some ⟨g, 0, none⟩) m e) := by rw [List.getElem?_eq_getElem hu]; exact hck.symm
  obtain ⟨e1, e2⟩ := h2 k _ xs hus hx
  have hgv : gv ≠ g := fun e => e2 g rfl (by simp [Value.ownBlock, e])
  have hg : w.grownBy (w.setCell ⟨g, i, none⟩ (.int .i64 y)) (some g) := ⟨rfl, rfl, rfl, by simp [World.setCell], fun q _ hq => Below.heap_setCell _ _ _ q (fun e => hq (by rw [e]))⟩
  refine ⟨us, ?_, fun j u zs hj hz => ?_, h3⟩
  · rw [List.length_set]
    exact World.ownsRow.kept (row := some g) h1 hg (.inr (by simp [Value.ownBlock]; omega))
  · by_cases hjk : j = k
    · subst hjk
      rw [List.getElem?_set_self (by simpa using hl)] at hz
      rw [hus] at hj
      injection hj with hj
      injection hz with hz
      subst hj
      subst hz
      exact ⟨e1.set_ i y, e2⟩
    · rw [List.getElem?_set_ne (fun e => hjk e.symm)] at hz
      obtain ⟨f1, f2⟩ := h2 j u zs hj hz
      refine ⟨f1.grown_ hg fun q hq e => ?_, f2⟩
      injection e with e
      subst e
      exact h3 j k u _ hj hus hjk g hq rfl

def mixL (lo : List Int) (L : List (List Int)) (k : Nat) : List (List Int) := (L.take k).map (addL lo) ++ L.drop k
def rowI (lo p : List Int) (i : Nat) : List Int := addL (lo.take i) (p.take i) ++ p.drop i
theorem mix_at {lo : List Int} {L : List (List Int)} {k : Nat} {p : List Int} (h : L[k]? = some p) : (mixL lo L k)[k]? = some p := by
  obtain ⟨hk, _⟩ := List.getElem?_eq_some_iff.1 h
  unfold mixL
  rw [List.getElem?_append_right (by simp; omega)]
  have e : k - ((L.take k).map (addL lo)).length = 0 := by simp; omega
  rw [e, List.getElem?_drop]
  simpa using h
theorem mix_step {lo : List Int} {L : List (List Int)} {k : Nat} {p : List Int} (h : L[k]? = some p) : (mixL lo L k).set k (addL lo p) = mixL lo L (k + 1) := by
  obtain ⟨hk, _⟩ := List.getElem?_eq_some_iff.1 h
  have hl : ((L.take k).map (addL lo)).length = k := by simp; omega
  unfold mixL
  rw [List.set_append_right _ _ (by omega), hl, drop_at h, take_snoc h]
  simp
theorem mix_len (lo : List Int) (L : List (List Int)) (k : Nat) : (mixL lo L k).length = L.length := by simp [mixL]; omega
theorem row_len {lo p : List Int} {i : Nat} (h : lo.length = p.length) : (rowI lo p i).length = p.length := by simp [rowI, addL, h]; omega
theorem row_at {lo p : List Int} {i : Nat} {y : Int} (hl : lo.length = p.length) (h : p[i]? = some y) : (rowI lo p i)[i]? = some y := by
  obtain ⟨hk, _⟩ := List.getElem?_eq_some_iff.1 h
  have e : (addL (lo.take i) (p.take i)).length = i := by simp [addL]; omega
  unfold rowI
  rw [List.getElem?_append_right (by omega), e, List.getElem?_drop]
  simpa using h
theorem row_step {lo p : List Int} {i : Nat} {a y : Int} (hl : lo.length = p.length) (ha : lo[i]? = some a) (h : p[i]? = some y) : (rowI lo p i).set i (y + a) = rowI lo p (i + 1) := by
  obtain ⟨hk, _⟩ := List.getElem?_eq_some_iff.1 h
  have e : (addL (lo.take i) (p.take i)).length = i := by simp [addL]; omega
  have e2 : addL (lo.take (i + 1)) (p.take (i + 1)) = addL (lo.take i) (p.take i) ++ [y + a] := by
    unfold addL
    rw [take_snoc ha, take_snoc h, List.zipWith_append (by simp; omega)]
    simp
  unfold rowI
  rw [List.set_append_right _ _ (by omega), e, drop_at h, e2]
  simp
theorem row_end {lo p : List Int} (hl : lo.length = p.length) : rowI lo p p.length = addL lo p := by
  unfold rowI
  rw [List.take_of_length_le (l := lo) (by omega), List.take_of_length_le (l := p) (by omega), List.drop_of_length_le (by omega), List.append_nil]

theorem idx_bound : ∀ {xs : List Int} {o : Int}, (∀ x ∈ xs, 0 ≤ x) → 0 ≤ o → ∀ y ∈ idxL xs o, 0 ≤ y ∧ y ≤ o
  | [], o, _, _, y, hy => by simp [idxL] at hy
  | x :: xs, o, h, h0, y, hy => by
    have hp := (prodL_max (xs := xs) fun z hz => h z (by simp [hz])).1
    rcases List.mem_cons.1 hy with rfl | hy
    · exact ⟨Int.ediv_nonneg h0 hp, Int.ediv_le_self _ h0⟩
    · have h1 : 0 ≤ o % prodL xs ∧ o % prodL xs ≤ o := by
        rcases Int.lt_or_eq_of_le hp with h2 | h2
        · refine ⟨Int.emod_nonneg _ (by omega), ?_⟩
          have h3 := Int.mul_ediv_add_emod o (prodL xs)
          have h4 : 0 ≤ prodL xs * (o / prodL xs) := Int.mul_nonneg hp (Int.ediv_nonneg h0 hp)
          omega
        · rw [← h2, Int.emod_zero]; omega
      have := idx_bound (xs := xs) (fun z hz => h z (by simp [hz])) h1.1 y hy
      omega

set_option maxHeartbeats 4000000 in
theorem refBetween_any (A B : Option Addr) (n c d : Nat) (lo hi : List Int) (w : World) (hn : n ≤ 16) (ha : Rd w A n lo) (hb : Rd w B n hi) (hla : ∀ x ∈ lo, -4294967296 ≤ x ∧ x ≤ 4294967296) (hlb : ∀ x ∈ hi, -4294967296 ≤ x ∧ x ≤ 4294967296)
    (hd : ∀ x ∈ dimsL lo hi, x ≤ 65536) (hp : ∀ k, prodL ((dimsL lo hi).take k) ≤ 1048576) :
    Calls Try.prog 29 #[.slice A n c, .slice B n d] w (MakesO w (rngs lo hi)) := by
  have hll : lo.length = hi.length := by rw [ha.1, hb.1]
  have hdn : (dimsL lo hi).length = n := by rw [dims_len hll, ha.1]
  have PD := Lib.hid (dims_any A B n c d lo hi w (by omega) ha hb hla hlb)
  have PR : ∀ (W : World) (P : Option Addr) (e : Nat), Rd W P n (dimsL lo hi) → Hid (Calls Try.prog 44 #[.slice P n e] W (MakesO W (idxs (dimsL lo hi)))) :=
    fun W P e h => Lib.hid (refAll_own P n e (dimsL lo hi) W hn h (fun x hx => ⟨dims_nonneg x hx, hd x hx⟩) hp)
  obtain ⟨L, hL⟩ : ∃ L, L = idxs (dimsL lo hi) := ⟨_, rfl⟩
  have hlen : ∀ (k : Nat) (p : List Int), L[k]? = some p → p.length = n := by
    intro k p h
    rw [hL] at h
    unfold idxs at h
    rw [List.getElem?_map] at h
    obtain ⟨t, _, e⟩ := Option.map_eq_some_iff.1 h
    rw [← e, idx_len, hdn]
  have hpb : ∀ (k : Nat) (p : List Int), L[k]? = some p → ∀ y ∈ p, 0 ≤ y ∧ y ≤ 1048576 := by
    intro k p h y hy
    rw [hL] at h
    unfold idxs at h
    rw [List.getElem?_map] at h
    obtain ⟨t, ht, e⟩ := Option.map_eq_some_iff.1 h
    rw [← e] at hy
    have h1 := idx_bound (xs := dimsL lo hi) (o := (t : Int)) (fun x hx => dims_nonneg x hx) (by omega) y hy
    have h2 : t < (prodL (dimsL lo hi)).toNat := List.mem_range.1 (List.mem_of_getElem? ht)
    have := hp n
    rw [List.take_of_length_le (by omega)] at this
    omega
  have hR : rngs lo hi = mixL lo L L.length := by
    rw [rng_idxs hll, ← hL]
    unfold mixL
    rw [List.take_of_length_le (Nat.le_refl _), List.drop_of_length_le (Nat.le_refl _), List.append_nil]
  have hNl : L.length ≤ 1048576 := by
    rw [hL, idxs_len]
    have := hp n
    rw [List.take_of_length_le (by omega)] at this
    omega
  rw [← hL] at PR
  rw [hR]
  obtain ⟨N, hN⟩ : ∃ N, N = L.length := ⟨_, rfl⟩
  rw [← hN] at hNl ⊢
  have HN := Lib.hid hN; have HLEN := Lib.hid hlen; have HPB := Lib.hid hpb; have HDN := Lib.hid hdn
  have HA := Lib.hid ha; have HLA := Lib.hid hla; have HPR := Lib.hid PR
  clear hN hlen hpb hL hR ha hb hla hlb hd hp hdn hll PR
  go_enter Try.func29, Try.ntmps29
  go_wp2_with fail
  refine PD.out.mono ?_
  intro e w1 hm
  obtain ⟨P, e1, rfl, ho, hb1, _, _, _⟩ := hm.out
  have hrd := ho.rd
  rw [HDN.out] at hrd
  simp only [HDN.out]
  have HRD := Lib.hid hrd
  have HB1 := Lib.hid hb1
  clear hm ho hb1 hrd
  go_wp2_with fail
  refine (HPR.out w1 P e1 HRD.out).out.mono ?_
  rintro e w2 ⟨Q, C, rfl, hom, hc1, hc2, hc3, hb2⟩
  rw [← HN.out] at hom hc1
  simp only [← HN.out]
  have HST := Lib.hid (show OwnM w2 w1.heap.size (.slice Q N C) (mixL lo L 0) by simpa [mixL] using hom)
  have HB2 := Lib.hid (HB1.out.trans (hb2.mono HB1.out.size))
  have HC := Lib.hid (And.intro hc1 (And.intro hc2 hc3))
  clear hom hc1 hc2 hc3 hb2
  go_wp2_with fail
  go_loopw [6] (fun i wr => ∃ k : Nat, k ≤ N ∧ i = .int .i64 k ∧ Hid (OwnM wr w1.heap.size (.slice Q N C) (mixL lo L k)) ∧ Hid (Below w.heap.size w wr)) (fun i _ => N - (intOf i).toNat)
  case atStart => exact ⟨0, Nat.zero_le _, rfl, HST, HB2⟩
  case round =>
    obtain ⟨k, hk, rfl, HO, HBL⟩ := hrel
    obtain ⟨wo, rfl⟩ : ∃ wo : World, wo = wr := ⟨_, rfl⟩
    by_cases hlt : k < N
    · obtain ⟨p, hp⟩ : ∃ p, L[k]? = some p := ⟨_, List.getElem?_eq_getElem (by rw [← HN.out]; exact hlt)⟩
      have HP := Lib.hid hp
      have HPL := Lib.hid (show lo.length = p.length by rw [HLEN.out k p hp, HA.out.1])
      have HPN := Lib.hid (HLEN.out k p hp)
      have HST2 := Lib.hid (show OwnM wo w1.heap.size (.slice Q N C) ((mixL lo L k).set k (rowI lo p 0)) by
        have e : rowI lo p 0 = p := by simp [rowI, addL]
        have e2 : (mixL lo L k).set k p = mixL lo L k := by
          obtain ⟨hl, he⟩ := List.getElem?_eq_some_iff.1 (mix_at (lo := lo) hp)
          conv => lhs; rw [← he]
          exact List.set_getElem_self hl
        rw [e, e2]
        exact HO.out)
      clear hp
      go_wp2_with fail
      go_loopw [7] (fun i w3 => ∃ j : Nat, j ≤ n ∧ i = .int .i64 j ∧ Hid (OwnM w3 w1.heap.size (.slice Q N C) ((mixL lo L k).set k (rowI lo p j))) ∧ Hid (Below w.heap.size w w3)) (fun i _ => n - (intOf i).toNat)
      case atStart => exact ⟨0, Nat.zero_le _, rfl, HST2, HBL⟩
      case round =>
        obtain ⟨j, hj, rfl, HO3, HB3⟩ := hrel
        by_cases hjl : j < n
        · have hrow : ((mixL lo L k).set k (rowI lo p j))[k]? = some (rowI lo p j) := by
            rw [List.getElem?_set_self (by rw [mix_len, ← HN.out]; exact hlt)]
          obtain ⟨gv, u, hQ, hcu, hou⟩ := OwnM.at_ HO3.out hrow
          obtain ⟨g, cap, rfl, hgB, _⟩ := World.ownsRow.form hou (by rw [row_len HPL.out, HPN.out]; omega)
          subst hQ
          rw [row_len HPL.out, HPN.out] at hcu hou
          obtain ⟨ad, a, rfl, hla, hca⟩ := (HA.out.below HB3.out).at_ hjl
          obtain ⟨y, hy⟩ : ∃ y, p[j]? = some y := ⟨_, List.getElem?_eq_getElem (by rw [HPN.out]; exact hjl)⟩
          have hcy := hou.cellAt (row_at HPL.out hy)
          have hfz := hou.frozenAt j
          have hset := OwnM.set_ (i := j) (y := y + a) HO3.out hrow hcu
          rw [row_step HPL.out hla hy, List.set_set] at hset
          have hab := HLA.out a (mem_at hla)
          have hyb := HPB.out k p HP.out y (mem_at hy)
          have hB4 : Below w.heap.size w (wr.setCell ⟨g, j, none⟩ (.int .i64 (y + a))) := HB3.out.setCell (by have := HB1.out.size; simp; omega) _
          have HSET := Lib.hid hset
          have HB4 := Lib.hid hB4
          have ha1 := hab.1
          have ha2 := hab.2
          have hy1 := hyb.1
          have hy2 := hyb.2
          have hi1 : (k : Int) < (N : Int) := by omega
          have hi2 : (j : Int) < (n : Int) := by omega
          have hw1 : IntKind.i64.wrap (y + a) = y + a := wrap_in (by omega) (by omega)
          clear hla hy hset hab hyb hB4 hrow hou hgB
          go_wp2_with fail
          go_still_tail 18, (by kernel_rfl)
          have hcd : wr.drew.cell? ⟨g, j, none⟩ = some (.int .i64 y) := hcy
          have hfd : wr.drew.frozen? ⟨g, j, none⟩ = false := hfz
          have HSD := Lib.hid (show OwnM (wr.drew.setCell ⟨g, j, none⟩ (.int .i64 (y + a))) w1.heap.size (.slice (some ⟨gv, 0, none⟩) N C) ((mixL lo L k).set k (rowI lo p (j + 1))) from HSET.out.below (below_drewN (Below.refl _ _) 1))
          have HBD := Lib.hid (show Below w.heap.size w (wr.drew.setCell ⟨g, j, none⟩ (.int .i64 (y + a))) from below_drewN HB4.out 1)
          change wpList _ _ _ _ _ wr.drew
          generalize wr.drew = w4 at *
          clear hcu hcy hfz hca hw1
          go_wp2_with fail
          go_roundw
          case rel => exact ⟨j + 1, by omega, by go_num, HSD, HBD⟩
          case measure => first | (simp [intOf]; done) | (simp [intOf]; omega)
        · have HE : Hid ((mixL lo L k).set k (rowI lo p j) = mixL lo L (k + 1)) := Lib.hid (by
            have e : j = p.length := by rw [HPN.out]; omega
            rw [e, row_end HPL.out, mix_step HP.out])
          rw [HE.out] at HO3
          go_wp2_with fail
          go_roundw
          case rel => exact ⟨k + 1, by omega, by go_num, HO3, HB3⟩
          case measure => first | (simp [intOf]; done) | (simp [intOf]; omega)
    · obtain rfl : k = N := by omega
      have HF := Lib.hid (HO.out.le HB1.out.size)
      have hml : (mixL lo L k).length = k := by rw [mix_len, ← HN.out]
      have HML := Lib.hid hml
      clear hml
      go_wp2_with fail
      go_ret
      have hfin := HF.out
      refine ⟨Q, C, by rw [HML.out]; rfl, by rw [HML.out]; exact hfin, by rw [HML.out]; exact HC.out.1, HC.out.2.1, HC.out.2.2, HBL.out⟩
end Go.Proofs.Ytaegkiangjnmdaa.odo
