/- Contracts of package gamma: Valid, Dot, Offset, Index, and the methods of its layout. -/
import Derived.Test.YtbadbjcommdjgaaGammaMath
import Derived.Deep.QuietTactic
import Derived.BigQuiet
import Derived.RegionTactic
namespace Go.Proofs.Ytbadbjcommdjgaa.gam
open Go.ChangeShapes Go.WideShapes Go.ChangeAt Go.RowKit Go.Proofs.Ytbadbjcommdjgaa.mem Go.Proofs.Ytbadbjcommdjgaa.mul Go.Proofs.Ytbadbjcommdjgaa.prod Go.Proofs.Ytbadbjcommdjgaa.shp Go.Proofs.Ytbadbjcommdjgaa.strd
set_option linter.unusedVariables false

theorem wrap_in {a : Int} (h1 : -9223372036854775808 ≤ a) (h2 : a ≤ 9223372036854775807) : IntKind.i64.wrap a = a := by rw [IntKind.wrap_i64]; omega

theorem valid_any (A B : Option Addr) (n c m d : Nat) (xs ys : List Int) (w : World) (hn : n ≤ maxLen) (hm : m ≤ maxLen) (hx : Rd w A n xs) (hy : Rd w B m ys) :
    Calls Try.prog 48 #[.slice A n c, .slice B m d] w fun e w' => e = .returned (.bool (vldB xs ys)) ∧ w = w' := by
  unfold maxLen at hn hm
  have HX := Lib.hid hx; have HY := Lib.hid hy; clear hx hy
  by_cases hnm : n = m
  · subst hnm
    obtain ⟨r, hr⟩ : ∃ r, r = vldB xs ys := ⟨_, rfl⟩
    rw [← hr]
    have HR := Lib.hid hr; clear hr
    go_enter Try.func48, Try.ntmps48
    go_wp2_with fail
    go_loop [14] (fun i => ∃ k : Nat, k ≤ n ∧ i = .int .i64 k ∧ Hid (vldB xs ys = vldB (xs.drop k) (ys.drop k))) (fun i => n - (intOf i).toNat)
    case atStart => exact ⟨0, Nat.zero_le _, rfl, Lib.hid rfl⟩
    case round =>
      obtain ⟨k, hk, rfl, Hs⟩ := hrel
      by_cases hlt : k < n
      · obtain ⟨ad1, x, rfl, hx, hc1⟩ := HX.out.at_ hlt
        obtain ⟨ad2, y, rfl, hy, hc2⟩ := HY.out.at_ hlt
        have HS := Lib.hid (vld_step hx hy)
        clear hx hy
        by_cases hy0 : y < 0
        · go_wp2_with fail
          go_ret
          exact ⟨ret_bool (by rw [HR.out, Hs.out, HS.out, decide_eq_false (by omega)]; rfl), rfl⟩
        · by_cases hyx : x ≤ y
          · go_wp2_with fail
            go_ret
            exact ⟨ret_bool (by rw [HR.out, Hs.out, HS.out, decide_eq_false (by omega)]; rfl), rfl⟩
          · go_wp2_with fail
            go_round
            case rel => exact ⟨k + 1, by omega, by go_num, Lib.hid (by rw [Hs.out, HS.out, decide_eq_true (by omega), Bool.true_and])⟩
            case measure => simp [intOf]; omega
      · have HE := Lib.hid (HR.out.trans (Hs.out.trans (vld_end HX.out.1 HY.out.1 hlt)))
        go_wp2_with fail
        go_ret
        exact ⟨ret_bool HE.out.symm, rfl⟩
  · have hr : vldB xs ys = false := vld_ne (by rw [HX.out.1, HY.out.1]; exact hnm)
    rw [hr]
    clear hr
    have hnm' : ¬ (m : Int) = (n : Int) := by omega
    have hnm2 : ¬ (n : Int) = (m : Int) := by omega
    go_enter Try.func48, Try.ntmps48
    go_wp2_with fail
    go_ret
    exact ⟨rfl, rfl⟩

/-- What a call answers that only reads and answers a number. -/
def Num (w : World) (r : Int) (e : Ending) (w' : World) : Prop := e = .returned (.int .i64 r) ∧ ∃ q, w' = w.drewN q

theorem dot_any (A B : Option Addr) (n c m d : Nat) (us vs : List Int) (w : World) (hn : n ≤ maxLen) (hm : m ≤ maxLen) (hx : Rd w A n us) (hy : Rd w B m vs) (h100 : n ≤ 100 ∨ m ≤ 100)
    (hu : ∀ x ∈ us, -65536 ≤ x ∧ x ≤ 65536) (hv : ∀ x ∈ vs, -65536 ≤ x ∧ x ≤ 65536) :
    Calls Try.prog 54 #[.slice A n c, .slice B m d] w (Num w (dotL us vs)) := by
  unfold maxLen at hn hm
  have HX := Lib.hid hx; have HY := Lib.hid hy; clear hx hy
  have HU := Lib.hid hu; have HV := Lib.hid hv; clear hu hv
  obtain ⟨r, hr⟩ : ∃ r, r = dotL us vs := ⟨_, rfl⟩
  rw [← hr]
  have HR := Lib.hid hr; clear hr
  by_cases hmn : n ≤ m
  all_goals
    go_enter Try.func54, Try.ntmps54
    go_wp2_with fail
    go_loopw [5, 12] (fun s i wr => ∃ k q : Nat, k ≤ n ∧ k ≤ m ∧ i = .int .i64 k ∧ wr = w.drewN q ∧ ∃ t : Int, s = .int .i64 t ∧ -(4294967296 * (k : Int)) ≤ t ∧ t ≤ 4294967296 * (k : Int) ∧ Hid (dotL us vs = t + dotL (us.drop k) (vs.drop k))) (fun _ i _ => n - (intOf i).toNat)
    case atStart => exact ⟨0, 0, Nat.zero_le _, Nat.zero_le _, rfl, rfl, 0, rfl, by omega, by omega, Lib.hid (by simp)⟩
    case round =>
      obtain ⟨k, q, hkn, hkm, rfl, rfl, t, rfl, ht1, ht2, Hs⟩ := hrel
      by_cases hlt : k < n ∧ k < m
      · obtain ⟨hl1, hl2⟩ := hlt
        obtain ⟨ad1, x, rfl, hx, hc1⟩ := HX.out.at_ hl1
        obtain ⟨ad2, y, rfl, hy, hc2⟩ := HY.out.at_ hl2
        have HS := Lib.hid (dot_step hx hy)
        have hb := mul_range (HU.out x (mem_at hx)) (HV.out y (mem_at hy))
        have hb1 := hb.1
        have hb2 := hb.2
        clear hb hx hy
        have hk0 : (0 : Int) ≤ (k : Int) := by omega
        have hi1 : (k : Int) < (n : Int) := by omega
        have hi2 : (k : Int) < (m : Int) := by omega
        have ht1' : -(4294967296 * ((k + 1 : Nat) : Int)) ≤ t + x * y := by omega
        have ht2' : t + x * y ≤ 4294967296 * ((k + 1 : Nat) : Int) := by omega
        have HB := Lib.hid (And.intro ht1' ht2')
        have hw1 : IntKind.i64.wrap (x * y) = x * y := wrap_in (by omega) (by omega)
        have hw2 : IntKind.i64.wrap (t + x * y) = t + x * y := wrap_in (by omega) (by omega)
        clear ht1' ht2' hb1 hb2
        go_wp2_with fail
        go_quiet (fail)
        clear hw1 hw2
        go_wp2_with fail
        go_roundw
        case rel => exact ⟨k + 1, _, by omega, by omega, by go_num, rfl, _, rfl, HB.out.1, HB.out.2, Lib.hid (by rw [Hs.out, HS.out]; omega)⟩
        case measure => first | (simp [intOf]; done) | (simp [intOf]; omega)
      · have HE := Lib.hid (HR.out.trans (Hs.out.trans (by rw [dot_end (us := us) (vs := vs) (k := k) (by rw [HX.out.1, HY.out.1]; omega)])))
        clear ht1 ht2
        go_wp2_with fail
        go_ret
        exact ⟨ret_int (by rw [HE.out]; omega), q, rfl⟩
theorem join_any (A B : Option Addr) (n c m d : Nat) (us vs : List Int) (w : World) (hn : n ≤ maxLen) (hm : m ≤ maxLen) (hx : Rd w A n us) (hy : Rd w B m vs) (h100 : n ≤ 100 ∨ m ≤ 100)
    (hu : ∀ x ∈ us, -65536 ≤ x ∧ x ≤ 65536) (hv : ∀ x ∈ vs, -65536 ≤ x ∧ x ≤ 65536) :
    Calls Try.prog 49 #[.slice A n c, .slice B m d] w (Num w (dotL us vs)) := by
  have P1 := fun c d => Lib.hid (dot_any A B n c m d us vs w hn hm hx hy h100 hu hv)
  clear hx hy hu hv h100
  generalize dotL us vs = r at *
  go_enter Try.func49, Try.ntmps49
  go_wp2_with fail
  refine (P1 _ _).out.mono ?_
  rintro e w' ⟨rfl, q, rfl⟩
  go_wp2_with fail
  go_ret
  exact ⟨rfl, q, rfl⟩
set_option maxHeartbeats 1000000 in
theorem split_any (A : Option Addr) (n c : Nat) (xs : List Int) (o : Int) (w : World) (hn : n ≤ 16) (hl : xs.length = n) (hx : Rd w A n (strF xs)) (hp : ∀ x ∈ xs, 1 ≤ x) (h0 : 0 ≤ o) (h1 : o ≤ 65536) (hle : prodL xs ≤ 65536) :
    Calls Try.prog 55 #[.slice A n c, .int .i64 o] w (Makes w (idxL xs o)) := by
  have HX := Lib.hid hx; have HP := Lib.hid hp; have HL := Lib.hid hl; clear hx hp hl
  obtain ⟨L, hL⟩ : ∃ L, L = idxL xs o := ⟨_, rfl⟩
  rw [← hL]
  have HLN := Lib.hid (show L.length = n by rw [hL, idx_len, HL.out])
  have HLL := Lib.hid hL; clear hL
  have HLE := Lib.hid hle; clear hle
  go_enter Try.func55, Try.ntmps55
  go_wp2_with (at_make; refine wpList_zeros rfl _ _ rfl n rfl rfl (by omega) ?_; intro w1 ho hb)
  go_loopw [1, 13] (fun s i wr => ∃ k : Nat, k ≤ n ∧ i = .int .i64 k ∧ ∃ t : Int, s = .int .i64 t ∧ 0 ≤ t ∧ t ≤ 65536 ∧ Hid (L.drop k = idxL (xs.drop k) t) ∧ Own wr w.heap.size (.slice (some ⟨w.heap.size, 0, none⟩) n n) (L.take k ++ List.replicate (n - k) 0) ∧ Below w.heap.size w wr) (fun _ i _ => n - (intOf i).toNat)
  case atStart => exact ⟨0, Nat.zero_le _, rfl, o, rfl, h0, h1, Lib.hid (by rw [HLL.out]; rfl), by simpa using ho, hb⟩
  case round =>
    obtain ⟨k, hk, rfl, t, rfl, ht0, ht1, Hd, hown, hbel⟩ := hrel
    by_cases hlt : k < n
    · have hst : (strF xs)[k]? = some (prodL (xs.drop (k + 1))) := strF_at (by rw [HL.out]; exact hlt)
      obtain ⟨ad, y, rfl, hy, hcx⟩ := (HX.out.below hbel).at_ hlt
      obtain rfl : y = prodL (xs.drop (k + 1)) := by rw [hst] at hy; exact (Option.some.inj hy).symm
      have HN := Lib.hid (idx_step (L := L) (by rw [HL.out]; exact hlt) Hd.out)
      have hp1 : 1 ≤ prodL (xs.drop (k + 1)) := prodL_pos fun z hz => HP.out z (List.mem_of_mem_drop hz)
      have hp2 : prodL (xs.drop (k + 1)) ≤ 65536 := by
        have := prodL_drop_le (xs := xs) (k + 1) fun z hz => HP.out z hz
        have := HLE.out
        omega
      clear hst hy
      have hcell : wr.cell? ⟨w.heap.size, k, none⟩ = some (.int .i64 0) := hown.cellAt (by
        rw [List.getElem?_append_right (by rw [List.length_take]; omega), List.length_take, HLN.out, List.getElem?_replicate, if_pos (by omega)])
      have hfz := hown.frozenAt k
      have hset := hown.set_ k (t / prodL (xs.drop (k + 1)))
      rw [set_next hlt HN.out.1 HLN.out] at hset
      have hbel2 : Below w.heap.size w (wr.setCell ⟨w.heap.size, k, none⟩ (.int .i64 (t / prodL (xs.drop (k + 1))))) := hbel.setCell (Nat.le_refl _) _
      have HN2 := Lib.hid HN.out.2; clear HN
      generalize prodL (xs.drop (k + 1)) = p at *
      have hm0 : 0 ≤ t % p := Int.emod_nonneg _ (by omega)
      have hm1 : t % p ≤ 65536 := by have := Int.emod_lt_of_pos t (b := p) (by omega); omega
      have HM := Lib.hid (And.intro hm0 hm1)
      clear hm0 hm1
      go_wp2_with fail
      go_roundw
      case rel => exact ⟨k + 1, by omega, by go_num, _, rfl, HM.out.1, HM.out.2, HN2, hset, hbel2⟩
      case measure => first | (simp [intOf]; done) | (simp [intOf]; omega)
    · obtain rfl : k = n := by omega
      have HE : Hid (L.take k ++ List.replicate (k - k) 0 = L) := Lib.hid (by rw [List.take_of_length_le (by rw [HLN.out]; omega)]; simp)
      go_wp2_with fail
      go_ret
      rw [HE.out] at hown
      exact ⟨_, rfl, hown, hbel⟩

/-- What layoutOf answers: the strides, and the shape. -/
def Lays (w : World) (A : Option Addr) (n c : Nat) (us : List Int) (e : Ending) (w' : World) : Prop := ∃ S k, e = .returned (.agg #[.slice S n k, .slice A n c]) ∧ Rd w' S n us ∧ Below w.heap.size w w'
theorem layoutOf_any (A : Option Addr) (n c : Nat) (xs : List Int) (w : World) (hn : n ≤ maxLen) (hx : Rd w A n xs) (h0 : chkE xs = 0) :
    Calls Try.prog 40 #[.slice A n c] w (Lays w A n c (strL xs)) := by
  have P1 := fun W h => Lib.hid (strides_any A n c xs W hn h)
  have HLn := Lib.hid (show (strL xs).length = n by rw [str_len h0, hx.1])
  have hx1 := Lib.hid (hx.below ((Below.refl _ w).alloc (Nat.le_refl _) (.cells #[.slice none 0 0, .slice none 0 0] 64)))
  have hb1 := Lib.hid ((Below.refl _ w).alloc (Nat.le_refl _) (.cells #[.slice none 0 0, .slice none 0 0] 64))
  clear hx h0
  generalize strL xs = us at *
  go_enter Try.func40, Try.ntmps40
  go_wp2_with fail
  refine (P1 _ hx1.out).out.mono ?_
  intro e w1 hm
  obtain ⟨S, k, rfl, ho, hb, _, _, _⟩ := hm.out
  have hc0 : w1.cell? ⟨w.heap.size, 0, none⟩ = some (.slice none 0 0) := (hb.cell (p := ⟨w.heap.size, 0, none⟩) (by simp)).trans (by simp)
  have hc1 : w1.cell? ⟨w.heap.size, 1, none⟩ = some (.slice none 0 0) := (hb.cell (p := ⟨w.heap.size, 1, none⟩) (by simp)).trans (by simp)
  have hf0 : w1.frozen? ⟨w.heap.size, 0, none⟩ = false := (hb.frozen (p := ⟨w.heap.size, 0, none⟩) (by simp)).trans (by simp)
  have hf1 : w1.frozen? ⟨w.heap.size, 1, none⟩ = false := (hb.frozen (p := ⟨w.heap.size, 1, none⟩) (by simp)).trans (by simp)
  have HB := Lib.hid ((hb1.out.trans (hb.mono (by simp)) : Below w.heap.size w w1))
  have HO := Lib.hid ho
  clear hm hb ho
  go_wp2_with fail
  refine bodyPost_ret (v := .agg #[.slice S us.length k, .slice A n c]) (by simp [results, Try.results40, go_sem, hc0, hc1]) rfl ⟨S, k, by rw [HLn.out], ?_, ?_⟩
  · have h1 : Own ((w1.setCell ⟨w.heap.size, 0, none⟩ (.slice S us.length k)).setCell ⟨w.heap.size, 1, none⟩ (.slice A n c)) (w.heap.size + 1) (.slice S us.length k) us :=
      ownsRow_setCell_below (ownsRow_setCell_below (show Own w1 (w.heap.size + 1) (.slice S us.length k) us by have := HO.out; simpa using this) (by simp) _) (by simp) _
    have h2 := h1.rd
    generalize ((w1.setCell ⟨w.heap.size, 0, none⟩ (.slice S us.length k)).setCell ⟨w.heap.size, 1, none⟩ (.slice A n c)) = W at *
    rwa [HLn.out] at h2
  · exact (HB.out.setCell (Nat.le_refl _) _).setCell (Nat.le_refl _) _

def Pair (w : World) (r : Int) (b : Bool) (e : Ending) (w' : World) : Prop := e = .returned (.tuple #[.int .i64 r, .bool b]) ∧ Below w.heap.size w w'
/-- What a call answers that makes a list, and says whether there is one. -/
def MakesB (w : World) (xs : List Int) (b : Bool) (e : Ending) (w' : World) : Prop := ∃ v, e = .returned (.tuple #[v, .bool b]) ∧ Own w' w.heap.size v xs ∧ Below w.heap.size w w'
theorem MakesB.out {w : World} {xs : List Int} {b : Bool} {e : Ending} {w' : World} (h : MakesB w xs b e w') : ∃ A c, e = .returned (.tuple #[.slice A xs.length c, .bool b]) ∧ Own w' w.heap.size (.slice A xs.length c) xs ∧ Below w.heap.size w w' ∧ xs.length ≤ c ∧ c ≤ maxLen ∧ (A = none → c = 0) := by
  obtain ⟨v, rfl, h1, h2⟩ := h
  obtain ⟨A, c, rfl, h3, h4, h5⟩ := h1.form
  exact ⟨A, c, rfl, h1, h2, h3, h4, h5⟩

theorem layoutOffset_any (S A B : Option Addr) (n k c m d : Nat) (xs ys : List Int) (w : World) (hn : n ≤ 16) (hm : m ≤ maxLen) (hs : Rd w S n (strL xs)) (hx : Rd w A n xs) (hy : Rd w B m ys) (h0 : chkE xs = 0) :
    Calls Try.prog 41 #[.agg #[.slice S n k, .slice A n c], .slice B m d] w (Pair w (offN xs ys) (vldB xs ys)) := by
  have hw := (Below.refl w.heap.size w).alloc (Nat.le_refl _) (.cells #[.slice S n k, .slice A n c] 64)
  have P1 := valid_any A B n c m d xs ys _ (by unfold maxLen; omega) hm (hx.below hw) (hy.below hw)
  by_cases hv : vldB xs ys = true
  · have ho := off_n h0 hv
    rw [ho.1]
    have P2 := fun W h1 h2 => join_any S B n k m d (strL xs) ys W (by unfold maxLen; omega) hm h1 h2 (by omega) (str_range h0) fun y hy => by have := vld_le hv (fun x hx => (chk_all h0 x hx).2) y hy; omega
    have P2 := P2 _ (hs.below hw) (hy.below hw)
    rw [str_some h0 (vld_ones hv), dot_str] at P2
    rw [hv] at P1 ⊢
    have P1 := Lib.hid P1
    have P2 := Lib.hid P2
    have HW := Lib.hid hw
    rename_i q1 q2 q3; clear q1 q2 q3 hs hx hy h0 hv ho hw
    generalize offL xs ys = r at *
    go_enter Try.func41, Try.ntmps41
    go_wp2_with fail
    refine P1.out.mono ?_
    rintro e w' ⟨rfl, rfl⟩
    go_wp2_with fail
    refine P2.out.mono ?_
    rintro e w' ⟨rfl, q, rfl⟩
    go_wp2_with fail
    go_ret2
    exact ⟨rfl, below_drewN HW.out q⟩
  · have hv : vldB xs ys = false := by simpa using hv
    have e : offN xs ys = 0 := by unfold offN; rw [hv]; rfl
    rw [e]
    rw [hv] at P1 ⊢
    have P1 := Lib.hid P1
    have HW := Lib.hid hw
    rename_i q1 q2; clear q1 q2 hs hx hy h0 hv e hw
    go_enter Try.func41, Try.ntmps41
    go_wp2_with fail
    refine P1.out.mono ?_
    rintro e w' ⟨rfl, rfl⟩
    go_wp2_with fail
    go_ret2
    exact ⟨rfl, HW.out⟩
theorem offset_any (A B : Option Addr) (n c m d : Nat) (xs ys : List Int) (w : World) (hn : n ≤ maxLen) (hm : m ≤ maxLen) (hx : Rd w A n xs) (hy : Rd w B m ys) (h0 : chkE xs = 0) :
    Calls Try.prog 31 #[.slice A n c, .slice B m d] w (Pair w (offN xs ys) (vldB xs ys)) := by
  have hl16 : n ≤ 16 := by have := (chk_len h0).1; rw [hx.1] at this; exact this
  have P1 := fun c => Lib.hid (layoutOf_any A n c xs w hn hx h0)
  have P2 := fun S k c d W hs hx hy => Lib.hid (layoutOffset_any S A B n k c m d xs ys W hl16 hm hs hx hy h0)
  have HX := Lib.hid hx; have HY := Lib.hid hy; clear hx hy h0
  generalize strL xs = us at *
  generalize offN xs ys = r at *
  generalize vldB xs ys = b at *
  go_enter Try.func31, Try.ntmps31
  go_wp2_with fail
  refine (P1 _).out.mono ?_
  rintro e w1 ⟨S, k, rfl, hs, hb⟩
  have HS := Lib.hid hs
  have HB := Lib.hid hb
  clear hs hb
  go_wp2_with fail
  refine (P2 _ _ _ _ _ HS.out (HX.out.below HB.out) (HY.out.below HB.out)).out.mono ?_
  rintro e w2 ⟨rfl, hb⟩
  have HB2 := Lib.hid hb
  clear hb
  go_wp2_with fail
  go_ret2
  exact ⟨rfl, HB.out.trans (HB2.out.mono HB.out.size)⟩
theorem layoutIndex_any (S A : Option Addr) (n k c : Nat) (xs : List Int) (o : Int) (w : World) (hn : n ≤ 16) (hs : Rd w S n (strL xs)) (hx : Rd w A n xs) (h0 : chkE xs = 0) :
    Calls Try.prog 50 #[.agg #[.slice S n k, .slice A n c], .int .i64 o] w (MakesB w (idxN xs o) (inB xs o)) := by
  have hw := (Below.refl w.heap.size w).alloc (Nat.le_refl _) (.cells #[.slice S n k, .slice A n c] 64)
  have P1 := cells_any A n c xs _ (by unfold maxLen; omega) (hx.below hw)
  have hcr := cel_range xs
  by_cases hi : inB xs o = true
  · obtain ⟨hp, ho0, ho1, hle⟩ := in_ones h0 hi
    have hir := of_decide_eq_true hi
    have e : idxN xs o = idxL xs o := by unfold idxN; rw [if_pos hi]
    rw [e, hi]
    have hs2 := hs.below hw
    rw [str_some h0 hp] at hs2
    have P2 := split_any S n k xs o _ hn hx.1 hs2 hp ho0 (by omega) hle
    have P1 := Lib.hid P1
    have P2 := Lib.hid P2
    have HW := Lib.hid hw
    have ho2 := hir.2
    have hlow : ¬ o < 0 := by omega
    have hge : ¬ celN xs ≤ o := by omega
    rename_i q1 q2; clear q1 q2 hs hs2 hx h0 hi hir hp ho1 hle hw e
    generalize celN xs = N at *
    generalize idxL xs o = L at *
    go_enter Try.func50, Try.ntmps50
    go_wp2_with fail
    refine P1.out.mono ?_
    rintro e w' ⟨rfl, rfl⟩
    go_wp2_with fail
    refine P2.out.mono ?_
    intro e w2 hm
    obtain ⟨A2, k2, rfl, hown, hb, _, _, _⟩ := hm.out
    have HO := Lib.hid (hown.le (show w.heap.size ≤ _ by simp))
    have HB := Lib.hid (HW.out.trans (hb.mono (by simp)))
    clear hm hown hb
    go_wp2_with fail
    go_ret2
    exact ⟨_, rfl, HO.out, HB.out⟩
  · have hi : inB xs o = false := by simpa using hi
    have e : idxN xs o = [] := by unfold idxN; rw [hi]; rfl
    rw [e, hi]
    have hir : ¬ (0 ≤ o ∧ o < celN xs) := of_decide_eq_false hi
    have HW := Lib.hid hw
    have P1 := Lib.hid P1
    rename_i q1; clear q1 hs hx h0 hi hw e
    generalize celN xs = N at *
    by_cases hneg : o < 0
    · go_enter Try.func50, Try.ntmps50
      go_wp2_with fail
      go_ret2
      exact ⟨_, rfl, own_nil _ _, HW.out⟩
    · have hge : N ≤ o := by omega
      clear hir
      go_enter Try.func50, Try.ntmps50
      go_wp2_with fail
      refine P1.out.mono ?_
      rintro e w' ⟨rfl, rfl⟩
      go_wp2_with fail
      go_ret2
      exact ⟨_, rfl, own_nil _ _, HW.out⟩
theorem index_any (A : Option Addr) (n c : Nat) (xs : List Int) (o : Int) (w : World) (hn : n ≤ maxLen) (hx : Rd w A n xs) (h0 : chkE xs = 0) :
    Calls Try.prog 45 #[.slice A n c, .int .i64 o] w (MakesB w (idxN xs o) (inB xs o)) := by
  have hl16 : n ≤ 16 := by have := (chk_len h0).1; rw [hx.1] at this; exact this
  have P1 := fun c => Lib.hid (layoutOf_any A n c xs w hn hx h0)
  have P2 := fun S k c W hs hx => Lib.hid (layoutIndex_any S A n k c xs o W hl16 hs hx h0)
  have HX := Lib.hid hx; clear hx h0
  generalize strL xs = us at *
  generalize idxN xs o = L at *
  generalize inB xs o = b at *
  go_enter Try.func45, Try.ntmps45
  go_wp2_with fail
  refine (P1 _).out.mono ?_
  rintro e w1 ⟨S, k, rfl, hs, hb⟩
  have HS := Lib.hid hs
  have HB := Lib.hid hb
  clear hs hb
  go_wp2_with fail
  refine (P2 _ _ _ _ HS.out (HX.out.below HB.out)).out.mono ?_
  intro e w2 hm
  obtain ⟨A2, k2, rfl, hown, hb, _, _, _⟩ := hm.out
  have HO := Lib.hid (hown.le HB.out.size)
  have HB2 := Lib.hid (HB.out.trans (hb.mono HB.out.size))
  clear hm hown hb
  go_wp2_with fail
  go_ret2
  exact ⟨_, rfl, HO.out, HB2.out⟩
end Go.Proofs.Ytbadbjcommdjgaa.gam
