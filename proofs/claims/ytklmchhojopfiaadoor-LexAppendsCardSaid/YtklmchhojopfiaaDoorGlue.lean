/- Package lex: the texts of tokens, one behind the other (Glue). -/
import Derived.Test.YtklmchhojopfiaaDoorBuild
import Derived.Test.YtklmchhojopfiaaDoorTokSame
namespace Go.Proofs.YtklmchhojopfiaaDoor.lx
open Go.ChangeShapes Go.WideShapes Go.ChangeAt Go.RowKit Go.Proofs.YtklmchhojopfiaaDoor.mem Go.Proofs.YtklmchhojopfiaaDoor.txt Go.Proofs.YtklmchhojopfiaaDoor.bld
set_option linter.unusedVariables false

def sepK (x y : Tk) : List UInt8 := if x.k ≠ 3 ∧ y.k ≠ 3 then [32] else []
def glueF (p : Tk) : List Tk → List UInt8
  | [] => []
  | x :: r => sepK p x ++ x.t ++ glueF x r
/-- The texts of tokens, with a space between two that are no glyphs. -/
def glueL : List Tk → List UInt8
  | [] => []
  | x :: r => x.t ++ glueF x r
theorem glueF_snoc : ∀ (r : List Tk) (p x y : Tk), glueF p (r ++ [x, y]) = glueF p (r ++ [x]) ++ (sepK x y ++ y.t)
  | [], p, x, y => by simp [glueF]
  | z :: r, p, x, y => by simp only [List.cons_append, glueF, glueF_snoc r z x y, List.append_assoc]
theorem glue_next {L : List Tk} {k : Nat} {x y : Tk} (hx : L[k]? = some x) (hy : L[k + 1]? = some y) : glueL (L.take (k + 2)) = glueL (L.take (k + 1)) ++ (sepK x y ++ y.t) := by
  rw [take_snoc hy, take_snoc hx, List.append_assoc]
  cases h : L.take k with
  | nil => simp [glueL, glueF]
  | cons z r => simp only [List.cons_append, List.nil_append, glueL, glueF_snoc, List.append_assoc]
theorem glue_one {L : List Tk} {x : Tk} (hx : L[0]? = some x) : glueL (L.take 1) = x.t := by rw [take_snoc hx]; simp [glueL, glueF]
theorem glueF_take_le : ∀ (r : List Tk) (p : Tk) (k : Nat), (glueF p (r.take k)).length ≤ (glueF p r).length
  | [], p, k => by simp
  | x :: r, p, 0 => by simp [glueF]
  | x :: r, p, k + 1 => by
    have := glueF_take_le r x k
    simp only [List.take_succ_cons, glueF, List.length_append]; omega
theorem glue_take_le (L : List Tk) (k : Nat) : (glueL (L.take k)).length ≤ (glueL L).length := by
  cases L with
  | nil => simp
  | cons x r =>
    cases k with
    | zero => simp [glueL]
    | succ k =>
      have := glueF_take_le r x k
      simp only [List.take_succ_cons, glueL, List.length_append]; omega
/-- A block of a token's cells. -/
def BoxK (w : World) (b : Nat) (x : Tk) : Prop := w.heap[b]? = some (.cells #[.int .i64 x.k, .string (txt.strOf x.t), .int .i64 x.n] 35 (0, 0))
theorem BoxK.kept {w w' : World} {b c : Nat} {x : Tk} (h : BoxK w b x) (hk : Lib.OthersKept 5 (some c) w w') (hne : b ≠ c) : BoxK w' b x :=
  hk b _ h (fun e => hne (Option.some.inj e)) (fun c fz e => by injection e with _ e _; exact absurd e (by decide))
theorem BoxK.cells {w : World} {b : Nat} {x : Tk} (h : BoxK w b x) : w.cell? ⟨b, 0, none⟩ = some (.int .i64 x.k) ∧ w.cell? ⟨b, 1, none⟩ = some (.string (txt.strOf x.t)) := by
  refine ⟨?_, ?_⟩ <;> rw [Lib.cell_of_heap h] <;> rfl
set_option maxHeartbeats 4000000 in
set_option maxRecDepth 100000 in
theorem glue_any (A : Option Addr) (n c : Nat) (L : List Tk) (w : World) (hn : n ≤ 1000000) (hr : RdK w A n L) (hl : (glueL L).length ≤ 100000000) :
    Calls Tryd.prog 16 #[.slice A n c] w fun e w' => e = .returned (.string (strOf (glueL L))) ∧ Below w.heap.size w w' := by
  have HR := Lib.hid hr
  have HLN := Lib.hid (fun k => show (glueL (L.take k)).length ≤ 100000000 from Nat.le_trans (glue_take_le L k) hl)
  have WS := Lib.hid (fun (b : Nat) (l m : List UInt8) (W : World) h h2 h3 => writeString_any w.heap.size b l m W h h2 h3)
  have WB := Lib.hid (fun (b : Nat) (l : List UInt8) (W : World) h h2 h3 => writeByte_any w.heap.size b l 32 W h h2 h3)
  have ST := Lib.hid (fun (b : Nat) (l : List UInt8) (W : World) h h2 => string_any w.heap.size b l W h h2)
  have HF := Lib.hid (show Bld w.heap.size w.heap.size [] (w.alloc (.cells #[.pointer none, .slice none 0 0] 56)) from Lib.fresh_isBuilder _ _ w)
  have HB0 := Lib.hid (show Below w.heap.size w (w.alloc (.cells #[.pointer none, .slice none 0 0] 56)) from (Below.refl _ _).alloc (Nat.le_refl _) _)
  have HSZ0 := Lib.hid (show w.heap.size < (w.alloc (.cells #[.pointer none, .slice none 0 0] 56)).heap.size by simp)
  clear hr hl
  go_enter Tryd.func16, Tryd.ntmps16
  go_wp2_with fail
  go_loopw [8] (fun i wr => ∃ k : Nat, k ≤ n ∧ i = .int .i64 k ∧ Hid (Bld w.heap.size w.heap.size (glueL (L.take k)) wr) ∧ Hid (Below w.heap.size w wr) ∧ Hid (w.heap.size < wr.heap.size)) (fun i _ => n - (intOf i).toNat)
  case atStart => exact ⟨0, Nat.zero_le _, rfl, HF, HB0, HSZ0⟩
  case round =>
    obtain ⟨k, hk, rfl, HBD, HB, HSZ⟩ := hrel
    by_cases hlt : k < n
    · obtain ⟨y, hy⟩ : ∃ y, L[k]? = some y := ⟨_, List.getElem?_eq_getElem (by rw [HR.out.1]; exact hlt)⟩
      obtain ⟨ad, rfl, _, c1, c2, c3⟩ := (HR.out.below HB.out).2 k y hy
      replace c2 := cell_snd c2
      replace c3 := cell_trd c3
      have HBX := Lib.hid (show ∀ t, t = 35 → BoxK (wr.alloc (.cells #[.int .i64 y.k, .string (txt.strOf y.t), .int .i64 y.n] t)) wr.heap.size y from fun t ht => by subst ht; exact heap_alloc_new wr _)
      have HBD1 := Lib.hid (HBD.out.alloc (.cells #[.int .i64 y.k, .string (txt.strOf y.t), .int .i64 y.n] 35))
      have HB1 := Lib.hid (HB.out.alloc HB.out.size (.cells #[.int .i64 y.k, .string (txt.strOf y.t), .int .i64 y.n] 35))
      have HSZ1 := Lib.hid (show w.heap.size < (wr.alloc (.cells #[.int .i64 y.k, .string (txt.strOf y.t), .int .i64 y.n] 35)).heap.size by have := HSZ.out; simp; omega)
      have HBX1 := Lib.hid (HBX.out _ rfl)
      have hlen := HLN.out (k + 1)
      have HLL := Lib.hid hlen
      clear hlen HBX
      obtain ⟨G, hG⟩ : ∃ G, G = glueL (L.take k) := ⟨_, rfl⟩
      rw [← hG] at HBD1
      have HGE := Lib.hid hG
      clear hG
      rcases Nat.eq_zero_or_pos k with h0 | h0
      · have HG : Hid (glueL (L.take (k + 1)) = G ++ y.t) := Lib.hid (by
          rw [HGE.out, h0, glue_one (by rw [← h0]; exact hy)]; simp [glueL])
        have h0' : ¬ 0 < k := by omega
        have h0'' : ¬ (0 : Int) < k := by omega
        clear hy h0
        go_wp2_with fail
        refine (WS.out w.heap.size G y.t _ HBD1.out (by have := HLL.out; rw [HG.out] at this; simp only [List.length_append] at this; omega) (by have := HSZ1.out; omega)).mono ?_
        rintro e w5 ⟨rfl, hwr⟩
        have HB5 := Lib.hid (HB1.out.trans hwr.2.1)
        have HD5 := Lib.hid (show Bld w.heap.size w.heap.size (glueL (L.take (k + 1))) w5 by rw [HG.out]; exact hwr.1)
        have HS5 := Lib.hid (Nat.lt_of_lt_of_le HSZ1.out hwr.2.1.size)
        clear hwr
        go_wp2_with fail
        go_roundw
        case rel => exact ⟨k + 1, by omega, by go_num, HD5, HB5, HS5⟩
        case measure => first | (simp [intOf]; done) | (simp [intOf]; omega)
      · obtain ⟨j, hj⟩ : ∃ j : Nat, j = k - 1 := ⟨_, rfl⟩
        obtain ⟨x, hx⟩ : ∃ x, L[j]? = some x := ⟨_, List.getElem?_eq_getElem (by rw [HR.out.1]; omega)⟩
        obtain ⟨ad2, e2, _, d1, _, _⟩ := (HR.out.below HB1.out).2 j x hx
        obtain rfl := Option.some.inj e2
        have hji : (k : Int) - 1 = j := by omega
        have hjn : (j : Int) < n := by omega
        have h0'' : (0 : Int) < k := by omega
        have HG0 : Hid (glueL (L.take (k + 1)) = G ++ (sepK x y ++ y.t)) := Lib.hid (by
          have := glue_next hx (show L[j + 1]? = some y by rw [show j + 1 = k by omega]; exact hy)
          rw [show j + 2 = k + 1 by omega, show j + 1 = k by omega] at this
          rw [HGE.out]; exact this)
        have hsep : sepK x y = if x.k ≠ 3 ∧ y.k ≠ 3 then [32] else [] := rfl
        obtain ⟨b1, hb1⟩ : ∃ b, (y.k != 3) = b := ⟨_, rfl⟩
        obtain ⟨b2, hb2⟩ : ∃ b, (x.k != 3) = b := ⟨_, rfl⟩
        have hb3 : (y.k == 3) = !b1 := by rw [← hb1]; simp [bne]
        have hb4 : (x.k == 3) = !b2 := by rw [← hb2]; simp [bne]
        by_cases hbb : b1 = true ∧ b2 = true
        · obtain ⟨rfl, rfl⟩ := hbb
          have HG : Hid (glueL (L.take (k + 1)) = (G ++ [32]) ++ y.t) := Lib.hid (by
            rw [HG0.out, hsep, if_pos (by simp at hb1 hb2; exact ⟨hb2, hb1⟩)]; simp)
          clear hy hx hj hsep HG0 e2
          go_wp2_with fail
          refine (WB.out w.heap.size G _ HBD1.out (by have := HLL.out; rw [HG.out] at this; simp only [List.length_append] at this; omega) (by have := HSZ1.out; omega)).mono ?_
          rintro e w4 ⟨rfl, hwr⟩
          have HB4 := Lib.hid (HB1.out.trans hwr.2.1)
          have HD4 := Lib.hid hwr.1
          have HS4 := Lib.hid (Nat.lt_of_lt_of_le HSZ1.out hwr.2.1.size)
          obtain ⟨_, g2⟩ := (HBX1.out.kept hwr.2.2 (by have := HSZ.out; omega)).cells
          clear hwr
          go_wp2_with fail
          refine (WS.out w.heap.size (G ++ [32]) y.t _ HD4.out (by have := HLL.out; rw [HG.out] at this; simp only [List.length_append] at this ⊢; omega) (by have := HS4.out; omega)).mono ?_
          rintro e w5 ⟨rfl, hwr⟩
          have HB5 := Lib.hid (HB4.out.trans hwr.2.1)
          have HD5 := Lib.hid (show Bld w.heap.size w.heap.size (glueL (L.take (k + 1))) w5 by rw [HG.out]; exact hwr.1)
          have HS5 := Lib.hid (Nat.lt_of_lt_of_le HS4.out hwr.2.1.size)
          clear hwr
          go_wp2_with fail
          go_roundw
          case rel => exact ⟨k + 1, by omega, by go_num, HD5, HB5, HS5⟩
          case measure => first | (simp [intOf]; done) | (simp [intOf]; omega)
        · have HG : Hid (glueL (L.take (k + 1)) = G ++ y.t) := Lib.hid (by
            rw [HG0.out, hsep, if_neg (fun h => hbb ⟨by rw [← hb1]; simp [h.2], by rw [← hb2]; simp [h.1]⟩)]; simp)
          clear hy hx hj hsep HG0 e2
          cases b1
          · clear hbb
            go_wp2_with fail
            refine (WS.out w.heap.size G y.t _ HBD1.out (by have := HLL.out; rw [HG.out] at this; simp only [List.length_append] at this; omega) (by have := HSZ1.out; omega)).mono ?_
            rintro e w5 ⟨rfl, hwr⟩
            have HB5 := Lib.hid (HB1.out.trans hwr.2.1)
            have HD5 := Lib.hid (show Bld w.heap.size w.heap.size (glueL (L.take (k + 1))) w5 by rw [HG.out]; exact hwr.1)
            have HS5 := Lib.hid (Nat.lt_of_lt_of_le HSZ1.out hwr.2.1.size)
            clear hwr
            go_wp2_with fail
            go_roundw
            case rel => exact ⟨k + 1, by omega, by go_num, HD5, HB5, HS5⟩
            case measure => first | (simp [intOf]; done) | (simp [intOf]; omega)
          · have hbf : b2 = false := by cases b2; rfl; exact absurd ⟨rfl, rfl⟩ hbb
            subst hbf
            clear hbb
            go_wp2_with fail
            refine (WS.out w.heap.size G y.t _ HBD1.out (by have := HLL.out; rw [HG.out] at this; simp only [List.length_append] at this; omega) (by have := HSZ1.out; omega)).mono ?_
            rintro e w5 ⟨rfl, hwr⟩
            have HB5 := Lib.hid (HB1.out.trans hwr.2.1)
            have HD5 := Lib.hid (show Bld w.heap.size w.heap.size (glueL (L.take (k + 1))) w5 by rw [HG.out]; exact hwr.1)
            have HS5 := Lib.hid (Nat.lt_of_lt_of_le HSZ1.out hwr.2.1.size)
            clear hwr
            go_wp2_with fail
            go_roundw
            case rel => exact ⟨k + 1, by omega, by go_num, HD5, HB5, HS5⟩
            case measure => first | (simp [intOf]; done) | (simp [intOf]; omega)
    · obtain rfl : k = n := by omega
      have HD9 := Lib.hid (show Bld w.heap.size w.heap.size (glueL L) wr by
        have := HBD.out
        rw [List.take_of_length_le (by rw [HR.out.1]; omega)] at this
        exact this)
      have HT9 := Lib.hid (ST.out w.heap.size (glueL L) wr HD9.out HB.out.size)
      go_wp2_with fail
      refine HT9.out.mono ?_
      rintro e w5 ⟨rfl, hb5⟩
      have HB5 := Lib.hid (HB.out.trans hb5); clear hb5
      go_wp2_with fail
      go_ret
      exact ⟨rfl, HB5.out⟩
end Go.Proofs.YtklmchhojopfiaaDoor.lx
