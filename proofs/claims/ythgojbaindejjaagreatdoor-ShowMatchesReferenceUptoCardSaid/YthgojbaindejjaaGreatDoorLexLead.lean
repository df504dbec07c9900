/- Package lex's small functions over texts, and the reference's: letters, digits, the leading characters of a text, its blanks, its words. Package lex: the leading characters of a text that are accepted; without its blanks; its word; whether it is a name. -/
import Derived.Test.YthgojbaindejjaaGreatDoorLexTok
import Derived.Test.YthgojbaindejjaaGreatDoorDecimal
/- Package lex's small functions over texts, and the reference's: letters, digits, the leading characters of a text, its blanks, its words. -/
import Derived.Test.YthgojbaindejjaaGreatDoorShelfL
import Derived.Shelf.Strings.SlTrimAscii
import Derived.Laws.RangeAny
import Derived.Laws.Runes
namespace Go.Proofs.YthgojbaindejjaaGreatDoor.lx
open Go.ChangeShapes Go.WideShapes Go.ChangeAt Go.RowKit Go.Proofs.YthgojbaindejjaaGreatDoor.mem Go.Proofs.YthgojbaindejjaaGreatDoor.txt
set_option linter.unusedVariables false

/-- The bytes of a text. -/
def bl (s : ByteArray) : List UInt8 := s.data.toList
theorem bl_str (l : List UInt8) : bl (strOf l) = l := by simp [bl, txt.strOf]
theorem str_bl (s : ByteArray) : strOf (bl s) = s := Lib.mk_data s
theorem bl_size (s : ByteArray) : (bl s).length = s.size := (Lib.size_eq s).symm
theorem bl_piece (s : ByteArray) (a b : Nat) : bl (s.extract a b) = ((bl s).drop a).take (b - a) := Lib.extract_data s a b
theorem bl_at (s : ByteArray) (k : Nat) (h : k < s.size) : (bl s)[k]? = some (s[k]'h) := by
  rw [List.getElem?_eq_getElem (by rw [bl_size]; exact h)]; rfl
theorem bl_drop (s : ByteArray) (k : Nat) (h : k < s.size) : (bl s).drop k = (s[k]'h) :: (bl s).drop (k + 1) := by
  have := List.drop_eq_getElem_cons (l := bl s) (i := k) (by rw [bl_size]; exact h)
  exact this
theorem piece_str (s : ByteArray) (a b : Nat) : s.extract a b = strOf (((bl s).drop a).take (b - a)) := by rw [← bl_piece, str_bl]

/-- A text is answered; nothing that was there has turned. -/
def Str (w : World) (l : List UInt8) (e : Ending) (w' : World) : Prop := e = .returned (.string (strOf l)) ∧ Below w.heap.size w w'

def digN (r : Nat) : Bool := decide (48 ≤ r ∧ r ≤ 57)
def wpN (r : Nat) : Bool := decide ((65 ≤ r ∧ r ≤ 90) ∨ (97 ≤ r ∧ r ≤ 122) ∨ r = 95 ∨ (48 ≤ r ∧ r ≤ 57))
theorem dig_rune (c : UInt8) : digN c.toNat = digB c := rfl
theorem wp_rune (c : UInt8) : wpN c.toNat = wpB c := by
  rw [Bool.eq_iff_iff, wp_iff, let_iff, dig_iff]; simp [wpN]; omega
theorem dig_high {r : Nat} (h : 128 ≤ r) : digN r = false := by simp [digN]; omega
theorem wp_high {r : Nat} (h : 128 ≤ r) : wpN r = false := by simp [wpN]; omega

theorem runeDigit_any (r : Nat) (w : World) : Calls Tryz.prog 92 #[.int .i32 r] w fun e w' => e = .returned (.bool (digN r)) ∧ w = w' := by
  have h0 : (0 : Int) ≤ r := by omega
  by_cases h1 : (48 : Int) ≤ r <;> by_cases h2 : (r : Int) ≤ 57
  all_goals
    have hq : digN r = (decide ((48 : Int) ≤ r) && decide ((r : Int) ≤ 57)) := by rw [Bool.eq_iff_iff]; simp [digN]; omega
    simp only [h1, h2, decide_true, decide_false, Bool.and_true, Bool.and_false] at hq
    have HQ := Lib.hid hq; clear hq
    go_enter Tryz.func92, Tryz.ntmps92
    go_wp2_with fail
    go_ret
    exact ⟨by rw [HQ.out]; rfl, rfl⟩
theorem wordPart_any (r : Nat) (w : World) : Calls Tryz.prog 91 #[.int .i32 r] w fun e w' => e = .returned (.bool (wpN r)) ∧ w = w' := by
  have h0 : (0 : Int) ≤ r := by omega
  have D := Lib.hid (runeDigit_any r w)
  by_cases g1 : (r : Int) = 95
  · have e : ((r : Int) == 95) = true := by simpa using g1
    have HQ := Lib.hid (show wpN r = true by simp [wpN]; omega)
    clear g1
    go_enter Tryz.func91, Tryz.ntmps91
    go_wp2_with fail
    go_ret
    exact ⟨by rw [HQ.out]; rfl, rfl⟩
  have e : ((r : Int) == 95) = false := by simpa using g1
  by_cases h1 : (65 : Int) ≤ r ∧ (r : Int) ≤ 90
  · obtain ⟨h1, h2⟩ := h1
    have HQ := Lib.hid (show wpN r = true by simp [wpN]; omega)
    clear g1
    go_enter Tryz.func91, Tryz.ntmps91
    go_wp2_with fail
    go_ret
    exact ⟨by rw [HQ.out]; rfl, rfl⟩
  by_cases h2 : (97 : Int) ≤ r ∧ (r : Int) ≤ 122
  · obtain ⟨h2, h3⟩ := h2
    have HQ := Lib.hid (show wpN r = true by simp [wpN]; omega)
    have h4 : (65 : Int) ≤ r := by omega
    have h5 : ¬ (r : Int) ≤ 90 := by omega
    clear g1 h1
    go_enter Tryz.func91, Tryz.ntmps91
    go_wp2_with fail
    go_ret
    exact ⟨by rw [HQ.out]; rfl, rfl⟩
  have HQ := Lib.hid (show wpN r = digN r by rw [Bool.eq_iff_iff]; simp [wpN, digN]; omega)
  clear g1
  by_cases a1 : (65 : Int) ≤ r <;> by_cases a3 : (97 : Int) ≤ r
  all_goals
    try (exfalso; omega)
  · have a2 : ¬ (r : Int) ≤ 90 := by omega
    have a4 : ¬ (r : Int) ≤ 122 := by omega
    clear h1 h2
    go_enter Tryz.func91, Tryz.ntmps91
    go_wp2_with fail
    refine D.out.mono ?_
    rintro e w' ⟨rfl, rfl⟩
    go_wp2_with fail
    go_ret
    exact ⟨by rw [HQ.out]; rfl, rfl⟩
  · have a2 : ¬ (r : Int) ≤ 90 := by omega
    clear h1 h2
    go_enter Tryz.func91, Tryz.ntmps91
    go_wp2_with fail
    refine D.out.mono ?_
    rintro e w' ⟨rfl, rfl⟩
    go_wp2_with fail
    go_ret
    exact ⟨by rw [HQ.out]; rfl, rfl⟩
  · clear h1 h2
    go_enter Tryz.func91, Tryz.ntmps91
    go_wp2_with fail
    refine D.out.mono ?_
    rintro e w' ⟨rfl, rfl⟩
    go_wp2_with fail
    go_ret
    exact ⟨by rw [HQ.out]; rfl, rfl⟩
end Go.Proofs.YthgojbaindejjaaGreatDoor.lx

/- Package lex: the leading characters of a text that are accepted; without its blanks; its word; whether it is a name. -/
namespace Go.Proofs.YthgojbaindejjaaGreatDoor.lx
open Go.ChangeShapes Go.WideShapes Go.ChangeAt Go.RowKit Go.Proofs.YthgojbaindejjaaGreatDoor.mem Go.Proofs.YthgojbaindejjaaGreatDoor.txt
set_option linter.unusedVariables false

theorem below_iter (w : World) (s : ByteArray) (p : Nat) : Below w.heap.size w (w.iter s p) := (Below.refl _ _).alloc (Nat.le_refl _) _
theorem tw_snoc {p : UInt8 → Bool} {l : List UInt8} {k : Nat} {c : UInt8} {r : List UInt8} (h : l.takeWhile p = l.take k ++ (l.drop k).takeWhile p) (hd : l.drop k = c :: r) (hk : l[k]? = some c) (hr : l.drop (k + 1) = r) (hc : p c = true) :
    l.takeWhile p = l.take (k + 1) ++ (l.drop (k + 1)).takeWhile p := by
  rw [h, hd, take_snoc hk, hr, List.takeWhile_cons, if_pos hc, List.append_assoc]; rfl
theorem tw_stop {p : UInt8 → Bool} {l : List UInt8} {k : Nat} {c : UInt8} {r : List UInt8} (h : l.takeWhile p = l.take k ++ (l.drop k).takeWhile p) (hd : l.drop k = c :: r) (hc : p c = false) : l.takeWhile p = l.take k := by
  rw [h, hd, List.takeWhile_cons, hc]; simp

set_option maxHeartbeats 1000000 in
theorem leading_any (g : Nat) (pn : Nat → Bool) (pb : UInt8 → Bool) (hg : ∀ args w, (callFunc g args).run Tryz.prog w = .ok (.enter g args) w) (hc : ∀ r W, Calls Tryz.prog g #[.int .i32 (r : Nat)] W fun e W' => e = .returned (.bool (pn r)) ∧ W = W')
    (hn : ∀ c : UInt8, pn c.toNat = pb c) (hh : ∀ r, 128 ≤ r → pn r = false) (s : ByteArray) (w : World) (hs : s.size ≤ 9223372036854775807) :
    Calls Tryz.prog 90 #[.string s, .func (.func g) #[] #[]] w (Str w ((bl s).takeWhile pb)) := by
  have HC := Lib.hid hc; have HN := Lib.hid hn; have HH := Lib.hid hh
  obtain ⟨T, hT⟩ : ∃ T, T = (bl s).takeWhile pb := ⟨_, rfl⟩
  rw [← hT]
  have HT := Lib.hid hT
  clear hc hn hh hT
  go_enter Tryz.func90, Tryz.ntmps90
  go_wp2_with fail
  go_loopw [] (fun w' => ∃ pos : Nat, pos ≤ s.size ∧ w' = w.iter s pos ∧ Hid (T = (bl s).take pos ++ ((bl s).drop pos).takeWhile pb)) (fun w' => s.size - w'.iterPos w.heap.size)
  case atStart => exact ⟨0, Nat.zero_le _, rfl, Lib.hid (by rw [HT.out]; rfl)⟩
  case round =>
    obtain ⟨pos, hpos, rfl, HR⟩ := hrel
    by_cases hp : pos < s.size
    · have hnx : ∀ ty, (Instr.next (.pointer (some ⟨w.heap.size, 0, none⟩)) true ty).run Tryz.prog (w.iter s pos) = _ := fun ty => run_next_any w s pos ty hp
      have HD := Lib.hid (bl_drop s pos hp)
      have HA := Lib.hid (bl_at s pos hp)
      have HE : Hid (pn (Utf8.decode s pos).1 = pb s[pos]) := Lib.hid (by
        by_cases ha : (s[pos]'hp).toNat < 128
        · rw [decode_ascii s pos hp ha]; exact HN.out _
        · rw [HH.out _ (decode_high s pos hp (by omega)).1, ← HN.out, HH.out _ (by omega)])
      have HF : Hid (pb s[pos] = true → (Utf8.decode s pos).2 = 1) := Lib.hid (fun h => by
        by_cases ha : (s[pos]'hp).toNat < 128
        · rw [decode_ascii s pos hp ha]
        · rw [← HN.out, HH.out _ (by omega)] at h; cases h)
      obtain ⟨d, hd⟩ : ∃ d, d = (Utf8.decode s pos).1 := ⟨_, rfl⟩
      obtain ⟨n, hn⟩ : ∃ n, n = (Utf8.decode s pos).2 := ⟨_, rfl⟩
      rw [← hd, ← hn] at hnx
      rw [← hd] at HE
      rw [← hn] at HF
      clear hd hn
      obtain ⟨b, hb⟩ : ∃ b, b = pb s[pos] := ⟨_, rfl⟩
      rw [← hb] at HE
      have HB := Lib.hid hb
      clear hb
      cases b
      · have HX := Lib.hid (show s.extract 0 pos = strOf T by
          rw [piece_str]; congr 1
          have := HR.out
          rw [HT.out] at this ⊢
          rw [tw_stop this HD.out HB.out.symm]
          simp)
        go_wp2_with fail
        refine (HC.out d _).mono ?_
        rintro e w' ⟨rfl, rfl⟩
        have hpd := HE.out
        go_wp2_with fail
        go_ret
        exact ⟨by rw [← HX.out]; rfl, below_iter _ _ _⟩
      · have hn1 := HF.out HB.out.symm
        subst hn1
        have HR2 := Lib.hid (show T = (bl s).take (pos + 1) ++ ((bl s).drop (pos + 1)).takeWhile pb by
          have := HR.out
          rw [HT.out] at this ⊢
          exact tw_snoc this HD.out HA.out rfl HB.out.symm)
        go_wp2_with fail
        refine (HC.out d _).mono ?_
        rintro e w' ⟨rfl, rfl⟩
        have hpd := HE.out
        go_wp2_with fail
        go_roundw
        case rel => exact ⟨pos + 1, by omega, rfl, HR2⟩
        case measure => simp; omega
    · have hnx : ∀ ty, (Instr.next (.pointer (some ⟨w.heap.size, 0, none⟩)) true ty).run Tryz.prog (w.iter s pos) = _ := fun ty => run_next_end w s pos ty hp
      have HX := Lib.hid (show s = strOf T by
        rw [HR.out, List.take_of_length_le (by rw [bl_size]; omega), List.drop_eq_nil_of_le (by rw [bl_size]; omega), List.takeWhile_nil, List.append_nil, str_bl])
      go_wp2_with fail
      go_ret
      exact ⟨by rw [← HX.out]; rfl, below_iter _ _ _⟩
theorem leadWp_any (s : ByteArray) (w : World) (hs : s.size ≤ 9223372036854775807) : Calls Tryz.prog 90 #[.string s, .func (.func 91) #[] #[]] w (Str w ((bl s).takeWhile wpB)) :=
  leading_any 91 wpN wpB (fun _ _ => by kernel_rfl) wordPart_any wp_rune (fun _ h => wp_high h) s w hs
theorem leadDig_any (s : ByteArray) (w : World) (hs : s.size ≤ 9223372036854775807) : Calls Tryz.prog 90 #[.string s, .func (.func 92) #[] #[]] w (Str w ((bl s).takeWhile digB)) :=
  leading_any 92 digN digB (fun _ _ => by kernel_rfl) runeDigit_any dig_rune (fun _ h => dig_high h) s w hs
theorem blank_set (l : List UInt8) : Lib.trimLeftS l [32, 9, 13] = l.dropWhile blB := by
  unfold Lib.trimLeftS
  congr 1
  funext c
  rw [Bool.eq_iff_iff, bl_iff]
  simp only [List.contains_cons, List.contains_nil, Bool.or_false, Bool.or_eq_true, beq_iff_eq]
  constructor
  · rintro (h | h | h) <;> subst h <;> decide
  · rintro (h | h | h)
    · exact .inl (UInt8.toNat_inj.1 h)
    · exact .inr (.inl (UInt8.toNat_inj.1 h))
    · exact .inr (.inr (UInt8.toNat_inj.1 h))
theorem skip_any (s : ByteArray) (w : World) : Calls Tryz.prog 68 #[.string s] w (Str w ((bl s).dropWhile blB)) := by
  have T := Lib.hid (show Calls Tryz.prog 78 #[.string s, .string ⟨#[32, 9, 13]⟩] w (Str w ((bl s).dropWhile blB)) from
    (Any.strings_TrimLeft_laid Tryz.lays161 (by kernel_rfl) s ⟨#[32, 9, 13]⟩ w (by decide) (ascii_of_all (by decide))).mono fun e w' ⟨h1, h2⟩ => ⟨by rw [h1, ← blank_set]; rfl, h2⟩)
  obtain ⟨R, hR⟩ : ∃ R, R = (bl s).dropWhile blB := ⟨_, rfl⟩
  rw [← hR] at T ⊢
  clear hR
  go_enter Tryz.func68, Tryz.ntmps68
  go_wp2_with fail
  refine T.out.mono ?_
  rintro e w' ⟨rfl, hb⟩
  have HB := Lib.hid hb; clear hb
  go_wp2_with fail
  go_ret
  exact ⟨rfl, HB.out⟩
theorem empty_list {l : List UInt8} (h : l = []) : (strOf l).toList.isEmpty = true ∧ (strOf l).toList = [] := by
  subst h
  have e : (strOf []).toList = [] := by rw [Lib.toList_data]; exact bl_str []
  exact ⟨by rw [e]; rfl, e⟩
theorem full_list {l : List UInt8} (h : l ≠ []) : (strOf l).toList.isEmpty = false ∧ ¬ (strOf l).toList = [] := by
  have e : (strOf l).toList = l := by rw [Lib.toList_data]; exact bl_str l
  rw [e]
  exact ⟨by simpa using h, h⟩
/-- A text and no number. -/
def StrN (w : World) (l : List UInt8) (n : Int) (e : Ending) (w' : World) : Prop := e = .returned (.tuple #[.string (strOf l), .int .i64 n]) ∧ Below w.heap.size w w'
theorem word_any (s : ByteArray) (w : World) (hs : s.size ≤ 9223372036854775807) : Calls Tryz.prog 79 #[.string s] w (StrN w (wordL (bl s)) 0) := by
  have L1 := Lib.hid (leadWp_any s w hs)
  have hl := tw_len wpB (bl s)
  rw [bl_size] at hl
  have hW : wordL (bl s) = if ((bl s).takeWhile wpB).takeWhile digB = [] then (bl s).takeWhile wpB else [] := rfl
  obtain ⟨t, ht⟩ : ∃ t, t = (bl s).takeWhile wpB := ⟨_, rfl⟩
  rw [← ht] at L1 hW hl
  obtain ⟨u, hu⟩ : ∃ u, u = t.takeWhile digB := ⟨_, rfl⟩
  rw [← hu] at hW
  have L2 := Lib.hid (fun W => leadDig_any (strOf t) W (by rw [strOf_size]; omega))
  rw [bl_str, ← hu] at L2
  obtain ⟨R, hR⟩ : ∃ R, R = wordL (bl s) := ⟨_, rfl⟩
  rw [← hR] at hW ⊢
  clear ht hu hR hl
  by_cases h0 : u = []
  · have hR : R = t := by rw [hW, if_pos h0]
    obtain ⟨e1, e2⟩ := empty_list h0
    subst hR
    clear hW h0
    go_enter Tryz.func79, Tryz.ntmps79
    go_wp2_with fail
    refine L1.out.mono ?_
    rintro e w1 ⟨rfl, hb⟩
    have HB := Lib.hid hb; clear hb
    go_wp2_with fail
    refine (L2.out w1).mono ?_
    rintro e w2 ⟨rfl, hb⟩
    have HB2 := Lib.hid (HB.out.trans (hb.mono HB.out.size)); clear hb
    go_wp2_with fail
    go_ret2
    exact ⟨rfl, HB2.out⟩
  · have hR : R = [] := by rw [hW, if_neg h0]
    obtain ⟨e1, e2⟩ := full_list h0
    subst hR
    clear hW h0
    go_enter Tryz.func79, Tryz.ntmps79
    go_wp2_with fail
    refine L1.out.mono ?_
    rintro e w1 ⟨rfl, hb⟩
    have HB := Lib.hid hb; clear hb
    go_wp2_with fail
    refine (L2.out w1).mono ?_
    rintro e w2 ⟨rfl, hb⟩
    have HB2 := Lib.hid (HB.out.trans (hb.mono HB.out.size)); clear hb
    go_wp2_with fail
    go_ret2
    exact ⟨rfl, HB2.out⟩
def nameB (l : List UInt8) : Bool := decide (l ≠ []) && (wordL l == l)
theorem str_same (a b : List UInt8) : ((strOf a).toList == (strOf b).toList) = (a == b) := by
  rw [Lib.toList_data, Lib.toList_data]
  show ((bl (strOf a)) == (bl (strOf b))) = _
  rw [bl_str, bl_str]
end Go.Proofs.YthgojbaindejjaaGreatDoor.lx
