/- The reference's texts: of a function with its axis, of a tree. The reference's texts: of a line, of a text that is tidied. -/
import Derived.Test.YthgojbaindejjaaGreatDoorShMath
import Derived.Test.YthgojbaindejjaaGreatDoorLexNam
import Derived.Test.YthgojbaindejjaaGreatDoorPsROps
import Derived.Test.YthgojbaindejjaaGreatDoorPsText
import Derived.Test.YthgojbaindejjaaGreatDoorPsRLine
import Derived.Test.YthgojbaindejjaaGreatDoorPsRExpr
import Derived.Deep.RegionHeld3
/- The reference's texts: of a function with its axis, of a tree. -/
namespace Go.Proofs.YthgojbaindejjaaGreatDoor.sh
open Go.ChangeShapes Go.WideShapes Go.ChangeAt Go.RowKit Go.Proofs.YthgojbaindejjaaGreatDoor.mem Go.Proofs.YthgojbaindejjaaGreatDoor.lx Go.Proofs.YthgojbaindejjaaGreatDoor.tr Go.Proofs.YthgojbaindejjaaGreatDoor.ps
set_option linter.unusedVariables false
set_option linter.unusedSimpArgs false

/-- A text is answered. -/
def StrTo (w : World) (l : List UInt8) (e : Ending) (w' : World) : Prop := e = .returned (.string (txt.strOf l)) ∧ Below w.heap.size w w'
theorem itoa_dec {x : Int} (h : 0 ≤ x) : Lib.itoa x = decL x := by unfold decL Lib.itoa; rw [if_neg (by omega), if_neg (by omega)]
theorem axis_dec {x : Int} (h1 : 0 ≤ x) (h2 : x ≤ 15) : (decL x).length ≤ 30 := decL_len x (by omega) (by omega)
set_option maxHeartbeats 4000000 in
set_option maxRecDepth 100000 in
theorem refFn_any {F ax : Int} (hF1 : 1 ≤ F) (hF2 : F ≤ 6) (hax : ax = -1 ∨ (0 ≤ ax ∧ ax ≤ 15)) (k : Int) (s : ByteArray) (A B : Option Addr) (n c m d : Nat) (w : World) :
    Calls Tryz.prog 23 #[.agg #[.int .i64 k, .int .i64 F, .int .i64 ax, .string s, .slice A n c, .slice B m d]] w (StrTo w (fnS F ax)) := by
  obtain ⟨W, hW⟩ : ∃ W, W = w.alloc (.cells #[.int .i64 k, .int .i64 F, .int .i64 ax, .string s, .slice A n c, .slice B m d] 25) := ⟨_, rfl⟩
  obtain ⟨hS, hbW, hsW⟩ := six_new hW
  obtain ⟨V, hV⟩ : ∃ V, V = W.alloc (.cells #[.string ⟨#[226, 134, 145]⟩, .string ⟨#[226, 134, 147]⟩, .string ⟨#[226, 140, 189]⟩, .string ⟨#[226, 141, 137]⟩, .string ⟨#[226, 141, 180]⟩, .string ⟨#[44]⟩] 9) := ⟨_, rfl⟩
  have hbV : Below W.heap.size W V := by rw [hV]; exact (Below.refl _ _).alloc (Nat.le_refl _) _
  have hS2 := hS.below hbV
  have f1 : (W.alloc (.cells #[.string ⟨#[226, 134, 145]⟩, .string ⟨#[226, 134, 147]⟩, .string ⟨#[226, 140, 189]⟩, .string ⟨#[226, 141, 137]⟩, .string ⟨#[226, 141, 180]⟩, .string ⟨#[44]⟩] 9)).cell? ⟨w.heap.size, 1, none⟩ = some (.int .i64 F) := by rw [← hV]; exact hS2.c1
  have f2 : (W.alloc (.cells #[.string ⟨#[226, 134, 145]⟩, .string ⟨#[226, 134, 147]⟩, .string ⟨#[226, 140, 189]⟩, .string ⟨#[226, 141, 137]⟩, .string ⟨#[226, 141, 180]⟩, .string ⟨#[44]⟩] 9)).cell? ⟨w.heap.size, 2, none⟩ = some (.int .i64 ax) := by rw [← hV]; exact hS2.c2
  have HB := Lib.hid (hbW.trans (hbV.mono hbW.size))
  have HV := Lib.hid hV
  have HW := Lib.hid hW
  clear hS hbW hsW hbV hS2 hW hV
  rcases hax with rfl | ⟨ha1, ha2⟩
  · have HE : Hid (fnS F (-1) = glyF F) := Lib.hid (by unfold fnS axS; rw [if_neg (by decide), List.append_nil])
    rcases six hF1 hF2 with rfl | rfl | rfl | rfl | rfl | rfl
    all_goals
      clear hF1 hF2
      go_enter Tryz.func23, Tryz.ntmps23
      go_upto_region 1 with fail
      rw [← HW.out]
      go_wp2_with fail
      go_ret
      exact ⟨by rw [HE.out]; rfl, by rw [HV.out] at HB; exact HB.out⟩
  · have PD := Lib.hid (fun W => txt.decimal_any ax (by omega) (by omega) W)
    rw [itoa_dec ha1] at PD
    have hdl := axis_dec ha1 ha2
    obtain ⟨g, hg⟩ : ∃ g, g = glyF F := ⟨_, rfl⟩
    have hgl : g.length ≤ 3 := by rw [hg]; rcases six hF1 hF2 with rfl | rfl | rfl | rfl | rfl | rfl <;> decide
    obtain ⟨X1, hX1⟩ : ∃ X, X = g ++ ([91] : List UInt8) := ⟨_, rfl⟩
    obtain ⟨X2, hX2⟩ : ∃ X, X = X1 ++ decL ax := ⟨_, rfl⟩
    obtain ⟨X3, hX3⟩ : ∃ X, X = X2 ++ ([93] : List UInt8) := ⟨_, rfl⟩
    have c1 : ∀ W, (Op.stringOp .add (txt.strOf g) ⟨#[91]⟩).run Tryz.prog W = .ok (.string (txt.strOf X1)) W := by rw [hX1]; exact txt.cat_run g [91] (by simp only [List.length_cons, List.length_nil]; omega)
    have c2 : ∀ W, (Op.stringOp .add (txt.strOf X1) (txt.strOf (decL ax))).run Tryz.prog W = .ok (.string (txt.strOf X2)) W := by rw [hX2]; exact txt.cat_run X1 (decL ax) (by rw [hX1]; simp only [List.length_append, List.length_cons, List.length_nil]; omega)
    have c3 : ∀ W, (Op.stringOp .add (txt.strOf X2) ⟨#[93]⟩).run Tryz.prog W = .ok (.string (txt.strOf X3)) W := by rw [hX3]; exact txt.cat_run X2 [93] (by rw [hX2, hX1]; simp only [List.length_append, List.length_cons, List.length_nil]; omega)
    have HE : Hid (fnS F ax = X3) := Lib.hid (by unfold fnS axS; rw [if_pos ha1, hX3, hX2, hX1, hg]; simp)
    have hG : (F = 1 ∧ txt.strOf g = ⟨#[226, 134, 145]⟩) ∨ (F = 2 ∧ txt.strOf g = ⟨#[226, 134, 147]⟩) ∨ (F = 3 ∧ txt.strOf g = ⟨#[226, 140, 189]⟩) ∨ (F = 4 ∧ txt.strOf g = ⟨#[226, 141, 137]⟩) ∨ (F = 5 ∧ txt.strOf g = ⟨#[226, 141, 180]⟩) ∨ (F = 6 ∧ txt.strOf g = ⟨#[44]⟩) := by
      subst hg
      rcases six hF1 hF2 with rfl | rfl | rfl | rfl | rfl | rfl
      · exact .inl ⟨rfl, rfl⟩
      · exact .inr (.inl ⟨rfl, rfl⟩)
      · exact .inr (.inr (.inl ⟨rfl, rfl⟩))
      · exact .inr (.inr (.inr (.inl ⟨rfl, rfl⟩)))
      · exact .inr (.inr (.inr (.inr (.inl ⟨rfl, rfl⟩))))
      · exact .inr (.inr (.inr (.inr (.inr ⟨rfl, rfl⟩))))
    clear hg hgl hX1 hX2 hX3 hdl hF1 hF2
    rcases hG with ⟨rfl, hG⟩ | ⟨rfl, hG⟩ | ⟨rfl, hG⟩ | ⟨rfl, hG⟩ | ⟨rfl, hG⟩ | ⟨rfl, hG⟩
    all_goals
      rw [hG] at c1
      clear hG
      go_enter Tryz.func23, Tryz.ntmps23
      go_upto_region 1 with fail
      rw [← HW.out]
      go_wp2_with fail
      refine (PD.out _).mono ?_
      rintro e w2 ⟨rfl, hw⟩
      obtain rfl := hw.symm
      clear hw
      go_wp2_with fail
      go_ret
      exact ⟨by rw [HE.out]; rfl, by rw [HV.out] at HB; exact HB.out⟩
/-! ### Kids, as a walk loads them whole -/
/-- Six cells from an address on, at every world that comes after W. -/
def Kid6 (W : World) (p : Addr) (x0 x1 x2 x3 x4 x5 : Value) : Prop := ∀ V, Below W.heap.size W V → V.cell? p = some x0 ∧ V.cell? ⟨p.block, p.off + 1, none⟩ = some x1 ∧ V.cell? ⟨p.block, p.off + 2, none⟩ = some x2 ∧ V.cell? ⟨p.block, p.off + 3, none⟩ = some x3 ∧ V.cell? ⟨p.block, p.off + 4, none⟩ = some x4 ∧ V.cell? ⟨p.block, p.off + 5, none⟩ = some x5
theorem Kid6.below {W V : World} {p : Addr} {x0 x1 x2 x3 x4 x5 : Value} (h : Kid6 W p x0 x1 x2 x3 x4 x5) (hb : Below W.heap.size W V) : Kid6 V p x0 x1 x2 x3 x4 x5 := fun X hX => h X (hb.trans (hX.mono hb.size))
theorem kid_six {w : World} {B : Option Addr} {l : List Tr} {i : Nat} {T : Tr} (h : RdL w l B 0) (hi : l[i]? = some T) : ∃ ad k f a s A n c B' m d, B = some ad ∧ k = T.kind ∧ Kid6 w (ad.add (i * 6)) (.int .i64 k) (.int .i64 f) (.int .i64 a) (.string s) (.slice A n c) (.slice B' m d) ∧ RdT w T (.agg #[.int .i64 k, .int .i64 f, .int .i64 a, .string s, .slice A n c, .slice B' m d]) := by
  obtain ⟨ad, c0, c1, c2, c3, c4, c5, hB, hlt, x0, x1, x2, x3, x4, x5, hT⟩ := h.kid hi
  obtain ⟨k, f, a, s, A, n, c, B', m, d, e, hk⟩ := RdQ_six (u := ⟨c0, c1, c2, c3, c4, c5⟩) hT
  injection e with e0 e1 e2 e3 e4 e5
  subst e0 e1 e2 e3 e4 e5
  have hl : (ad.add (i * 6)).block < w.heap.size := by rw [blk_add]; exact hlt
  exact ⟨ad, k, f, a, s, A, n, c, B', m, d, hB, hk, fun V hV => ⟨(hV.cell hl).trans x0, (hV.cell (p := ⟨_, _, none⟩) hl).trans x1, (hV.cell (p := ⟨_, _, none⟩) hl).trans x2, (hV.cell (p := ⟨_, _, none⟩) hl).trans x3, (hV.cell (p := ⟨_, _, none⟩) hl).trans x4, (hV.cell (p := ⟨_, _, none⟩) hl).trans x5⟩, hT⟩
theorem add_zero6 (ad : Addr) : ad.add (0 * 6) = ad := by unfold Addr.add; simp
theorem add_one6 (ad : Addr) : ad.add (1 * 6) = ⟨ad.block, ad.off + 6, none⟩ := by unfold Addr.add; simp
theorem litS_two (n : Int) (r : List Int) : litS (n :: r) = decL n ++ litB r := rfl
/-- How far a literal's text has come. -/
def LitAt (ns : List Int) (k : Nat) (D : List UInt8) : Prop := (k = 0 ∧ D = []) ∨ (0 < k ∧ D ++ litB (ns.drop k) = litS ns)
theorem litAt_one {ns : List Int} {x : Int} (h : ns[0]? = some x) : LitAt ns 1 (decL x) := by
  cases ns with
  | nil => simp at h
  | cons y r =>
    simp at h
    subst h
    exact .inr ⟨by omega, rfl⟩
theorem litAt_next {ns : List Int} {k : Nat} {x : Int} {D : List UInt8} (hk : ns[k]? = some x) (h0 : 0 < k) (h : LitAt ns k D) : LitAt ns (k + 1) ((D ++ [32]) ++ decL x) := by
  obtain ⟨hl, rfl⟩ := List.getElem?_eq_some_iff.1 hk
  rcases h with ⟨h, _⟩ | ⟨_, h⟩
  · omega
  · refine .inr ⟨by omega, ?_⟩
    rw [List.drop_eq_getElem_cons hl] at h
    rw [← h]
    show _ = D ++ (32 :: (decL ns[k] ++ litB (ns.drop (k + 1))))
    simp
theorem litAt_len {ns : List Int} {k : Nat} {D : List UInt8} (h : LitAt ns k D) : D.length ≤ (litS ns).length := by
  rcases h with ⟨_, rfl⟩ | ⟨_, h⟩
  · simp
  · rw [← h]; simp
theorem litAt_end {ns : List Int} {D : List UInt8} (h0 : ns ≠ []) (h : LitAt ns ns.length D) : D = litS ns := by
  rcases h with ⟨h, _⟩ | ⟨_, h⟩
  · exact absurd (List.eq_nil_of_length_eq_zero h) h0
  · rw [List.drop_length] at h; simpa [litB] using h
set_option maxHeartbeats 4000000 in
set_option maxRecDepth 100000 in
theorem refLit_any (ns : List Int) (hns : ∀ n ∈ ns, -9223372036854775808 ≤ n ∧ n ≤ 9223372036854775807) (v : Value) (w : World) (hv : RdT w (lit ns) v) (hl : (litS ns).length ≤ 4611686018427387904) : Calls Tryz.prog 11 #[v] w (StrTo w (litS ns)) := by
  unfold lit at hv
  obtain ⟨A, n, c, B, m, d, rfl, _, _, _, _, hr, hnc, hn44, _, _, _⟩ := rdT_node.1 hv
  obtain ⟨W, hW⟩ : ∃ W, W = w.alloc (.cells #[.int .i64 1, .int .i64 0, .int .i64 (-1), .string ⟨#[]⟩, .slice A n c, .slice B m d] 25) := ⟨_, rfl⟩
  obtain ⟨hS, hbW, hsW⟩ := six_new hW
  have HR := Lib.hid (hr.below hbW)
  have HLN := Lib.hid hr.1
  have HNS := Lib.hid hns
  have PD := Lib.hid (fun x h1 h2 => refDecimal7_any x h1 h2 W)
  have HB := Lib.hid hbW
  have HW := Lib.hid hW
  have HL := Lib.hid hl
  obtain ⟨x0, x1, x2, x3, x4, x5, -⟩ := hS
  clear hbW hsW hW hr hv hl hns hnc
  go_enter Tryz.func11, Tryz.ntmps11
  go_upto_region 1 with fail
  rw [← HW.out]
  go_wp2_with fail
  go_loop [4, 5] (fun t i => ∃ k : Nat, k ≤ n ∧ i = .int .i64 k ∧ ∃ D : List UInt8, t = .string (txt.strOf D) ∧ Hid (LitAt ns k D)) (fun t i => n - (intOf i).toNat)
  case atStart => exact ⟨0, Nat.zero_le _, rfl, [], rfl, Lib.hid (.inl ⟨rfl, rfl⟩)⟩
  case round =>
    obtain ⟨k, hk, rfl, D, rfl, HD⟩ := hrel
    by_cases hlt : k < n
    · obtain ⟨x, hx⟩ : ∃ x, ns[k]? = some x := ⟨_, List.getElem?_eq_getElem (by rw [HLN.out]; exact hlt)⟩
      obtain ⟨ad, rfl, _, q⟩ := HR.out.2 k hlt
      have hg : ns.getD k 0 = x := by simp [List.getD, hx]
      rw [hg] at q
      have hxx := HNS.out x (List.mem_of_getElem? hx)
      have P := Lib.hid (PD.out x hxx.1 hxx.2)
      have hdl := decL_len x hxx.1 hxx.2
      have hDl := litAt_len HD.out
      have hLL := HL.out
      rcases Nat.eq_zero_or_pos k with h0 | h0
      · have hD0 : D = [] := by
          rcases HD.out with ⟨_, h⟩ | ⟨h, _⟩
          · exact h
          · omega
        subst hD0
        obtain ⟨X, hX⟩ : ∃ X, X = ([] : List UInt8) ++ decL x := ⟨_, rfl⟩
        have c1 : ∀ W, (Op.stringOp .add (txt.strOf []) (txt.strOf (decL x))).run Tryz.prog W = .ok (.string (txt.strOf X)) W := by rw [hX]; exact txt.cat_run [] (decL x) (by simp only [List.length_nil]; omega)
        have HN := Lib.hid (show LitAt ns (k + 1) X by rw [hX, h0, List.nil_append]; exact litAt_one (by rw [← h0]; exact hx))
        have h0' : ¬ 0 < k := by omega
        have h0'' : ¬ (0 : Int) < k := by omega
        clear hX hdl hDl hLL hx hxx hg h0
        go_wp2_with fail
        refine P.out.mono ?_
        rintro e w' ⟨rfl, rfl⟩
        go_wp2_with fail
        go_round
        case rel => exact ⟨k + 1, by omega, by go_num, X, rfl, HN⟩
        case measure => first | (simp [intOf]; done) | (simp [intOf]; omega)
      · have HN0 := Lib.hid (litAt_next hx h0 HD.out)
        obtain ⟨X, hX⟩ : ∃ X, X = D ++ ([32] : List UInt8) := ⟨_, rfl⟩
        obtain ⟨Y, hY⟩ : ∃ Y, Y = X ++ decL x := ⟨_, rfl⟩
        have c1 : ∀ W, (Op.stringOp .add (txt.strOf D) ⟨#[32]⟩).run Tryz.prog W = .ok (.string (txt.strOf X)) W := by rw [hX]; exact txt.cat_run D [32] (by simp only [List.length_cons, List.length_nil]; omega)
        have c2 : ∀ W, (Op.stringOp .add (txt.strOf X) (txt.strOf (decL x))).run Tryz.prog W = .ok (.string (txt.strOf Y)) W := by rw [hY]; exact txt.cat_run X (decL x) (by rw [hX]; simp only [List.length_append, List.length_cons, List.length_nil]; omega)
        have HN := Lib.hid (show LitAt ns (k + 1) Y by rw [hY, hX]; exact HN0.out)
        have h0'' : (0 : Int) < k := by omega
        clear hX hY hdl hDl hLL hx hxx hg HN0
        go_wp2_with fail
        refine P.out.mono ?_
        rintro e w' ⟨rfl, rfl⟩
        go_wp2_with fail
        go_round
        case rel => exact ⟨k + 1, by omega, by go_num, Y, rfl, HN⟩
        case measure => first | (simp [intOf]; done) | (simp [intOf]; omega)
    · obtain rfl : k = n := by omega
      rcases Nat.eq_zero_or_pos k with h0 | h0
      · have HE : Hid (litS ns = gZil) := Lib.hid (by rw [List.eq_nil_of_length_eq_zero (HLN.out.trans h0)]; rfl)
        have h0' : ((k : Int) == 0) = true := by simp [h0]
        go_wp2_with fail
        go_ret
        exact ⟨by rw [HE.out]; rfl, HB.out⟩
      · have HE : Hid (D = litS ns) := Lib.hid (litAt_end (fun e => by rw [e] at HLN; have := HLN.out; simp at this; omega) (by rw [HLN.out]; exact HD.out))
        have h0' : ((k : Int) == 0) = false := by simp; omega
        go_wp2_with fail
        go_ret
        exact ⟨by rw [← HE.out]; rfl, HB.out⟩
set_option maxHeartbeats 4000000 in
set_option maxRecDepth 100000 in
theorem refNm_any (l : List UInt8) (v : Value) (w : World) (hv : RdT w (.node 2 0 (-1) (txt.strOf l) [] []) v) : Calls Tryz.prog 11 #[v] w (StrTo w l) := by
  obtain ⟨A, n, c, B, m, d, rfl, _⟩ := rdT_node.1 hv
  obtain ⟨W, hW⟩ : ∃ W, W = w.alloc (.cells #[.int .i64 2, .int .i64 0, .int .i64 (-1), .string (txt.strOf l), .slice A n c, .slice B m d] 25) := ⟨_, rfl⟩
  obtain ⟨hS, hbW, hsW⟩ := six_new hW
  have HB := Lib.hid hbW
  have HW := Lib.hid hW
  obtain ⟨x0, x1, x2, x3, x4, x5, -⟩ := hS
  clear hbW hsW hW hv
  go_enter Tryz.func11, Tryz.ntmps11
  go_upto_region 1 with fail
  rw [← HW.out]
  go_wp2_with fail
  go_ret
  exact ⟨rfl, HB.out⟩
set_option maxHeartbeats 4000000 in
set_option maxRecDepth 100000 in
theorem refMon_any (F ax : Int) (T : Tr) (h1 : 1 ≤ F) (h2 : F ≤ 6) (h3 : axOk F ax) (hlen : (fnS F ax).length + (showT T).length ≤ 4611686018427387904) (ih : ∀ (v : Value) (w : World), RdT w T v → Calls Tryz.prog 11 #[v] w (StrTo w (showT T))) (v : Value) (w : World) (hv : RdT w (mon F ax T) v) :
    Calls Tryz.prog 11 #[v] w (StrTo w (fnS F ax ++ showT T)) := by
  unfold mon at hv
  obtain ⟨A, n, c, B, m, d, rfl, _, _, _, _, _, _, _, _, _, hm, hmd, _, _, hL⟩ := rdT_node.1 hv
  obtain ⟨ad, k1, f1, a1, s1, A1, n1, c1, B1, m1, d1, hB, -, hK, hT1⟩ := kid_six hL (i := 0) (T := T) rfl
  rw [add_zero6] at hK
  obtain rfl : m = 1 := by simpa using hm.symm
  subst hB
  obtain ⟨W, hW⟩ : ∃ W, W = w.alloc (.cells #[.int .i64 3, .int .i64 F, .int .i64 ax, .string ⟨#[]⟩, .slice A n c, .slice (some ad) 1 d] 25) := ⟨_, rfl⟩
  obtain ⟨hS, hbW, hsW⟩ := six_new hW
  have HKC := Lib.hid (show ∀ V, Below W.heap.size W V → (V.cell? ⟨w.heap.size, 0, none⟩ = some (.int .i64 3) ∧ V.cell? ⟨w.heap.size, 1, none⟩ = some (.int .i64 F) ∧ V.cell? ⟨w.heap.size, 2, none⟩ = some (.int .i64 ax) ∧ V.cell? ⟨w.heap.size, 3, none⟩ = some (.string ⟨#[]⟩) ∧ V.cell? ⟨w.heap.size, 4, none⟩ = some (.slice A n c) ∧ V.cell? ⟨w.heap.size, 5, none⟩ = some (.slice (some ad) 1 d) ∧ V.cell? ad = some (.int .i64 k1) ∧ V.cell? ⟨ad.block, ad.off + 1, none⟩ = some (.int .i64 f1) ∧ V.cell? ⟨ad.block, ad.off + 2, none⟩ = some (.int .i64 a1) ∧ V.cell? ⟨ad.block, ad.off + 3, none⟩ = some (.string s1) ∧ V.cell? ⟨ad.block, ad.off + 4, none⟩ = some (.slice A1 n1 c1) ∧ V.cell? ⟨ad.block, ad.off + 5, none⟩ = some (.slice B1 m1 d1)) from fun V h => by
    obtain ⟨x0, x1, x2, x3, x4, x5, -⟩ := hS.below h
    obtain ⟨y0, y1, y2, y3, y4, y5⟩ := hK V (hbW.trans (h.mono hbW.size))
    exact ⟨x0, x1, x2, x3, x4, x5, y0, y1, y2, y3, y4, y5⟩)
  have HT := Lib.hid (hT1.below hbW)
  have PF : ∀ V, Hid (Below W.heap.size W V) → Hid (Calls Tryz.prog 23 #[.agg #[.int .i64 3, .int .i64 F, .int .i64 ax, .string ⟨#[]⟩, .slice A n c, .slice (some ad) 1 d]] V fun e V' => e = .returned (.string (txt.strOf (fnS F ax))) ∧ Hid (Below W.heap.size W V')) := fun V h =>
    Lib.hid ((refFn_any h1 h2 (ax_in h3) 3 _ A (some ad) n c 1 d V).mono fun e V' ⟨he, hb⟩ => ⟨he, Lib.hid (h.out.trans (hb.mono h.out.size))⟩)
  have PE : ∀ V, Hid (Below W.heap.size W V) → Hid (Calls Tryz.prog 11 #[.agg #[.int .i64 k1, .int .i64 f1, .int .i64 a1, .string s1, .slice A1 n1 c1, .slice B1 m1 d1]] V fun e V' => e = .returned (.string (txt.strOf (showT T))) ∧ Hid (Below W.heap.size W V')) := fun V h =>
    Lib.hid ((ih _ V (HT.out.below h.out)).mono fun e V' ⟨he, hb⟩ => ⟨he, Lib.hid (h.out.trans (hb.mono h.out.size))⟩)
  obtain ⟨G, hG⟩ : ∃ G, G = fnS F ax := ⟨_, rfl⟩
  obtain ⟨Z, hZ⟩ : ∃ Z, Z = showT T := ⟨_, rfl⟩
  rw [← hG] at PF hlen ⊢
  rw [← hZ] at PE hlen ⊢
  obtain ⟨X, hX⟩ : ∃ X, X = G ++ Z := ⟨_, rfl⟩
  have cc1 : ∀ W, (Op.stringOp .add (txt.strOf G) (txt.strOf Z)).run Tryz.prog W = .ok (.string (txt.strOf X)) W := by rw [hX]; exact txt.cat_run G Z (by omega)
  rw [← hX]
  have HB := Lib.hid hbW
  have HB0 := Lib.hid (Below.refl W.heap.size W)
  have HW := Lib.hid hW
  obtain ⟨x0, x1, x2, x3, x4, x5, y0, y1, y2, y3, y4, y5⟩ := HKC.out W HB0.out
  clear hG hZ hX hlen hv hL hK hT1 hS hbW hsW hW ih hm HT
  go_enter Tryz.func11, Tryz.ntmps11
  go_upto_region 1 with fail
  rw [← HW.out]
  go_wp2_with fail
  go_region_held3 (fun w' => w'.cell? ⟨w.heap.size, 0, none⟩ = some (.int .i64 3) ∧ w'.cell? ⟨w.heap.size, 1, none⟩ = some (.int .i64 F) ∧ w'.cell? ⟨w.heap.size, 2, none⟩ = some (.int .i64 ax) ∧ w'.cell? ⟨w.heap.size, 3, none⟩ = some (.string ⟨#[]⟩) ∧ w'.cell? ⟨w.heap.size, 4, none⟩ = some (.slice A n c) ∧ w'.cell? ⟨w.heap.size, 5, none⟩ = some (.slice (some ad) 1 d) ∧ w'.cell? ad = some (.int .i64 k1) ∧ w'.cell? ⟨ad.block, ad.off + 1, none⟩ = some (.int .i64 f1) ∧ w'.cell? ⟨ad.block, ad.off + 2, none⟩ = some (.int .i64 a1) ∧ w'.cell? ⟨ad.block, ad.off + 3, none⟩ = some (.string s1) ∧ w'.cell? ⟨ad.block, ad.off + 4, none⟩ = some (.slice A1 n1 c1) ∧ w'.cell? ⟨ad.block, ad.off + 5, none⟩ = some (.slice B1 m1 d1)) (go_keep)
    (first
    | (go_at_call 23; refine (PF _ (by first | assumption | exact Lib.hid (Below.drew HB0.out) | exact Lib.hid (Below.drew HBB.out))).out.mono ?_
       rintro e v1 ⟨rfl, HBA⟩
       obtain ⟨ka0, ka1, ka2, ka3, ka4, ka5, la0, la1, la2, la3, la4, la5⟩ := HKC.out _ HBA.out)
    | (go_at_call 11; refine (PE _ (by first | assumption | exact Lib.hid (Below.drew HB0.out) | exact Lib.hid (Below.drew HBA.out))).out.mono ?_
       rintro e v2 ⟨rfl, HBB⟩
       obtain ⟨kb0, kb1, kb2, kb3, kb4, kb5, lb0, lb1, lb2, lb3, lb4, lb5⟩ := HKC.out _ HBB.out))
  all_goals
    go_wp2_with fail
    go_ret
    exact ⟨rfl, by first | exact HB.out.trans (HBA.out.mono HB.out.size) | exact HB.out.trans (HBB.out.mono HB.out.size)⟩
set_option maxHeartbeats 4000000 in
set_option maxRecDepth 100000 in
theorem refDy_any (F ax : Int) (U T : Tr) (h1 : 1 ≤ F) (h2 : F ≤ 6) (h3 : axOk F ax) (hlen : (par U.kind (showT U)).length + ((fnS F ax).length + (showT T).length) ≤ 4611686018427387904) (ihU : ∀ (v : Value) (w : World), RdT w U v → Calls Tryz.prog 11 #[v] w (StrTo w (showT U))) (ih : ∀ (v : Value) (w : World), RdT w T v → Calls Tryz.prog 11 #[v] w (StrTo w (showT T))) (v : Value) (w : World) (hv : RdT w (dy F ax U T) v) :
    Calls Tryz.prog 11 #[v] w (StrTo w (par U.kind (showT U) ++ (fnS F ax ++ showT T))) := by
  unfold dy at hv
  obtain ⟨A, n, c, B, m, d, rfl, _, _, _, _, _, _, _, _, _, hm, hmd, _, _, hL⟩ := rdT_node.1 hv
  obtain ⟨ad, k1, f1, a1, s1, A1, n1, c1, B1, m1, d1, hB, hk1, hK, hT1⟩ := kid_six hL (i := 0) (T := U) rfl
  obtain ⟨ad2, k2, f2, a2, s2, A2, n2, c2, B2, m2, d2, hB2, -, hK2, hT2⟩ := kid_six hL (i := 1) (T := T) rfl
  rw [hB] at hB2
  injection hB2 with hB2
  subst hB2
  rw [add_zero6] at hK
  rw [add_one6] at hK2
  obtain rfl : m = 2 := by simpa using hm.symm
  subst hB
  obtain ⟨W, hW⟩ : ∃ W, W = w.alloc (.cells #[.int .i64 4, .int .i64 F, .int .i64 ax, .string ⟨#[]⟩, .slice A n c, .slice (some ad) 2 d] 25) := ⟨_, rfl⟩
  obtain ⟨hS, hbW, hsW⟩ := six_new hW
  have HKC := Lib.hid (show ∀ V, Below W.heap.size W V → (V.cell? ⟨w.heap.size, 0, none⟩ = some (.int .i64 4) ∧ V.cell? ⟨w.heap.size, 1, none⟩ = some (.int .i64 F) ∧ V.cell? ⟨w.heap.size, 2, none⟩ = some (.int .i64 ax) ∧ V.cell? ⟨w.heap.size, 3, none⟩ = some (.string ⟨#[]⟩) ∧ V.cell? ⟨w.heap.size, 4, none⟩ = some (.slice A n c) ∧ V.cell? ⟨w.heap.size, 5, none⟩ = some (.slice (some ad) 2 d) ∧ V.cell? ad = some (.int .i64 k1) ∧ V.cell? ⟨ad.block, ad.off + 1, none⟩ = some (.int .i64 f1) ∧ V.cell? ⟨ad.block, ad.off + 2, none⟩ = some (.int .i64 a1) ∧ V.cell? ⟨ad.block, ad.off + 3, none⟩ = some (.string s1) ∧ V.cell? ⟨ad.block, ad.off + 4, none⟩ = some (.slice A1 n1 c1) ∧ V.cell? ⟨ad.block, ad.off + 5, none⟩ = some (.slice B1 m1 d1) ∧ V.cell? ⟨ad.block, ad.off + 6, none⟩ = some (.int .i64 k2) ∧ V.cell? ⟨ad.block, ad.off + 6 + 1, none⟩ = some (.int .i64 f2) ∧ V.cell? ⟨ad.block, ad.off + 6 + 2, none⟩ = some (.int .i64 a2) ∧ V.cell? ⟨ad.block, ad.off + 6 + 3, none⟩ = some (.string s2) ∧ V.cell? ⟨ad.block, ad.off + 6 + 4, none⟩ = some (.slice A2 n2 c2) ∧ V.cell? ⟨ad.block, ad.off + 6 + 5, none⟩ = some (.slice B2 m2 d2)) from fun V h => by
    obtain ⟨x0, x1, x2, x3, x4, x5, -⟩ := hS.below h
    obtain ⟨y0, y1, y2, y3, y4, y5⟩ := hK V (hbW.trans (h.mono hbW.size))
    obtain ⟨z0, z1, z2, z3, z4, z5⟩ := hK2 V (hbW.trans (h.mono hbW.size))
    exact ⟨x0, x1, x2, x3, x4, x5, y0, y1, y2, y3, y4, y5, z0, z1, z2, z3, z4, z5⟩)
  have HT := Lib.hid (hT1.below hbW)
  have HT2 := Lib.hid (hT2.below hbW)
  have PF : ∀ V, Hid (Below W.heap.size W V) → Hid (Calls Tryz.prog 23 #[.agg #[.int .i64 4, .int .i64 F, .int .i64 ax, .string ⟨#[]⟩, .slice A n c, .slice (some ad) 2 d]] V fun e V' => e = .returned (.string (txt.strOf (fnS F ax))) ∧ Hid (Below W.heap.size W V')) := fun V h =>
    Lib.hid ((refFn_any h1 h2 (ax_in h3) 4 _ A (some ad) n c 2 d V).mono fun e V' ⟨he, hb⟩ => ⟨he, Lib.hid (h.out.trans (hb.mono h.out.size))⟩)
  have PE : ∀ V, Hid (Below W.heap.size W V) → Hid (Calls Tryz.prog 11 #[.agg #[.int .i64 k2, .int .i64 f2, .int .i64 a2, .string s2, .slice A2 n2 c2, .slice B2 m2 d2]] V fun e V' => e = .returned (.string (txt.strOf (showT T))) ∧ Hid (Below W.heap.size W V')) := fun V h =>
    Lib.hid ((ih _ V (HT2.out.below h.out)).mono fun e V' ⟨he, hb⟩ => ⟨he, Lib.hid (h.out.trans (hb.mono h.out.size))⟩)
  have PU : ∀ V, Hid (Below W.heap.size W V) → Hid (Calls Tryz.prog 11 #[.agg #[.int .i64 k1, .int .i64 f1, .int .i64 a1, .string s1, .slice A1 n1 c1, .slice B1 m1 d1]] V fun e V' => e = .returned (.string (txt.strOf (showT U))) ∧ Hid (Below W.heap.size W V')) := fun V h =>
    Lib.hid ((ihU _ V (HT.out.below h.out)).mono fun e V' ⟨he, hb⟩ => ⟨he, Lib.hid (h.out.trans (hb.mono h.out.size))⟩)
  obtain ⟨G, hG⟩ : ∃ G, G = fnS F ax := ⟨_, rfl⟩
  obtain ⟨Z, hZ⟩ : ∃ Z, Z = showT T := ⟨_, rfl⟩
  obtain ⟨Y, hY⟩ : ∃ Y, Y = showT U := ⟨_, rfl⟩
  obtain ⟨Q, hQ⟩ : ∃ Q, Q = par U.kind (showT U) := ⟨_, rfl⟩
  rw [← hG] at PF hlen ⊢
  rw [← hZ] at PE hlen ⊢
  rw [← hY] at PU
  rw [← hQ] at hlen ⊢
  rw [← hY] at hQ
  obtain ⟨X1, hX1⟩ : ∃ X, X = Q ++ G := ⟨_, rfl⟩
  obtain ⟨X2, hX2⟩ : ∃ X, X = X1 ++ Z := ⟨_, rfl⟩
  have cc1 : ∀ W, (Op.stringOp .add (txt.strOf Q) (txt.strOf G)).run Tryz.prog W = .ok (.string (txt.strOf X1)) W := by rw [hX1]; exact txt.cat_run Q G (by omega)
  have cc2 : ∀ W, (Op.stringOp .add (txt.strOf X1) (txt.strOf Z)).run Tryz.prog W = .ok (.string (txt.strOf X2)) W := by rw [hX2]; exact txt.cat_run X1 Z (by rw [hX1, List.length_append]; omega)
  rw [show Q ++ (G ++ Z) = X2 by rw [hX2, hX1, List.append_assoc]]
  have HB := Lib.hid hbW
  have HB0 := Lib.hid (Below.refl W.heap.size W)
  have HW := Lib.hid hW
  obtain ⟨x0, x1, x2, x3, x4, x5, y0, y1, y2, y3, y4, y5, z0, z1, z2, z3, z4, z5⟩ := HKC.out W HB0.out
  unfold par at hQ
  by_cases h2k : 2 < U.kind
  · rw [if_pos h2k] at hQ
    have hk : (2 : Int) < k1 := by rw [hk1]; exact h2k
    obtain ⟨Y1, hY1⟩ : ∃ X, X = ([40] : List UInt8) ++ Y := ⟨_, rfl⟩
    have hQ' : Q = Y1 ++ [41] := by rw [hQ, hY1]; rfl
    have cc3 : ∀ W, (Op.stringOp .add ⟨#[40]⟩ (txt.strOf Y)).run Tryz.prog W = .ok (.string (txt.strOf Y1)) W := by rw [hY1]; exact txt.cat_run [40] Y (by rw [hQ] at hlen; simp only [List.length_append, List.length_cons, List.length_nil] at hlen ⊢; omega)
    have cc4 : ∀ W, (Op.stringOp .add (txt.strOf Y1) ⟨#[41]⟩).run Tryz.prog W = .ok (.string (txt.strOf Q)) W := by rw [hQ']; exact txt.cat_run Y1 [41] (by rw [hQ'] at hlen; simp only [List.length_append, List.length_cons, List.length_nil] at hlen ⊢; omega)
    clear hG hZ hY hQ hQ' hY1 hX1 hX2 hlen hv hL hK hK2 hT1 hT2 hS hbW hsW hW ih ihU hm HT HT2 hk1 h2k
    go_enter Tryz.func11, Tryz.ntmps11
    go_upto_region 1 with fail
    rw [← HW.out]
    go_wp2_with fail
    refine (PU W HB0).out.mono ?_
    rintro e w1 ⟨rfl, HB1⟩
    clear x0 x1 x2 x3 x4 x5 y0 y1 y2 y3 y4 y5 z0 z1 z2 z3 z4 z5
    obtain ⟨x0, x1, x2, x3, x4, x5, y0, y1, y2, y3, y4, y5, z0, z1, z2, z3, z4, z5⟩ := HKC.out w1 HB1.out
    go_wp2_with fail
    go_region_held3 (fun w' => w'.cell? ⟨w.heap.size, 0, none⟩ = some (.int .i64 4) ∧ w'.cell? ⟨w.heap.size, 1, none⟩ = some (.int .i64 F) ∧ w'.cell? ⟨w.heap.size, 2, none⟩ = some (.int .i64 ax) ∧ w'.cell? ⟨w.heap.size, 3, none⟩ = some (.string ⟨#[]⟩) ∧ w'.cell? ⟨w.heap.size, 4, none⟩ = some (.slice A n c) ∧ w'.cell? ⟨w.heap.size, 5, none⟩ = some (.slice (some ad) 2 d) ∧ w'.cell? ad = some (.int .i64 k1) ∧ w'.cell? ⟨ad.block, ad.off + 1, none⟩ = some (.int .i64 f1) ∧ w'.cell? ⟨ad.block, ad.off + 2, none⟩ = some (.int .i64 a1) ∧ w'.cell? ⟨ad.block, ad.off + 3, none⟩ = some (.string s1) ∧ w'.cell? ⟨ad.block, ad.off + 4, none⟩ = some (.slice A1 n1 c1) ∧ w'.cell? ⟨ad.block, ad.off + 5, none⟩ = some (.slice B1 m1 d1) ∧ w'.cell? ⟨ad.block, ad.off + 6, none⟩ = some (.int .i64 k2) ∧ w'.cell? ⟨ad.block, ad.off + 6 + 1, none⟩ = some (.int .i64 f2) ∧ w'.cell? ⟨ad.block, ad.off + 6 + 2, none⟩ = some (.int .i64 a2) ∧ w'.cell? ⟨ad.block, ad.off + 6 + 3, none⟩ = some (.string s2) ∧ w'.cell? ⟨ad.block, ad.off + 6 + 4, none⟩ = some (.slice A2 n2 c2) ∧ w'.cell? ⟨ad.block, ad.off + 6 + 5, none⟩ = some (.slice B2 m2 d2)) (go_keep)
      (first
      | (go_at_call 23; refine (PF _ (by first | assumption | exact Lib.hid (Below.drew HB1.out) | exact Lib.hid (Below.drew HBB.out))).out.mono ?_
         rintro e v1 ⟨rfl, HBA⟩
         obtain ⟨ka0, ka1, ka2, ka3, ka4, ka5, la0, la1, la2, la3, la4, la5, ma0, ma1, ma2, ma3, ma4, ma5⟩ := HKC.out _ HBA.out)
      | (go_at_call 11; refine (PE _ (by first | assumption | exact Lib.hid (Below.drew HB1.out) | exact Lib.hid (Below.drew HBA.out))).out.mono ?_
         rintro e v2 ⟨rfl, HBB⟩
         obtain ⟨kb0, kb1, kb2, kb3, kb4, kb5, lb0, lb1, lb2, lb3, lb4, lb5, mb0, mb1, mb2, mb3, mb4, mb5⟩ := HKC.out _ HBB.out))
    all_goals
      go_wp2_with fail
      go_ret
      exact ⟨rfl, by first | exact HB.out.trans (HBA.out.mono HB.out.size) | exact HB.out.trans (HBB.out.mono HB.out.size)⟩
  · rw [if_neg h2k] at hQ
    have hk : ¬ (2 : Int) < k1 := by rw [hk1]; exact h2k
    subst hQ
    clear hG hZ hY hX1 hX2 hlen hv hL hK hK2 hT1 hT2 hS hbW hsW hW ih ihU hm HT HT2 hk1 h2k
    go_enter Tryz.func11, Tryz.ntmps11
    go_upto_region 1 with fail
    rw [← HW.out]
    go_wp2_with fail
    refine (PU W HB0).out.mono ?_
    rintro e w1 ⟨rfl, HB1⟩
    clear x0 x1 x2 x3 x4 x5 y0 y1 y2 y3 y4 y5 z0 z1 z2 z3 z4 z5
    obtain ⟨x0, x1, x2, x3, x4, x5, y0, y1, y2, y3, y4, y5, z0, z1, z2, z3, z4, z5⟩ := HKC.out w1 HB1.out
    go_wp2_with fail
    go_region_held3 (fun w' => w'.cell? ⟨w.heap.size, 0, none⟩ = some (.int .i64 4) ∧ w'.cell? ⟨w.heap.size, 1, none⟩ = some (.int .i64 F) ∧ w'.cell? ⟨w.heap.size, 2, none⟩ = some (.int .i64 ax) ∧ w'.cell? ⟨w.heap.size, 3, none⟩ = some (.string ⟨#[]⟩) ∧ w'.cell? ⟨w.heap.size, 4, none⟩ = some (.slice A n c) ∧ w'.cell? ⟨w.heap.size, 5, none⟩ = some (.slice (some ad) 2 d) ∧ w'.cell? ad = some (.int .i64 k1) ∧ w'.cell? ⟨ad.block, ad.off + 1, none⟩ = some (.int .i64 f1) ∧ w'.cell? ⟨ad.block, ad.off + 2, none⟩ = some (.int .i64 a1) ∧ w'.cell? ⟨ad.block, ad.off + 3, none⟩ = some (.string s1) ∧ w'.cell? ⟨ad.block, ad.off + 4, none⟩ = some (.slice A1 n1 c1) ∧ w'.cell? ⟨ad.block, ad.off + 5, none⟩ = some (.slice B1 m1 d1) ∧ w'.cell? ⟨ad.block, ad.off + 6, none⟩ = some (.int .i64 k2) ∧ w'.cell? ⟨ad.block, ad.off + 6 + 1, none⟩ = some (.int .i64 f2) ∧ w'.cell? ⟨ad.block, ad.off + 6 + 2, none⟩ = some (.int .i64 a2) ∧ w'.cell? ⟨ad.block, ad.off + 6 + 3, none⟩ = some (.string s2) ∧ w'.cell? ⟨ad.block, ad.off + 6 + 4, none⟩ = some (.slice A2 n2 c2) ∧ w'.cell? ⟨ad.block, ad.off + 6 + 5, none⟩ = some (.slice B2 m2 d2)) (go_keep)
      (first
      | (go_at_call 23; refine (PF _ (by first | assumption | exact Lib.hid (Below.drew HB1.out) | exact Lib.hid (Below.drew HBB.out))).out.mono ?_
         rintro e v1 ⟨rfl, HBA⟩
         obtain ⟨ka0, ka1, ka2, ka3, ka4, ka5, la0, la1, la2, la3, la4, la5, ma0, ma1, ma2, ma3, ma4, ma5⟩ := HKC.out _ HBA.out)
      | (go_at_call 11; refine (PE _ (by first | assumption | exact Lib.hid (Below.drew HB1.out) | exact Lib.hid (Below.drew HBA.out))).out.mono ?_
         rintro e v2 ⟨rfl, HBB⟩
         obtain ⟨kb0, kb1, kb2, kb3, kb4, kb5, lb0, lb1, lb2, lb3, lb4, lb5, mb0, mb1, mb2, mb3, mb4, mb5⟩ := HKC.out _ HBB.out))
    all_goals
      go_wp2_with fail
      go_ret
      exact ⟨rfl, by first | exact HB.out.trans (HBA.out.mono HB.out.size) | exact HB.out.trans (HBB.out.mono HB.out.size)⟩
theorem refExpr_any {T : Tr} (hR : R T) : ∀ (v : Value) (w : World), RdT w T v → (showT T).length ≤ 4611686018427387904 → Calls Tryz.prog 11 #[v] w (StrTo w (showT T)) := by
  induction hR with
  | nm l h => exact fun v w hv hl => by rw [show_nm] at hl ⊢; exact refNm_any l v w hv
  | lit ns h => exact fun v w hv hl => by rw [show_lit] at hl ⊢; exact refLit_any ns h v w hv hl
  | mon F ax T h1 h2 h3 h4 hT ih =>
    intro v w hv hl
    rw [show_mon] at hl ⊢
    rw [List.length_append] at hl
    exact refMon_any F ax T h1 h2 h3 hl (fun v w hv => ih v w hv (by omega)) v w hv
  | dy F ax u T h1 h2 h3 h4 hu hT ihu ih =>
    intro v w hv hl
    rw [show_dy] at hl ⊢
    rw [List.length_append, List.length_append] at hl
    have := (par_le u.kind (showT u)).1
    exact refDy_any F ax u T h1 h2 h3 hl (fun v w hv => ihu v w hv (by omega)) (fun v w hv => ih v w hv (by omega)) v w hv
end Go.Proofs.YthgojbaindejjaaGreatDoor.sh

/- The reference's texts: of a line, of a text that is tidied. -/
namespace Go.Proofs.YthgojbaindejjaaGreatDoor.sh
open Go.ChangeShapes Go.WideShapes Go.ChangeAt Go.RowKit Go.Proofs.YthgojbaindejjaaGreatDoor.mem Go.Proofs.YthgojbaindejjaaGreatDoor.lx Go.Proofs.YthgojbaindejjaaGreatDoor.tr Go.Proofs.YthgojbaindejjaaGreatDoor.ps
set_option linter.unusedVariables false
set_option linter.unusedSimpArgs false

theorem str_empty (l : List UInt8) : ((txt.strOf l).toList == []) = (l == []) := by rw [toList_str]
/-- A text that is tidied, and its error. -/
def tidyL (l : List UInt8) : List UInt8 × Int := if (lineOf asN l).2.2 = 0 then (lnS (lineOf asN l).1 (lineOf asN l).2.1, 0) else ([], (lineOf asN l).2.2)
def TidyTo (w : World) (r : List UInt8 × Int) (e : Ending) (w' : World) : Prop := e = .returned (.tuple #[.string (txt.strOf r.1), .int .i64 r.2]) ∧ Below w.heap.size w w'
set_option maxHeartbeats 4000000 in
set_option maxRecDepth 100000 in
theorem refLine_any {T : Tr} (hR : R T) (nm : List UInt8) (k f a : Int) (s : ByteArray) (A : Option Addr) (n c : Nat) (B : Option Addr) (m d : Nat) (w : World) (hv : RdT w T (.agg #[.int .i64 k, .int .i64 f, .int .i64 a, .string s, .slice A n c, .slice B m d])) (hl : nm.length + 3 + (showT T).length ≤ 4611686018427387904) :
    Calls Tryz.prog 13 #[.agg #[.string (txt.strOf nm), .int .i64 k, .int .i64 f, .int .i64 a, .string s, .slice A n c, .slice B m d]] w (StrTo w (lnS nm T)) := by
  obtain ⟨W, hW⟩ : ∃ W, W = w.alloc (.cells #[.string (txt.strOf nm), .int .i64 k, .int .i64 f, .int .i64 a, .string s, .slice A n c, .slice B m d] 32) := ⟨_, rfl⟩
  obtain ⟨hS, hbW, hsW⟩ := seven_new hW
  have HT := Lib.hid (hv.below hbW)
  have PE : ∀ V, Hid (Below W.heap.size W V) → Hid (Calls Tryz.prog 11 #[.agg #[.int .i64 k, .int .i64 f, .int .i64 a, .string s, .slice A n c, .slice B m d]] V fun e V' => e = .returned (.string (txt.strOf (showT T))) ∧ Hid (Below W.heap.size W V')) := fun V h =>
    Lib.hid ((refExpr_any hR _ V (HT.out.below h.out) (by omega)).mono fun e V' ⟨he, hb⟩ => ⟨he, Lib.hid (h.out.trans (hb.mono h.out.size))⟩)
  have HKC := Lib.hid (show ∀ V, Below W.heap.size W V → V.cell? ⟨w.heap.size, 0, none⟩ = some (.string (txt.strOf nm)) ∧ V.cell? ⟨w.heap.size, 1, none⟩ = some (.int .i64 k) ∧ V.cell? ⟨w.heap.size, 2, none⟩ = some (.int .i64 f) ∧ V.cell? ⟨w.heap.size, 3, none⟩ = some (.int .i64 a) ∧ V.cell? ⟨w.heap.size, 4, none⟩ = some (.string s) ∧ V.cell? ⟨w.heap.size, 5, none⟩ = some (.slice A n c) ∧ V.cell? ⟨w.heap.size, 6, none⟩ = some (.slice B m d) from fun V h => by
    obtain ⟨x0, x1, x2, x3, x4, x5, x6, -⟩ := hS.below h
    exact ⟨x0, x1, x2, x3, x4, x5, x6⟩)
  have HB := Lib.hid hbW
  have HB0 := Lib.hid (Below.refl W.heap.size W)
  have HW := Lib.hid hW
  obtain ⟨x0, x1, x2, x3, x4, x5, x6⟩ := HKC.out W HB0.out
  have hse := str_empty nm
  obtain ⟨Z, hZ⟩ : ∃ Z, Z = showT T := ⟨_, rfl⟩
  have hlZ : nm.length + 3 + Z.length ≤ 4611686018427387904 := by rw [hZ]; exact hl
  by_cases h0 : nm = []
  · have HE : Hid (lnS nm T = Z) := Lib.hid (by unfold lnS; rw [if_pos h0, hZ])
    rw [← hZ] at PE
    have hq : (nm == []) = true := by rw [h0]; rfl
    rw [hq] at hse
    clear hbW hsW hW hS HT hv hl hR hZ h0 hq hlZ
    go_enter Tryz.func13, Tryz.ntmps13
    go_upto_region 1 with fail
    rw [← HW.out]
    go_wp2_with fail
    refine (PE W HB0).out.mono ?_
    rintro e w1 ⟨rfl, HB1⟩
    go_wp2_with fail
    go_ret
    exact ⟨by rw [HE.out]; rfl, HB.out.trans (HB1.out.mono HB.out.size)⟩
  · have hq : (nm == []) = false := by simpa using h0
    rw [hq] at hse
    obtain ⟨X1, hX1⟩ : ∃ X, X = nm ++ gArr := ⟨_, rfl⟩
    obtain ⟨X2, hX2⟩ : ∃ X, X = X1 ++ Z := ⟨_, rfl⟩
    have HE : Hid (lnS nm T = X2) := Lib.hid (by unfold lnS; rw [if_neg h0, hX2, hX1, hZ, List.append_assoc])
    rw [← hZ] at PE
    have cc1 : ∀ W, (Op.stringOp .add (txt.strOf nm) ⟨#[226, 134, 144]⟩).run Tryz.prog W = .ok (.string (txt.strOf X1)) W := by rw [hX1]; exact txt.cat_run nm gArr (by show nm.length + 3 ≤ _; omega)
    have cc2 : ∀ W, (Op.stringOp .add (txt.strOf X1) (txt.strOf Z)).run Tryz.prog W = .ok (.string (txt.strOf X2)) W := by rw [hX2]; exact txt.cat_run X1 Z (by rw [hX1, List.length_append]; show nm.length + 3 + _ ≤ _; omega)
    clear hbW hsW hW hS HT hv hl hR hZ h0 hq hX1 hX2 hlZ
    go_enter Tryz.func13, Tryz.ntmps13
    go_upto_region 1 with fail
    rw [← HW.out]
    go_wp2_with fail
    go_region_held3 (fun w' => w'.cell? ⟨w.heap.size, 0, none⟩ = some (.string (txt.strOf nm)) ∧ w'.cell? ⟨w.heap.size, 1, none⟩ = some (.int .i64 k) ∧ w'.cell? ⟨w.heap.size, 2, none⟩ = some (.int .i64 f) ∧ w'.cell? ⟨w.heap.size, 3, none⟩ = some (.int .i64 a) ∧ w'.cell? ⟨w.heap.size, 4, none⟩ = some (.string s) ∧ w'.cell? ⟨w.heap.size, 5, none⟩ = some (.slice A n c) ∧ w'.cell? ⟨w.heap.size, 6, none⟩ = some (.slice B m d)) (go_keep)
      ((go_at_call 11; refine (PE _ (by first | assumption | exact Lib.hid (Below.drew HB0.out))).out.mono ?_
        rintro e v2 ⟨rfl, HBB⟩
        obtain ⟨kb0, kb1, kb2, kb3, kb4, kb5, kb6⟩ := HKC.out _ HBB.out))
    all_goals
      go_wp2_with fail
      go_ret
      exact ⟨by rw [HE.out]; rfl, HB.out.trans (HBB.out.mono HB.out.size)⟩
set_option maxHeartbeats 4000000 in
set_option maxRecDepth 100000 in
theorem refTidy_any (l : List UInt8) (hl : l.length ≤ 1000000000000000) (w : World) : Calls Tryz.prog 18 #[.string (txt.strOf l)] w (TidyTo w (tidyL l)) := by
  have PL := Lib.hid (fun W => rline_any (fun n => rex_any n) l (by omega) W)
  obtain ⟨r, hr⟩ : ∃ r, r = lineOf asN l := ⟨_, rfl⟩
  unfold tidyL
  rw [← hr] at PL ⊢
  obtain ⟨nm, T, E⟩ := r
  by_cases hE : E = 0
  · subst hE
    obtain ⟨h1, -, -, h2⟩ := line_show hr.symm
    have hlen : nm.length + 3 + (showT T).length ≤ 4611686018427387904 := by
      unfold lnS at h2
      by_cases h0 : nm = []
      · rw [if_pos h0] at h2; rw [h0]; simp only [List.length_nil]; omega
      · rw [if_neg h0] at h2
        have : gArr.length = 3 := rfl
        simp only [List.length_append, this] at h2
        omega
    have PX := Lib.hid (fun k f a s A n c B m d W (h : RdT W T (.agg #[.int .i64 k, .int .i64 f, .int .i64 a, .string s, .slice A n c, .slice B m d])) => refLine_any h1 nm k f a s A n c B m d W h hlen)
    simp only [if_true]
    clear hr h1 h2 hlen hl
    go_enter Tryz.func18, Tryz.ntmps18
    go_wp2_with fail
    refine (PL.out _).mono ?_
    rintro e w1 ⟨u, rfl, hu, hb⟩
    obtain ⟨k0, f0, a0, s0, A0, n0, q0, B0, m0, d0, rfl, -⟩ := RdQ_six hu
    obtain ⟨V, hV⟩ : ∃ V, V = w1.alloc (.cells #[.string (txt.strOf nm), .int .i64 k0, .int .i64 f0, .int .i64 a0, .string s0, .slice A0 n0 q0, .slice B0 m0 d0] 32) := ⟨_, rfl⟩
    obtain ⟨sx, b2, -⟩ := seven_new hV
    have HT : Hid (RdT V T (.agg #[.int .i64 k0, .int .i64 f0, .int .i64 a0, .string s0, .slice A0 n0 q0, .slice B0 m0 d0])) := Lib.hid (hu.rd.below b2)
    have HB := Lib.hid (hb.trans (b2.mono hb.size))
    have HV := Lib.hid hV
    obtain ⟨x0, x1, x2, x3, x4, x5, x6, -⟩ := sx
    clear hV b2 hb hu
    go_upto_region 2 with fail
    rw [← HV.out]
    clear HV
    go_wp2_with fail
    refine (PX.out _ _ _ _ _ _ _ _ _ _ _ HT.out).mono ?_
    rintro e w2 ⟨rfl, hb⟩
    have HB := Lib.hid (HB.out.trans (hb.mono HB.out.size))
    clear hb
    go_wp2_with fail
    go_ret2
    exact ⟨rfl, HB.out⟩
  · have he : (E != 0) = true := by simpa using hE
    simp only [if_neg hE]
    clear hr hE hl
    go_enter Tryz.func18, Tryz.ntmps18
    go_wp2_with fail
    refine (PL.out _).mono ?_
    rintro e w1 ⟨u, rfl, hu, hb⟩
    obtain ⟨k0, f0, a0, s0, A0, n0, q0, B0, m0, d0, rfl, -⟩ := RdQ_six hu
    obtain ⟨V, hV⟩ : ∃ V, V = w1.alloc (.cells #[.string (txt.strOf nm), .int .i64 k0, .int .i64 f0, .int .i64 a0, .string s0, .slice A0 n0 q0, .slice B0 m0 d0] 32) := ⟨_, rfl⟩
    obtain ⟨sx, b2, -⟩ := seven_new hV
    have HB := Lib.hid (hb.trans (b2.mono hb.size))
    have HV := Lib.hid hV
    clear hV b2 hb hu sx
    go_upto_region 2 with fail
    rw [← HV.out]
    clear HV
    go_wp2_with fail
    go_ret2
    exact ⟨rfl, HB.out⟩
end Go.Proofs.YthgojbaindejjaaGreatDoor.sh
