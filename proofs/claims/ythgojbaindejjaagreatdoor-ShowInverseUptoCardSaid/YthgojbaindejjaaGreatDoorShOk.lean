/- What the laws of stage 10 ask of package show; their fixed texts; a right tree's text is no longer than forty times its weight. The walk of awake. -/
import Derived.Test.YthgojbaindejjaaGreatDoorShRef
import Derived.Test.YthgojbaindejjaaGreatDoorTreeSame
import Derived.Test.YthgojbaindejjaaGreatDoorTreeOpen
import Derived.Test.YthgojbaindejjaaGreatDoorAft
import Derived.Deep.RegionHeld3
/- What the laws of stage 10 ask of package show; their fixed texts; a right tree's text is no longer than forty times its weight. -/
namespace Go.Proofs.YthgojbaindejjaaGreatDoor.sh
open Go.ChangeShapes Go.WideShapes Go.ChangeAt Go.RowKit Go.Proofs.YthgojbaindejjaaGreatDoor.mem Go.Proofs.YthgojbaindejjaaGreatDoor.lx Go.Proofs.YthgojbaindejjaaGreatDoor.tr Go.Proofs.YthgojbaindejjaaGreatDoor.ps
set_option linter.unusedVariables false
set_option linter.unusedSimpArgs false

/-- Package show does what the chapter says, in worlds that Env speaks of. -/
structure ShowOk (Env : World → Prop) : Prop where
  below : ∀ {w w' : World}, Env w → Below w.heap.size w w' → Env w'
  lays : ∀ {w : World}, Env w → Lays w
  expr : ∀ {T : Tr}, R T ∧ deepT T ≤ 100 → ∀ (v : Value) (w : World), Env w → RdT w T v → (showT T).length ≤ 100000000 → Calls Tryz.prog 10 #[v] w (StrTo w (showT T))
  line : ∀ {T : Tr}, R T ∧ deepT T ≤ 100 → ∀ (nm : List UInt8) (k f a : Int) (s : ByteArray) (A : Option Addr) (n c : Nat) (B : Option Addr) (m d : Nat) (w : World), Env w → RdT w T (.agg #[.int .i64 k, .int .i64 f, .int .i64 a, .string s, .slice A n c, .slice B m d]) → nm.length ≤ 100000 → (showT T).length ≤ 100000000 →
    Calls Tryz.prog 12 #[.agg #[.string (txt.strOf nm), .int .i64 k, .int .i64 f, .int .i64 a, .string s, .slice A n c, .slice B m d]] w (StrTo w (lnS nm T))
  tidy : ∀ (l : List UInt8) (w : World), l.length ≤ 100000 → Env w → Calls Tryz.prog 17 #[.string (txt.strOf l)] w (TidyTo w (tidyL l))

/-! ### The fixed texts -/
def y0 : List UInt8 := [50, 226, 134, 145, 226, 140, 189, 91, 48, 93, 40, 120, 44, 121, 41, 44, 194, 175, 49, 32, 53]
def y1 : List UInt8 := [32, 97, 32, 226, 134, 144, 40, 40, 32, 226, 141, 172, 32, 41, 41, 226, 141, 180, 32, 120]
def y2 : List UInt8 := [226, 134, 145, 120]
def T0 : Tr := dy 1 (-1) (lit [2]) (mon 3 0 (dy 6 (-1) (dy 6 (-1) (nx 120) (nx 121)) (lit [-1, 5])))
def T1 : Tr := dy 5 (-1) (lit []) (nx 120)
theorem ty0 : toks y0 = some [⟨2, [50], 2⟩, ⟨3, [226, 134, 145], 0⟩, ⟨3, [226, 140, 189], 0⟩, ⟨3, [91], 0⟩, ⟨2, [48], 0⟩, ⟨3, [93], 0⟩, ⟨3, [40], 0⟩, ⟨1, [120], 0⟩, ⟨3, [44], 0⟩, ⟨1, [121], 0⟩, ⟨3, [41], 0⟩, ⟨3, [44], 0⟩, ⟨2, [194, 175, 49], -1⟩, ⟨2, [53], 5⟩] := by decide +kernel
theorem ty1 : toks y1 = some [⟨1, [97], 0⟩, ⟨3, [226, 134, 144], 0⟩, ⟨3, [40], 0⟩, ⟨3, [40], 0⟩, ⟨3, [226, 141, 172], 0⟩, ⟨3, [41], 0⟩, ⟨3, [41], 0⟩, ⟨3, [226, 141, 180], 0⟩, ⟨1, [120], 0⟩] := by decide +kernel
theorem ty2 : toks y2 = some [⟨3, [226, 134, 145], 0⟩, ⟨1, [120], 0⟩] := by decide +kernel
theorem lny0 : lineOf unN y0 = ([], T0, 0) := by unfold lineOf; rw [ty0]; rfl
theorem lny1 : lineOf asN y1 = ([97], T1, 0) := by unfold lineOf; rw [ty1]; rfl
theorem lny2 : lineOf asN y2 = ([], zT, 1) := by unfold lineOf; rw [ty2]; rfl
theorem r_nx (c : UInt8) (h : nameB [c] = true) : R (nx c) := R.nm [c] h
theorem r_T0 : R T0 :=
  R.dy _ _ _ _ (by decide) (by decide) (.inl rfl) (.inr (.inl rfl)) (R.lit _ (by decide)) (R.mon _ _ _ (by decide) (by decide) (.inr ⟨by decide, .inl rfl⟩) (.inl rfl)
    (R.dy _ _ _ _ (by decide) (by decide) (.inl rfl) (.inl rfl) (R.dy _ _ _ _ (by decide) (by decide) (.inl rfl) (.inl rfl) (r_nx _ (by decide)) (r_nx _ (by decide))) (R.lit _ (by decide))))
theorem d0_ : decL 0 = [48] := by unfold decL; rw [if_neg (by decide)]; exact Lib.decDigits_one (by decide)
theorem d2_ : decL 2 = [50] := by unfold decL; rw [if_neg (by decide)]; exact Lib.decDigits_one (by decide)
theorem d5_ : decL 5 = [53] := by unfold decL; rw [if_neg (by decide)]; exact Lib.decDigits_one (by decide)
theorem dm1_ : decL (-1) = [194, 175, 49] := by
  unfold decL
  rw [if_pos (by decide), show (-1 : Int).natAbs = 1 from rfl, Lib.decDigits_one (by decide)]; rfl
theorem show_nx (c : UInt8) : showT (nx c) = [c] := show_nm [c]
theorem show_T0 : showT T0 = y0 := by
  unfold T0
  rw [show_dy, show_lit, show_mon, show_dy, show_dy, show_nx, show_nx, show_lit]
  show par 1 (decL 2 ++ litB []) ++ (fnS 1 (-1) ++ (fnS 3 0 ++ (par 4 (par 2 [120] ++ (fnS 6 (-1) ++ [121])) ++ (fnS 6 (-1) ++ (decL (-1) ++ (32 :: (decL 5 ++ litB []))))))) = y0
  unfold fnS axS
  rw [if_neg (by decide), if_pos (by decide), d2_, dm1_, d5_, d0_]
  rfl
theorem show_T1 : lnS [97] T1 = [97, 226, 134, 144, 226, 141, 172, 226, 141, 180, 120] := by
  unfold T1 lnS
  rw [if_neg (by simp), show_dy, show_lit, show_nx]
  show [97] ++ (gArr ++ (par 1 gZil ++ (fnS 5 (-1) ++ [120]))) = _
  unfold fnS axS
  rw [if_neg (by decide)]
  rfl
theorem tidy_y1 : tidyL y1 = ([97, 226, 134, 144, 226, 141, 172, 226, 141, 180, 120], 0) := by
  unfold tidyL
  rw [lny1]
  simp only [if_true]
  rw [show_T1]
theorem tidy_y2 : tidyL y2 = ([], 1) := by
  unfold tidyL
  rw [lny2]
  rfl
theorem line_T0 : lnS [98] T0 = [98, 226, 134, 144] ++ y0 := by
  unfold lnS
  rw [if_neg (by simp), show_T0]
  rfl

/-! ### The text's length -/
theorem fnS_le {F ax : Int} (h1 : 1 ≤ F) (h2 : F ≤ 6) (h : axOk F ax) : (fnS F ax).length ≤ 35 := by
  unfold fnS axS
  have hg : (glyF F).length ≤ 3 := by rcases six h1 h2 with rfl | rfl | rfl | rfl | rfl | rfl <;> decide
  rcases ax_in h with rfl | ⟨a1, a2⟩
  · rw [if_neg (by decide), List.append_nil]; omega
  · have := axis_dec a1 a2
    rw [if_pos a1]
    simp only [List.length_append, List.length_cons, List.length_nil]
    omega
theorem litB_le : ∀ ns : List Int, (∀ n ∈ ns, -9223372036854775808 ≤ n ∧ n ≤ 9223372036854775807) → (litB ns).length ≤ 31 * ns.length
  | [], _ => by simp [litB]
  | n :: r, h => by
    have h1 := litB_le r fun x hx => h x (by simp [hx])
    have hn := h n (by simp)
    have := decL_len n hn.1 hn.2
    show (32 :: (decL n ++ litB r)).length ≤ _
    simp only [List.length_append, List.length_cons]
    omega
theorem show_wt {T : Tr} (h : R T) : (showT T).length ≤ 40 * wtT T := by
  induction h with
  | nm l h => rw [show_nm, wt_node]; have := txt.strOf_size l; simp only [wtL, List.length_nil]; omega
  | lit ns h =>
    have h1 := litB_le ns h
    have h2 := litS_le ns
    rw [show_lit]
    unfold lit
    rw [wt_node]
    simp only [wtL]
    omega
  | mon F ax T h1 h2 h3 h4 _ ih =>
    have := fnS_le h1 h2 h3
    rw [show_mon, List.length_append]
    unfold mon
    rw [wt_node, wtL_cons]
    omega
  | dy F ax u T h1 h2 h3 h4 _ _ ih1 ih2 =>
    have := fnS_le h1 h2 h3
    have := (par_le u.kind (showT u)).2
    rw [show_dy, List.length_append, List.length_append]
    unfold dy
    rw [wt_node, wtL_cons, wtL_cons]
    omega
theorem show_short {T : Tr} (h : R T) (hw : wtT T ≤ 1048576) : (showT T).length ≤ 100000000 := by
  have := show_wt h
  omega
end Go.Proofs.YthgojbaindejjaaGreatDoor.sh

/- The walk of awake. -/
namespace Go.Proofs.YthgojbaindejjaaGreatDoor.sh
open Go.ChangeShapes Go.WideShapes Go.ChangeAt Go.RowKit Go.Proofs.YthgojbaindejjaaGreatDoor.mem Go.Proofs.YthgojbaindejjaaGreatDoor.lx Go.Proofs.YthgojbaindejjaaGreatDoor.tr Go.Proofs.YthgojbaindejjaaGreatDoor.ps
set_option linter.unusedVariables false
set_option linter.unusedSimpArgs false

section
variable {Env : World → Prop} (SO : ShowOk Env)
include SO
theorem ex_y0 (W : World) (h : Env W) : Calls Tryz.prog 14 #[.string (txt.strOf [50, 226, 134, 145, 226, 140, 189, 91, 48, 93, 40, 120, 44, 121, 41, 44, 194, 175, 49, 32, 53])] W (TreeTo W T0 0) := by
  have := expr_text y0 (by decide) W (SO.lays h); rwa [lny0] at this
theorem td_y1 (W : World) (h : Env W) : Calls Tryz.prog 17 #[.string (txt.strOf [32, 97, 32, 226, 134, 144, 40, 40, 32, 226, 141, 172, 32, 41, 41, 226, 141, 180, 32, 120])] W (TidyTo W ([97, 226, 134, 144, 226, 141, 172, 226, 141, 180, 120], 0)) := by
  have := SO.tidy y1 W (by decide) h; rwa [tidy_y1] at this
theorem td_y2 (W : World) (h : Env W) : Calls Tryz.prog 17 #[.string (txt.strOf [226, 134, 145, 120])] W (TidyTo W ([], 1)) := by
  have := SO.tidy y2 W (by decide) h; rwa [tidy_y2] at this
theorem sh_T0 (v : Value) (W : World) (h : Env W) (hv : RdT W T0 v) : Calls Tryz.prog 10 #[v] W (StrTo W [50, 226, 134, 145, 226, 140, 189, 91, 48, 93, 40, 120, 44, 121, 41, 44, 194, 175, 49, 32, 53]) := by
  have := SO.expr ⟨r_T0, by decide⟩ v W h hv (by rw [show_T0]; decide); rwa [show_T0] at this
theorem sl_T0 (k f a : Int) (s : ByteArray) (A : Option Addr) (n c : Nat) (B : Option Addr) (m d : Nat) (W : World) (h : Env W) (hv : RdT W T0 (.agg #[.int .i64 k, .int .i64 f, .int .i64 a, .string s, .slice A n c, .slice B m d])) :
    Calls Tryz.prog 12 #[.agg #[.string (txt.strOf [98]), .int .i64 k, .int .i64 f, .int .i64 a, .string s, .slice A n c, .slice B m d]] W (StrTo W ([98, 226, 134, 144] ++ [50, 226, 134, 145, 226, 140, 189, 91, 48, 93, 40, 120, 44, 121, 41, 44, 194, 175, 49, 32, 53])) := by
  have := SO.line ⟨r_T0, by decide⟩ [98] k f a s A n c B m d W h hv (by decide) (by rw [show_T0]; decide); rwa [line_T0] at this
set_option maxHeartbeats 4000000 in
set_option maxRecDepth 100000 in
theorem awake_true (w : World) (hL : Env w) : Calls Tryz.prog 7 #[] w (Holds w) := by
  have PE := Lib.hid (fun W h => ex_y0 SO W h)
  have P1 := Lib.hid (fun W h => td_y1 SO W h)
  have P2 := Lib.hid (fun W h => td_y2 SO W h)
  have PX := Lib.hid (fun v W h hv => sh_T0 SO v W h hv)
  have PL := Lib.hid (fun k f a s A n c B m d W h hv => sl_T0 SO k f a s A n c B m d W h hv)
  have st0 := toList_str [50, 226, 134, 145, 226, 140, 189, 91, 48, 93, 40, 120, 44, 121, 41, 44, 194, 175, 49, 32, 53]
  have st1 := toList_str [97, 226, 134, 144, 226, 141, 172, 226, 141, 180, 120]
  have st2 := toList_str ([98, 226, 134, 144] ++ [50, 226, 134, 145, 226, 140, 189, 91, 48, 93, 40, 120, 44, 121, 41, 44, 194, 175, 49, 32, 53])
  have cc : ∀ W, (Op.stringOp .add ⟨#[98, 226, 134, 144]⟩ ⟨#[50, 226, 134, 145, 226, 140, 189, 91, 48, 93, 40, 120, 44, 121, 41, 44, 194, 175, 49, 32, 53]⟩).run Tryz.prog W = .ok (.string (txt.strOf ([98, 226, 134, 144] ++ [50, 226, 134, 145, 226, 140, 189, 91, 48, 93, 40, 120, 44, 121, 41, 44, 194, 175, 49, 32, 53]))) W := txt.cat_run [98, 226, 134, 144] [50, 226, 134, 145, 226, 140, 189, 91, 48, 93, 40, 120, 44, 121, 41, 44, 194, 175, 49, 32, 53] (by decide)
  have HL := Lib.hid hL; clear hL
  have AF := Lib.hid (Aft.refl w)
  go_enter Tryz.func7, Tryz.ntmps7
  go_wp2_with fail
  refine (PE.out _ HL.out).mono ?_
  rintro e w0 ⟨u, rfl, hu, hb⟩
  obtain ⟨k1, f1, a1, s1, A1, n1, c1, B1, m1, d1, rfl, -⟩ := RdQ_six hu
  obtain ⟨V0, hV⟩ : ∃ V, V = w0.alloc (.cells #[.int .i64 k1, .int .i64 f1, .int .i64 a1, .string s1, .slice A1 n1 c1, .slice B1 m1 d1] 25) := ⟨_, rfl⟩
  obtain ⟨sx, b2, -⟩ := six_new hV
  have HL := Lib.hid (SO.below (SO.below HL.out hb) b2)
  have AF := Lib.hid ((AF.out.call hb).call b2)
  have TR1 : Hid (RdT V0 _ (.agg #[.int .i64 k1, .int .i64 f1, .int .i64 a1, .string s1, .slice A1 n1 c1, .slice B1 m1 d1])) := Lib.hid (hu.rd.below b2)
  have SX1 := Lib.hid sx
  have HV := Lib.hid hV
  clear hV sx b2 hb hu
  go_upto_region 3 with fail
  rw [← HV.out]
  clear HV
  go_wp2_with fail
  refine (P1.out _ HL.out).mono ?_
  rintro e w1 ⟨rfl, hb⟩
  have TR1 := Lib.hid (TR1.out.below hb)
  have SX1 := Lib.hid (SX1.out.below hb)
  have HL := Lib.hid (SO.below HL.out hb)
  have AF := Lib.hid (AF.out.call hb)
  clear hb
  go_wp2_with fail
  refine (P2.out _ HL.out).mono ?_
  rintro e w2 ⟨rfl, hb⟩
  have TR1 := Lib.hid (TR1.out.below hb)
  have SX1 := Lib.hid (SX1.out.below hb)
  have HL := Lib.hid (SO.below HL.out hb)
  have AF := Lib.hid (AF.out.call hb)
  clear hb
  have x1_0 := SX1.out.c0
  have x1_1 := SX1.out.c1
  have x1_2 := SX1.out.c2
  have x1_3 := SX1.out.c3
  have x1_4 := SX1.out.c4
  have x1_5 := SX1.out.c5
  go_wp2_with fail
  refine (PX.out _ _ HL.out TR1.out).mono ?_
  rintro e w3 ⟨rfl, hb⟩
  clear x1_0 x1_1 x1_2 x1_3 x1_4 x1_5
  have TR1 := Lib.hid (TR1.out.below hb)
  have SX1 := Lib.hid (SX1.out.below hb)
  have HL := Lib.hid (SO.below HL.out hb)
  have AF := Lib.hid (AF.out.call hb)
  clear hb
  have x1_0 := SX1.out.c0
  have x1_1 := SX1.out.c1
  have x1_2 := SX1.out.c2
  have x1_3 := SX1.out.c3
  have x1_4 := SX1.out.c4
  have x1_5 := SX1.out.c5
  go_wp2_with fail
  refine (PL.out _ _ _ _ _ _ _ _ _ _ _ HL.out TR1.out).mono ?_
  rintro e w4 ⟨rfl, hb⟩
  clear x1_0 x1_1 x1_2 x1_3 x1_4 x1_5
  have TR1 := Lib.hid (TR1.out.below hb)
  have SX1 := Lib.hid (SX1.out.below hb)
  have HL := Lib.hid (SO.below HL.out hb)
  have AF := Lib.hid (AF.out.call hb)
  clear hb
  go_wp2_with fail
  go_ret
  exact ⟨rfl, AF.out⟩
end
end Go.Proofs.YthgojbaindejjaaGreatDoor.sh
