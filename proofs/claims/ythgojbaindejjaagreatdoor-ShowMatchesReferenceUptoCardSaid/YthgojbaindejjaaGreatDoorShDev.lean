/- Package show: Line, Expr and Tidy. -/
import Derived.Test.YthgojbaindejjaaGreatDoorShTree
import Derived.Test.YthgojbaindejjaaGreatDoorShOk
import Derived.Defers
import Derived.Recover
namespace Go.Proofs.YthgojbaindejjaaGreatDoor.sh
open Go.ChangeShapes Go.WideShapes Go.ChangeAt Go.RowKit Go.Proofs.YthgojbaindejjaaGreatDoor.mem Go.Proofs.YthgojbaindejjaaGreatDoor.lx Go.Proofs.YthgojbaindejjaaGreatDoor.tr Go.Proofs.YthgojbaindejjaaGreatDoor.ps
set_option linter.unusedVariables false
set_option linter.unusedSimpArgs false

set_option maxHeartbeats 4000000 in
set_option maxRecDepth 100000 in
/-- The writer writes the text of a line. -/
theorem wline_any {T : Tr} (hR : R T) (hd : deepT T ≤ 100) (nm : List UInt8) (w0 : World) (b : Nat) (l : List UInt8) (r : Int) (c : Bool) (k f a : Int) (s : ByteArray) (A B : Option Addr) (n q m d : Nat) (w : World) (h : Job w0 b l r c w)
    (hv : RdT w0 T (.agg #[.int .i64 k, .int .i64 f, .int .i64 a, .string s, .slice A n q, .slice B m d])) (hr : ((lnS nm T).length : Int) ≤ r) :
    Calls Tryz.prog 37 #[.pointer (some ⟨b, 0, none⟩), .agg #[.string (txt.strOf nm), .int .i64 k, .int .i64 f, .int .i64 a, .string s, .slice A n q, .slice B m d]] w (Wrote w0 b l r c w (lnS nm T)) := by
  obtain ⟨W, hW⟩ : ∃ W, W = w.alloc (.cells #[.string (txt.strOf nm), .int .i64 k, .int .i64 f, .int .i64 a, .string s, .slice A n q, .slice B m d] 32) := ⟨_, rfl⟩
  obtain ⟨hJ, hX, hf, hne⟩ := box_new h hW
  have PT := Lib.hid (fun (l : List UInt8) (r : Int) (w : World) (h : Job w0 b l r c w) (hr : ((showT T).length : Int) ≤ r) => tree_any hR w0 b l r c _ 1 w h hv (by omega) (by omega) hr)
  have PP := Lib.hid (fun (l : List UInt8) (r : Int) (s : List UInt8) (w : World) (h : Job w0 b l r c w) (h1 : s ≠ []) (h2 : (s.length : Int) ≤ r) => part_any w0 b l r c s w h h1 h2)
  have HJ := Lib.hid hJ
  have HX := Lib.hid hX
  have HF := Lib.hid hf
  have HN := Lib.hid hne
  have HW := Lib.hid hW
  obtain ⟨x0, x1, x2, x3, x4, x5, x6⟩ := hX.seven
  have hse := str_empty nm
  unfold lnS at hr ⊢
  by_cases h0 : nm = []
  · rw [if_pos h0] at hr ⊢
    have HR := Lib.hid hr
    have hq : (nm == []) = true := by rw [h0]; rfl
    rw [hq] at hse
    clear h hv hr hW hJ hX hf hne hR hd h0 hq
    go_enter Tryz.func37, Tryz.ntmps37
    go_upto_region 1 with fail
    rw [← HW.out]
    go_wp2_with fail
    refine (PT.out _ _ _ HJ.out HR.out).mono ?_
    rintro e w1 ⟨rfl, hj, hf1⟩
    have HJ1 := Lib.hid hj
    have HF1 := Lib.hid (HF.out.trans hf1)
    clear hj hf1
    go_wp2_with fail
    go_end0
    exact ⟨rfl, HJ1.out, HF1.out⟩
  · rw [if_neg h0] at hr ⊢
    have HR := Lib.hid (show (nm.length : Int) + gArr.length + (showT T).length ≤ r by simp only [List.length_append] at hr; omega)
    have hq : (nm == []) = false := by simpa using h0
    have HN0 := Lib.hid h0
    rw [hq] at hse
    clear h hv hr hW hJ hX hf hne hR hd h0 hq
    go_enter Tryz.func37, Tryz.ntmps37
    go_upto_region 1 with fail
    rw [← HW.out]
    go_wp2_with fail
    refine (PP.out _ _ nm _ HJ.out HN0.out (by have := HR.out; omega)).mono ?_
    rintro e w1 ⟨rfl, hj, hf1⟩
    have HJ1 := Lib.hid hj
    have HF1 := Lib.hid (HF.out.trans hf1)
    have HX1 := Lib.hid (HX.out.kept hf1 HN.out (by decide))
    clear x0 x1 x2 x3 x4 x5 x6 hj hf1
    go_wp2_with fail
    refine (PP.out _ _ gArr _ HJ1.out (by decide) (by have := HR.out; omega)).mono ?_
    rintro e w2 ⟨rfl, hj, hf1⟩
    have HJ2 := Lib.hid hj
    have HF2 := Lib.hid (HF1.out.trans hf1)
    have HX2 := Lib.hid (HX1.out.kept hf1 HN.out (by decide))
    clear hj hf1
    obtain ⟨x0, x1, x2, x3, x4, x5, x6⟩ := HX2.out.seven
    go_wp2_with fail
    refine (PT.out _ _ _ HJ2.out (by have := HR.out; omega)).mono ?_
    rintro e w3 ⟨rfl, hj, hf1⟩
    have HJ3 := Lib.hid hj
    have HF3 := Lib.hid (HF2.out.trans hf1)
    clear hj hf1
    go_wp2_with fail
    go_end0
    exact ⟨rfl, HJ3.out.then.then, HF3.out⟩

/-! ### write -/
theorem show_ne {T : Tr} (h : R T) : showT T ≠ [] := by
  have hf : ∀ F ax : Int, fnS F ax ≠ [] := fun F ax => by
    unfold fnS glyF
    split
    · simp [gUp]
    · split
      · simp [gDn]
      · split
        · simp [gRev]
        · split
          · simp [gTrn]
          · split
            · simp [gRho]
            · simp [gCom]
  cases h with
  | nm l h => rw [show_nm]; intro e; rw [e] at h; revert h; decide
  | lit ns h =>
    rw [show_lit]
    cases ns with
    | nil => decide
    | cons n r => exact fun e => decL_ne n (List.append_eq_nil_iff.1 e).1
  | mon F ax T _ _ _ _ _ => rw [show_mon]; exact fun e => hf F ax (List.append_eq_nil_iff.1 e).1
  | dy F ax u T _ _ _ _ _ _ => rw [show_dy]; exact fun e => hf F ax (List.append_eq_nil_iff.1 (List.append_eq_nil_iff.1 e).2).1
theorem line_ne {T : Tr} (h : R T) (nm : List UInt8) : lnS nm T ≠ [] := by
  unfold lnS
  split
  · exact show_ne h
  · rename_i hn
    exact fun e => hn (List.append_eq_nil_iff.1 e).1
theorem calm (w : World) : (binOp .neq 20 .nilIface .nilIface).run Tryz.prog w = .ok (.bool false) w := by kernel_rfl
/-- recover finds nothing: the text stays. -/
theorem calm_any (p : Addr) (w : World) : CallsD Tryz.prog 36 #[.pointer (some p)] .returning w fun e u' w' => e = .returned (.tuple #[]) ∧ u' = .returning ∧ w' = w := by
  refine callsD_of_wpS Tryz.func36 rfl fun c₀ cs hu => ?_
  apply wpS_seq
  apply wpS_region
  simp [wpOpsS, go_sem, recoverD, hu, Tryz.ntmps36, Exit.thenS, calm]
  refine wpS_cond (t := false) (by simp [Act.eval, Array.replicate]) ?_
  simp only [Bool.false_eq_true, if_false]
  refine wpS_of_wp (wp_skip ?_)
  cases c₀
  simp_all [bodyPostS, results, Tryz.results36]
set_option maxHeartbeats 4000000 in
set_option maxRecDepth 100000 in
theorem write_any {T : Tr} (hR : R T) (hd : deepT T ≤ 100) (nm : List UInt8) (k f a : Int) (s : ByteArray) (A B : Option Addr) (n q m d : Nat) (w : World) (hE : ShEnv w)
    (hv : RdT w T (.agg #[.int .i64 k, .int .i64 f, .int .i64 a, .string s, .slice A n q, .slice B m d])) (hr : (lnS nm T).length ≤ 1000000000) :
    Calls Tryz.prog 25 #[.agg #[.string (txt.strOf nm), .int .i64 k, .int .i64 f, .int .i64 a, .string s, .slice A n q, .slice B m d], .int .i64 2147483647] w (StrTo w (lnS nm T)) := by
  obtain ⟨W1, hW1⟩ : ∃ W1, W1 = w.alloc (.cells #[.string (txt.strOf nm), .int .i64 k, .int .i64 f, .int .i64 a, .string s, .slice A n q, .slice B m d] 32) := ⟨_, rfl⟩
  obtain ⟨W2, hW2⟩ : ∃ W2, W2 = W1.alloc (.cells #[.string ⟨#[]⟩] 9) := ⟨_, rfl⟩
  obtain ⟨W3, hW3⟩ : ∃ W3, W3 = W2.alloc (.cells #[.pointer none, .slice none 0 0, .int .i64 2147483647, .bool true] 63) := ⟨_, rfl⟩
  have z1 : W1.heap.size = w.heap.size + 1 := by rw [hW1]; simp
  have z2 : W2.heap.size = w.heap.size + 1 + 1 := by rw [hW2]; simp [z1]
  have b1 : Below w.heap.size w W1 := by rw [hW1]; exact (Below.refl _ w).alloc (Nat.le_refl _) _
  have b2 : Below w.heap.size w W2 := b1.trans (by rw [hW2]; exact (Below.refl _ W1).alloc (by omega) _)
  have k1 : Bx W2 w.heap.size 32 #[.string (txt.strOf nm), .int .i64 k, .int .i64 f, .int .i64 a, .string s, .slice A n q, .slice B m d] := by
    unfold Bx; rw [hW2]; exact alloc_own (by rw [hW1]; exact heap_alloc_new w _)
  have k2 : Bx W2 (w.heap.size + 1) 9 #[.string ⟨#[]⟩] := by unfold Bx; rw [hW2, ← z1]; exact heap_alloc_new W1 _
  have kb : ∀ {V : World} {g : Nat} {t : TypeId} {xs : Array Value}, Bx W2 g t xs → Below W2.heap.size W2 V → Bx V g t xs := fun h hb => (hb.block _ (Array.getElem?_eq_some_iff.1 h).1).trans h
  have hfresh : ∀ (V : World) (c : Bool), Wr V.heap.size V.heap.size [] 2147483647 c (V.alloc (.cells #[.pointer none, .slice none 0 0, .int .i64 2147483647, .bool c] 63)) := fun V c =>
    .inl ⟨Nat.le_refl _, .slice none 0 0, heap_alloc_new V _, World.ownsRow_nil _ _ _ _, by simp [Value.ownBlock]⟩
  have hJ : Job W2 W2.heap.size [] 2147483647 true W3 := ⟨by rw [hW3]; exact hfresh W2 true, by rw [hW3]; exact (Below.refl _ W2).alloc (Nat.le_refl _) _, hE.below b2, by decide, by decide⟩
  obtain ⟨X, hX⟩ : ∃ X, X = lnS nm T := ⟨_, rfl⟩
  obtain ⟨r1, hr1⟩ : ∃ r1, r1 = (2147483647 : Int) - (lnS nm T).length := ⟨_, rfl⟩
  have PL := wline_any hR hd nm W2 W2.heap.size [] 2147483647 true k f a s A B n q m d W3 hJ (hv.below b2) (by omega)
  have P2 := (fun (V V5 : World) (h : Job V V.heap.size [] 2147483647 false V5) (hv : RdT V T (.agg #[.int .i64 k, .int .i64 f, .int .i64 a, .string s, .slice A n q, .slice B m d])) => wline_any hR hd nm V V.heap.size [] 2147483647 false k f a s A B n q m d V5 h hv (by omega))
  unfold Wrote at PL P2
  rw [z2, ← hr1] at PL
  simp only [← hr1] at P2
  have HX0 := Lib.hid (line_ne hR nm)
  rw [← hX] at PL hr1 hr HX0 ⊢
  simp only [← hX] at P2
  have PL := Lib.hid PL
  have P2 := Lib.hid P2
  have hwrap : IntKind.i64.wrap (2147483647 - r1) = (X.length : Int) := by rw [IntKind.wrap_i64]; omega
  have HWS := Lib.hid (And.intro hW3 (And.intro hW2 hW1))
  have HB2 := Lib.hid b2
  have HT := Lib.hid (hv.below b2)
  have HE := Lib.hid (hE.below b2)
  have HK1 := Lib.hid (fun V (hb : Below W2.heap.size W2 V) => (kb k1 hb).seven)
  have HK2 := Lib.hid (fun V (hb : Below W2.heap.size W2 V) => kb k2 hb)
  have HFR := Lib.hid hfresh
  have HLX := Lib.hid hr
  have HSZ := Lib.hid z2
  have HXP := Lib.hid (List.length_pos_iff.2 HX0.out)
  obtain ⟨x0, x1, x2, x3, x4, x5, x6⟩ := (kb k1 hJ.base).seven
  clear hE hv hR hd hW1 hW2 hW3 z1 z2 b1 b2 k1 k2 kb hfresh hJ hX hr1 hr
  go_enter_defers Tryz.func25, Tryz.ntmps25
  go_upto_region 3 with fail
  rw [← HWS.out.2.2, ← HWS.out.2.1, ← HWS.out.1]
  go_wp2_with fail
  refine PL.out.mono ?_
  rintro e w1 ⟨rfl, hj, hf⟩
  have HB1 := Lib.hid hj.base
  have HE1 := Lib.hid (HE.out.below hj.base)
  have HT1 := Lib.hid (HT.out.below hj.base)
  obtain ⟨V5, hV5⟩ : ∃ V, V = w1.alloc (.cells #[.pointer none, .slice none 0 0, .int .i64 2147483647, .bool false] 63) := ⟨_, rfl⟩
  have y2 : V5.cell? ⟨w.heap.size + 1 + 1, 2, none⟩ = some (.int .i64 r1) := by rw [hV5]; exact (wr_cells (hj.wr.alloc _)).1
  have G := Lib.hid (growAll_any w1.heap.size w1.heap.size X.length 2147483647 false V5 (Nat.le_refl _) (by rw [hV5]; exact heap_alloc_new w1 _) (by have := HLX.out; omega) HXP.out)
  have HA5 := Lib.hid (show Below w1.heap.size w1 V5 by rw [hV5]; exact (Below.refl _ w1).alloc (Nat.le_refl _) _)
  have HV5 := Lib.hid hV5
  clear x0 x1 x2 x3 x4 x5 x6 hj hf hV5
  go_upto_region 5 with fail
  rw [← HV5.out]
  go_wp2_with fail
  refine G.out.mono ?_
  rintro e w2 ⟨rfl, hw2, hf2⟩
  have HB2' := Lib.hid (HA5.out.trans hf2.1)
  have HS1 := Lib.hid HB1.out.size
  have HBB2 := Lib.hid (HB1.out.trans (HB2'.out.mono HS1.out))
  have P3 := Lib.hid (P2.out w1 w2 ⟨hw2, HB2'.out, HE1.out, by decide, by decide⟩ HT1.out)
  obtain ⟨x0, x1, x2, x3, x4, x5, x6⟩ := HK1.out w2 HBB2.out
  clear hw2 hf2 y2
  go_wp2_with fail
  refine P3.out.mono ?_
  rintro e w3 ⟨rfl, hj3, hf3⟩
  have ST := Lib.hid (string_any w1.heap.size w1.heap.size X r1 false w3 (by have := hj3.wr; simpa [outC] using this) HX0.out)
  have HBB3 := Lib.hid (HBB2.out.trans (hf3.1.mono HS1.out))
  clear x0 x1 x2 x3 x4 x5 x6 hj3 hf3
  go_wp2_with fail
  refine ST.out.mono ?_
  rintro e w4 ⟨rfl, hf4⟩
  have HBB4 := Lib.hid (HBB3.out.trans (hf4.1.mono HS1.out))
  have c0 : w4.cell? ⟨w.heap.size + 1, 0, none⟩ = some (.string ⟨#[]⟩) := (HK2.out w4 HBB4.out).cell 0
  have f0 := Lib.frozen_of_heap (HK2.out w4 HBB4.out) 0
  clear hf4
  go_wp2_with fail
  refine leaves_cons (f := 36) (args := #[.pointer (some ⟨w.heap.size + 1, 0, none⟩)]) (by simp) (by simp [go_sem]) ?_
  refine (calm_any _ _).mono ?_
  rintro e u' w'' ⟨rfl, rfl, rfl⟩
  have HFIN := Lib.hid (show Below w.heap.size w (w4.setCell ⟨w.heap.size + 1, 0, none⟩ (.string (txt.strOf X))) from (HB2.out.trans (HBB4.out.mono HB2.out.size)).setCell (p := ⟨w.heap.size + 1, 0, none⟩) (Nat.le_succ _) _)
  simp [Leaves, settle, results, Tryz.results25, go_sem, c0]
  exact ⟨rfl, HFIN.out⟩
/-! ### The functions of the package -/
set_option maxHeartbeats 4000000 in
set_option maxRecDepth 100000 in
theorem devLine_any {T : Tr} (hR : R T) (hd : deepT T ≤ 100) (nm : List UInt8) (k f a : Int) (s : ByteArray) (A B : Option Addr) (n q m d : Nat) (w : World) (hE : ShEnv w)
    (hv : RdT w T (.agg #[.int .i64 k, .int .i64 f, .int .i64 a, .string s, .slice A n q, .slice B m d])) (hr : (lnS nm T).length ≤ 1000000000) :
    Calls Tryz.prog 12 #[.agg #[.string (txt.strOf nm), .int .i64 k, .int .i64 f, .int .i64 a, .string s, .slice A n q, .slice B m d]] w (StrTo w (lnS nm T)) := by
  obtain ⟨W, hW⟩ : ∃ W, W = w.alloc (.cells #[.string (txt.strOf nm), .int .i64 k, .int .i64 f, .int .i64 a, .string s, .slice A n q, .slice B m d] 32) := ⟨_, rfl⟩
  obtain ⟨hS, hbW, hsW⟩ := seven_new hW
  have PW := Lib.hid (write_any hR hd nm k f a s A B n q m d W (hE.below hbW) (hv.below hbW) hr)
  have HB := Lib.hid hbW
  have HW := Lib.hid hW
  obtain ⟨x0, x1, x2, x3, x4, x5, x6, -⟩ := hS
  clear hE hv hr hW hbW hsW hR hd
  go_enter Tryz.func12, Tryz.ntmps12
  go_upto_region 1 with fail
  rw [← HW.out]
  go_wp2_with fail
  refine PW.out.mono ?_
  rintro e w1 ⟨rfl, hb⟩
  have HB1 := Lib.hid (HB.out.trans (hb.mono HB.out.size))
  clear hb
  go_wp2_with fail
  go_ret
  exact ⟨rfl, HB1.out⟩
set_option maxHeartbeats 4000000 in
set_option maxRecDepth 100000 in
theorem devExpr_any {T : Tr} (hR : R T) (hd : deepT T ≤ 100) (v : Value) (w : World) (hE : ShEnv w) (hv : RdT w T v) (hr : (showT T).length ≤ 1000000000) :
    Calls Tryz.prog 10 #[v] w (StrTo w (showT T)) := by
  obtain ⟨k, f, a, s, ns, ks⟩ := T
  obtain ⟨A, n, q, B, m, d, rfl, -⟩ := rdT_node.1 (id hv)
  obtain ⟨T, hT⟩ : ∃ T, T = Tr.node k f a s ns ks := ⟨_, rfl⟩
  rw [← hT] at hR hd hv hr ⊢
  obtain ⟨W, hW⟩ : ∃ W, W = w.alloc (.cells #[.int .i64 k, .int .i64 f, .int .i64 a, .string s, .slice A n q, .slice B m d] 25) := ⟨_, rfl⟩
  obtain ⟨hS, hbW, hsW⟩ := six_new hW
  have hln : lnS [] T = showT T := by unfold lnS; rw [if_pos rfl]
  have PW := Lib.hid (devLine_any hR hd [] k f a s A B n q m d W (hE.below hbW) (hv.below hbW) (by rw [hln]; exact hr))
  rw [hln] at PW
  have HB := Lib.hid hbW
  have HW := Lib.hid hW
  obtain ⟨x0, x1, x2, x3, x4, x5, -⟩ := hS
  clear hE hv hr hW hbW hsW hR hd hT hln
  go_enter Tryz.func10, Tryz.ntmps10
  go_upto_region 1 with fail
  rw [← HW.out]
  go_wp2_with fail
  refine PW.out.mono ?_
  rintro e w1 ⟨rfl, hb⟩
  have HB1 := Lib.hid (HB.out.trans (hb.mono HB.out.size))
  clear hb
  go_wp2_with fail
  go_ret
  exact ⟨rfl, HB1.out⟩
set_option maxHeartbeats 4000000 in
set_option maxRecDepth 100000 in
theorem devTidy_any (l : List UInt8) (hl : l.length ≤ 100000) (w : World) (hE0 : ShEnv w) : Calls Tryz.prog 17 #[.string (txt.strOf l)] w (TidyTo w (tidyL l)) := by
  have PL := Lib.hid (line_any l (by omega) w hE0.1)
  have HEV := Lib.hid hE0
  clear hE0
  obtain ⟨r, hr⟩ : ∃ r, r = lineOf asN l := ⟨_, rfl⟩
  unfold tidyL
  rw [← hr] at PL ⊢
  obtain ⟨nm, T, E⟩ := r
  by_cases hE : E = 0
  · subst hE
    obtain ⟨h1, hd1, -, h2⟩ := line_show hr.symm
    have PX := Lib.hid (fun k f a s A n c B m d W (hE : ShEnv W) (h : RdT W T (.agg #[.int .i64 k, .int .i64 f, .int .i64 a, .string s, .slice A n c, .slice B m d])) => devLine_any h1 hd1 nm k f a s A B n c m d W hE h (by omega))
    simp only [if_true]
    clear hr h1 h2 hl hd1
    go_enter Tryz.func17, Tryz.ntmps17
    go_wp2_with fail
    refine PL.out.mono ?_
    rintro e w1 ⟨u, rfl, hu, hb⟩
    obtain ⟨k0, f0, a0, s0, A0, n0, q0, B0, m0, d0, rfl, -⟩ := RdQ_six hu
    obtain ⟨V, hV⟩ : ∃ V, V = w1.alloc (.cells #[.string (txt.strOf nm), .int .i64 k0, .int .i64 f0, .int .i64 a0, .string s0, .slice A0 n0 q0, .slice B0 m0 d0] 32) := ⟨_, rfl⟩
    obtain ⟨sx, b2, -⟩ := seven_new hV
    have HT : Hid (RdT V T (.agg #[.int .i64 k0, .int .i64 f0, .int .i64 a0, .string s0, .slice A0 n0 q0, .slice B0 m0 d0])) := Lib.hid (hu.rd.below b2)
    have HB := Lib.hid (hb.trans (b2.mono hb.size))
    have HV := Lib.hid hV
    obtain ⟨x0, x1, x2, x3, x4, x5, x6, -⟩ := sx
    clear hV b2 hb hu
    go_upto_region 2 with fail
    rw [← HV.out]
    clear HV
    go_wp2_with fail
    refine (PX.out _ _ _ _ _ _ _ _ _ _ _ (HEV.out.below HB.out) HT.out).mono ?_
    rintro e w2 ⟨rfl, hb⟩
    have HB := Lib.hid (HB.out.trans (hb.mono HB.out.size))
    clear hb
    go_wp2_with fail
    go_ret2
    exact ⟨rfl, HB.out⟩
  · have he : (E != 0) = true := by simpa using hE
    simp only [if_neg hE]
    clear hr hE hl
    go_enter Tryz.func17, Tryz.ntmps17
    go_wp2_with fail
    refine PL.out.mono ?_
    rintro e w1 ⟨u, rfl, hu, hb⟩
    obtain ⟨k0, f0, a0, s0, A0, n0, q0, B0, m0, d0, rfl, -⟩ := RdQ_six hu
    obtain ⟨V, hV⟩ : ∃ V, V = w1.alloc (.cells #[.string (txt.strOf nm), .int .i64 k0, .int .i64 f0, .int .i64 a0, .string s0, .slice A0 n0 q0, .slice B0 m0 d0] 32) := ⟨_, rfl⟩
    obtain ⟨sx, b2, -⟩ := seven_new hV
    have HB := Lib.hid (hb.trans (b2.mono hb.size))
    have HV := Lib.hid hV
    clear hV b2 hb hu sx
    go_upto_region 2 with fail
    rw [← HV.out]
    clear HV
    go_wp2_with fail
    go_ret2
    exact ⟨rfl, HB.out⟩
theorem show_ok : ShowOk ShEnv where
  below := fun h hb => h.below hb
  lays := fun h => h.1
  expr := fun hR v w hE hv hl => devExpr_any hR.1 hR.2 v w hE hv (by omega)
  line := fun {T} hR nm k f a s A n c B m d w hE hv hn hl => devLine_any hR.1 hR.2 nm k f a s A B n c m d w hE hv (by
    unfold lnS
    have : gArr.length = 3 := rfl
    split
    · omega
    · simp only [List.length_append]; omega)
  tidy := fun l w hl hE => devTidy_any l hl w hE
end Go.Proofs.YthgojbaindejjaaGreatDoor.sh
