/- Contracts of array.fill and array.Tabulate: a function value that is called for each index. -/
import Derived.Test.YtbadbjcommdjgaaArrOps
import Derived.Defers
import Derived.Recover
namespace Go.Proofs.Ytbadbjcommdjgaa.arr
open Go.ChangeShapes Go.WideShapes Go.ChangeAt Go.RowKit Go.Proofs.Ytbadbjcommdjgaa.mem Go.Proofs.Ytbadbjcommdjgaa.shp Go.Proofs.Ytbadbjcommdjgaa.eql Go.Proofs.Ytbadbjcommdjgaa.gam
set_option linter.unusedVariables false

/-- From block B on nothing has turned but the row g. -/
structure Over (B : Nat) (row : Option Nat) (V V' : World) : Prop where
  os : V'.os = V.os
  tape : V'.tape = V.tape
  output : V'.output = V.output
  size : V.heap.size ≤ V'.heap.size
  block : ∀ k, B ≤ k → k < V.heap.size → some k ≠ row → V'.heap[k]? = V.heap[k]?
theorem Over.refl (B : Nat) (row : Option Nat) (V : World) : Over B row V V := ⟨rfl, rfl, rfl, Nat.le_refl _, fun _ _ _ _ => rfl⟩
theorem Over.trans {B : Nat} {row : Option Nat} {U V W : World} (h : Over B row U V) (k : Over B row V W) : Over B row U W :=
  ⟨k.os.trans h.os, k.tape.trans h.tape, k.output.trans h.output, Nat.le_trans h.size k.size, fun i hi hlt hn => (k.block i hi (Nat.lt_of_lt_of_le hlt h.size) hn).trans (h.block i hi hlt hn)⟩
theorem Over.of_below {B : Nat} {row : Option Nat} {V V' : World} (h : Below V.heap.size V V') : Over B row V V' := ⟨h.os, h.tape, h.output, h.size, fun k _ hk _ => h.block k hk⟩
theorem Over.row {B : Nat} {V V' : World} (row : Option Nat) (h : Over B none V V') : Over B row V V' := ⟨h.os, h.tape, h.output, h.size, fun k h1 h2 _ => h.block k h1 h2 (by simp)⟩
theorem Over.setCell {B g : Nat} {U V : World} (h : Over B (some g) U V) (j : Nat) (x : Value) : Over B (some g) U (V.setCell ⟨g, j, none⟩ x) :=
  h.trans ⟨rfl, rfl, rfl, by simp [World.setCell], fun k _ _ hn => Below.heap_setCell _ _ _ _ (fun e => hn (by rw [e]))⟩
theorem Over.cell {B : Nat} {row : Option Nat} {V V' : World} (h : Over B row V V') {b o : Nat} (h1 : B ≤ b) (h2 : b < V.heap.size) (h3 : some b ≠ row) : V'.cell? ⟨b, o, none⟩ = V.cell? ⟨b, o, none⟩ :=
  World.cell?_of_block (a := ⟨b, o, none⟩) (h.block b h1 h2 h3)
theorem Over.frozen {B : Nat} {row : Option Nat} {V V' : World} (h : Over B row V V') {b o : Nat} (h1 : B ≤ b) (h2 : b < V.heap.size) (h3 : some b ≠ row) : V'.frozen? ⟨b, o, none⟩ = V.frozen? ⟨b, o, none⟩ :=
  World.frozen?_of_block (a := ⟨b, o, none⟩) (h.block b h1 h2 h3)
theorem OwnT.over {t : TypeId} {B B' : Nat} {V V' : World} {v : Value} {xs : List Int} (h : OwnT t V B v xs) (ho : Over B' none V V') (hB : B' ≤ B) : OwnT t V' B v xs := by
  refine ⟨h.1, ?_⟩
  rcases h.2 with h2 | ⟨g, cap, cur, hv, hg, hh, r⟩
  · exact .inl h2
  · exact .inr ⟨g, cap, cur, hv, hg, by rw [ho.block g (by omega) (Array.getElem?_eq_some_iff.1 hh).1 (by simp)]; exact hh, r⟩

theorem row_at (F : Nat → Int) {k N : Nat} (h : k < N) : ((List.range k).map F ++ List.replicate (N - k) 0)[k]? = some 0 := by
  rw [List.getElem?_append_right (by simp), List.length_map, List.length_range, Nat.sub_self, List.getElem?_replicate, if_pos (by omega)]
theorem row_set (F : Nat → Int) {k N : Nat} (h : k < N) : ((List.range k).map F ++ List.replicate (N - k) 0).set k (F k) = (List.range (k + 1)).map F ++ List.replicate (N - (k + 1)) 0 := by
  rw [List.set_append_right _ _ (by simp), List.range_succ, List.map_append, List.append_assoc]
  congr 1
  obtain ⟨m, hm⟩ : ∃ m, N - k = m + 1 := ⟨N - k - 1, by omega⟩
  rw [hm, List.replicate_succ, show N - (k + 1) = m by omega]
  simp
/-- A row of ints is not touched by a store into a row of int64. -/
theorem own_aside {w : World} {B B' n c g N M : Nat} {S : Option Addr} {xs ys : List Int} (h : Own w B (.slice S n c) xs) (h' : Own8 w B' (.slice (some ⟨g, 0, none⟩) N M) ys) (k : Nat) (v : Value) : Own (w.setCell ⟨g, k, none⟩ v) B (.slice S n c) xs := by
  rcases S with _ | ad
  · rcases h.2 with h2 | ⟨_, _, _, hv, _⟩
    · exact ⟨h.1, .inl h2⟩
    · injection hv with e; cases e
  · rcases h.2 with ⟨h2, _⟩ | ⟨g', cap, cur, hv, _⟩
    · injection h2 with e; cases e
    · injection hv with e1 e2 e3
      injection e1 with e1
      subst e1
      exact OwnT.own ((Own.t h).aside (p := ⟨g, k, none⟩) (fun e => own_apart h' (Own.t h) (by decide) e) v)

/-- A function value that is called for each index: its k-th call (index idxN s k) answers F k; I k: what holds when k calls were made. -/
structure Back (K : Nat) (fst : Array Value) (B n N : Nat) (s : List Int) (F : Nat → Int) (I : Nat → World → Prop) : Prop where
  enter : ∀ args w, (callFunc K args).run Try.prog w = .ok (.enter K args) w
  keeps : ∀ k V V', I k V → Below B V V' → I k V'
  call : ∀ k A c V, k < N → I k V → Rd V A n (idxN s k) → Calls Try.prog K (fst ++ #[.slice A n c]) V fun e V' => e = .returned (.int .i64 (F k)) ∧ I (k + 1) V' ∧ Over B none V V'

/-- recover finds nothing: ok becomes true. -/
theorem catch_idle (p : Addr) (x : Value) (w : World) (hc : w.cell? p = some x) (hf : w.frozen? p = false) :
    CallsD Try.prog 44 #[.pointer (some p)] .returning w fun e u' w' => e = .returned (.tuple #[]) ∧ u' = .returning ∧ w' = w.setCell p (.bool true) := by
  refine callsD_of_wpS Try.func44 rfl fun c₀ cs hu => ?_
  have hn : ∀ w : World, (binOp BinOp.eql 20 .nilIface .nilIface).run Try.prog w = .ok (.bool true) w := fun _ => by kernel_rfl
  apply wpS_region
  simp [wpOpsS, go_sem, recoverD, hu, Try.ntmps44, hn, hc, hf, bodyPostS, results, Try.results44]
  try (cases c₀; simp_all)
theorem fill_any (K : Nat) (fst : Array Value) (S : Option Addr) (n c g N B : Nat) (s : List Int) (F : Nat → Int) (I : Nat → World → Prop) (w : World) (hb : Back K fst B n N s F I) (hB : B ≤ w.heap.size) (hn : n ≤ 16) (hN : (N : Int) = celN s) (h0 : chkE s = 0)
    (hs : Own w B (.slice S n c) s) (hd : Own8 w B (.slice (some ⟨g, 0, none⟩) N N) (List.replicate N 0)) (hi : I 0 w) :
    Calls Try.prog 37 #[.agg #[.slice S n c, .slice (some ⟨g, 0, none⟩) N N], .func (.func K) fst #[]] w fun e w' => e = .returned (.bool true) ∧ Own8 w' B (.slice (some ⟨g, 0, none⟩) N N) ((List.range N).map F) ∧ I N w' ∧ Over B (some g) w w' := by
  have hmf : ∀ (fn : Fn) (first cap : Array Value) (w : World), (Instr.makeFunc fn first cap).run Try.prog w = .ok (.func fn first cap) w := fun _ _ _ _ => rfl
  obtain ⟨W, hW⟩ : ∃ W, W = (w.alloc (.cells #[.slice S n c, .slice (some ⟨g, 0, none⟩) N N] 25)).alloc (.cells #[.bool false] 4) := ⟨_, rfl⟩
  have hsz : W.heap.size = w.heap.size + 2 := by rw [hW]; simp
  have hbW : Below w.heap.size w W := by rw [hW]; exact ((Below.refl _ w).alloc (Nat.le_refl _) _).alloc (by simp) _
  have hg : g < w.heap.size := by
    have := hd.block.1
    exact (Array.getElem?_eq_some_iff.1 this).1
  have KC : ∀ V, Over B (some g) W V → V.cell? ⟨w.heap.size, 0, none⟩ = some (.slice S n c) ∧ V.cell? ⟨w.heap.size, 1, none⟩ = some (.slice (some ⟨g, 0, none⟩) N N) ∧ V.cell? ⟨w.heap.size + 1, 0, none⟩ = some (.bool false) ∧ V.frozen? ⟨w.heap.size + 1, 0, none⟩ = false := by
    intro V h
    have e1 : some w.heap.size ≠ some g := by simp; omega
    have e2 : some (w.heap.size + 1) ≠ some g := by simp; omega
    exact ⟨(h.cell hB (by omega) e1).trans (by rw [hW]; simp), (h.cell hB (by omega) e1).trans (by rw [hW]; simp), (h.cell (by omega) (by omega) e2).trans (by rw [hW]; simp), (h.frozen (by omega) (by omega) e2).trans (by rw [hW]; simp)⟩
  have hlen : ∀ k : Nat, k < N → (idxN s k).length = n ∧ inB s k = true := by
    intro k hk
    have hi : inB s k = true := decide_eq_true ⟨by omega, by omega⟩
    refine ⟨?_, hi⟩
    unfold idxN
    rw [if_pos hi, idx_len, hs.rd.1]
  have PI := fun (V : World) (k : Nat) (hk : k < N) (h : Rd V S n s) => (hlen k hk).2 ▸ index_any S n c s k V (by unfold maxLen; omega) h h0
  have hN40 : N ≤ 65536 := by have := cel_range s; omega
  have HW := Lib.hid hW
  have HSZ := Lib.hid hsz
  have HKC := Lib.hid KC
  have HPI := Lib.hid PI
  have HLEN := Lib.hid hlen
  have HBK := Lib.hid hb
  have HB := Lib.hid hB
  have HG := Lib.hid hg
  have HS0 := Lib.hid (hs.below hbW)
  have HD0 := Lib.hid (hd.below hbW)
  have HI0 := Lib.hid (hb.keeps 0 w W hi (hbW.mono hB))
  have HBW := Lib.hid hbW
  clear hW hsz KC PI hlen hb hB hg hs hd hi hbW hN h0
  go_enter_defers Try.func37, Try.ntmps37
  go_wp2_with fail
  rw [← HW.out]
  go_loopw [12] (fun i wr => ∃ k : Nat, k ≤ N ∧ i = .int .i64 k ∧ Hid (Own wr B (.slice S n c) s) ∧ Hid (Own8 wr B (.slice (some ⟨g, 0, none⟩) N N) ((List.range k).map F ++ List.replicate (N - k) 0)) ∧ Hid (I k wr) ∧ Hid (Over B (some g) W wr)) (fun i _ => N - (intOf i).toNat)
  case atStart => exact ⟨0, Nat.zero_le _, rfl, HS0, Lib.hid (by simpa using HD0.out), HI0, Lib.hid (Over.refl _ _ _)⟩
  case round =>
    obtain ⟨k, hk, rfl, HS, HD, HI, HO⟩ := hrel
    obtain ⟨k1, k2, k3, k4⟩ := HKC.out _ HO.out
    by_cases hlt : k < N
    · have P := Lib.hid (HPI.out wr k hlt HS.out.rd)
      clear k2 k3 k4
      go_wp2_with fail
      refine P.out.mono ?_
      intro e w1 hm
      obtain ⟨A2, c2, rfl, ho, hb, _, _, _⟩ := hm.out
      have HL := Lib.hid (HLEN.out k hlt).1
      have hr := ho.rd
      rw [HL.out] at hr
      simp only [HL.out]
      have hBW : B ≤ wr.heap.size := by have := HO.out.size; have := HSZ.out; have := HB.out; omega
      have hO1 : Over B (some g) W w1 := HO.out.trans (Over.of_below hb)
      have HO1 := Lib.hid hO1
      have HS1 := Lib.hid (HS.out.below hb)
      have HD1 := Lib.hid (HD.out.below hb)
      have hdr : Below w1.heap.size w1 w1.drew := Below.drew (Below.refl _ _)
      have hB1 : B ≤ w1.heap.size := Nat.le_trans hBW hb.size
      have HI1 := Lib.hid (HBK.out.keeps k _ _ (HBK.out.keeps k _ _ HI.out (hb.mono hBW)) (hdr.mono hB1))
      have HC := Lib.hid (HBK.out.call k A2 c2 w1.drew hlt HI1.out (hr.below hdr))
      obtain ⟨k1, k2, k3, k4⟩ := HKC.out _ HO1.out
      have HLT := Lib.hid (show w.heap.size < w1.heap.size by have := HO1.out.size; have := HSZ.out; omega)
      have eg := HBK.out.enter
      have hkN : (k : Int) < (N : Int) := by omega
      clear hm ho hb hr hO1 hdr hBW hB1
      go_wp2_with fail
      have HD2 := Lib.hid (HD1.out.below (Below.drew (Below.refl _ _)))
      have HS2 := Lib.hid (HS1.out.below (Below.drew (Below.refl _ _)))
      go_region_held3 (fun w' => w'.cell? ⟨w.heap.size, 1, none⟩ = some (.slice (some ⟨g, 0, none⟩) N N)) (go_keep)
        ((refine HC.out.mono ?_; rintro e w2 ⟨rfl, hI2, ho2⟩; have HI2 := Lib.hid hI2; have HO2 := Lib.hid ho2
          have HD3 := Lib.hid (HD2.out.over ho2 (Nat.le_refl _)); have HS3 := Lib.hid (OwnT.over (Own.t HS2.out) ho2 (Nat.le_refl _))
          obtain ⟨m1, m2, m3, m4⟩ := HKC.out _ (HO1.out.trans ((Over.of_below (Below.drew (Below.refl _ w1))).trans (ho2.row (some g))))
          have hcg := HD3.out.cellAt (row_at F hlt)
          have hfg := HD3.out.frozenAt k
          have hgn := Nat.ne_of_lt HG.out; have hgm := (Nat.ne_of_lt HG.out).symm
          clear hI2 ho2))
      have HD4 := Lib.hid (show Own8 (w2.setCell ⟨g, k, none⟩ (.int .i64 (F k))) B (.slice (some ⟨g, 0, none⟩) N N) ((List.range (k + 1)).map F ++ List.replicate (N - (k + 1)) 0) by
        have := HD3.out.set_ k (F k)
        rwa [row_set F hlt] at this)
      have HS4 := Lib.hid (show Own (w2.setCell ⟨g, k, none⟩ (.int .i64 (F k))) B (.slice S n c) s from own_aside (OwnT.own HS3.out) HD3.out k _)
      have HI4 := Lib.hid (HBK.out.keeps (k + 1) _ (w2.setCell ⟨g, k, none⟩ (.int .i64 (F k))) HI2.out ((Below.refl _ _).setCell HD3.out.block.2 _))
      have HO4 := Lib.hid ((HO1.out.trans ((Over.of_below (Below.drew (Below.refl _ w1))).trans (HO2.out.row (some g)))).setCell k (.int .i64 (F k)))
      clear k1 k2 k3 k4 m1 m2 m3 m4 hcg hfg hgn hgm
      go_wp2_with fail
      go_roundw
      case rel => exact ⟨k + 1, by omega, by go_num, HS4, HD4, HI4, HO4⟩
      case measure => first | (simp [intOf]; done) | (simp [intOf]; omega)
    · obtain rfl : k = N := by omega
      have HD1 := Lib.hid (show Own8 wr B (.slice (some ⟨g, 0, none⟩) k k) ((List.range k).map F) by have := HD.out; simpa using this)
      have HWR := Lib.hid HO.out.size
      go_wp2_with fail
      refine leaves_cons (f := 44) (args := #[.pointer (some ⟨w.heap.size + 1, 0, none⟩)]) (by simp) (by simp [go_sem]) ?_
      refine (catch_idle ⟨w.heap.size + 1, 0, none⟩ (.bool true) _ ?_ ?_).mono ?_
      · simp [go_sem, k3]
      · simp [go_sem, k4]
      rintro e u' w'' ⟨rfl, rfl, rfl⟩
      obtain ⟨V, hV⟩ : ∃ V, V = (wr.setCell ⟨w.heap.size + 1, 0, none⟩ (.bool true)).setCell ⟨w.heap.size + 1, 0, none⟩ (.bool true) := ⟨_, rfl⟩
      have hcv : V.cell? ⟨w.heap.size + 1, 0, none⟩ = some (.bool true) := by rw [hV]; simp [go_sem, k3]
      have hlt1 := HG.out
      have hle := HB.out
      have hd2 : Own8 V B (.slice (some ⟨g, 0, none⟩) k k) ((List.range k).map F) := by
        rw [hV]
        exact (HD1.out.aside (p := ⟨w.heap.size + 1, 0, none⟩) (show w.heap.size + 1 ≠ g by omega) _).aside (p := ⟨w.heap.size + 1, 0, none⟩) (show w.heap.size + 1 ≠ g by omega) _
      have hb2 : Below B wr V := by
        rw [hV]
        exact ((Below.refl B wr).setCell (p := ⟨w.heap.size + 1, 0, none⟩) (show B ≤ w.heap.size + 1 by omega) _).setCell (p := ⟨w.heap.size + 1, 0, none⟩) (show B ≤ w.heap.size + 1 by omega) _
      have hb3 : Below w.heap.size wr V := by
        rw [hV]
        exact ((Below.refl _ wr).setCell (p := ⟨w.heap.size + 1, 0, none⟩) (Nat.le_succ _) _).setCell (p := ⟨w.heap.size + 1, 0, none⟩) (Nat.le_succ _) _
      have hi2 := HBK.out.keeps k _ V HI.out hb2
      have ho2 : Over B (some g) w V := by
        have h1 := (Over.of_below (B := B) (row := some g) HBW.out).trans HO.out
        exact ⟨hb3.os.trans h1.os, hb3.tape.trans h1.tape, hb3.output.trans h1.output, Nat.le_trans h1.size hb3.size, fun i hi hlt hn => (hb3.block i hlt).trans (h1.block i hi hlt hn)⟩
      rw [← hV]
      simp [Leaves, settle, results, Try.results37, go_sem, hcv]
      exact ⟨hd2, hi2, ho2⟩
theorem OwnT.kept {t : TypeId} {B B' g n c : Nat} {row : Option Nat} {V V' : World} {xs : List Int} (h : OwnT t V B (.slice (some ⟨g, 0, none⟩) n c) xs) (ho : Over B' row V V') (hB : B' ≤ B) (hne : some g ≠ row) : OwnT t V' B (.slice (some ⟨g, 0, none⟩) n c) xs := by
  refine ⟨h.1, ?_⟩
  rcases h.2 with ⟨h2, _⟩ | ⟨g', cap, cur, hv, hg, hh, r⟩
  · cases h2
  · have e : g = g' := by injection hv with e1; injection e1 with e1; injection e1
    subst e
    exact .inr ⟨g, cap, cur, hv, hg, by rw [ho.block g (by omega) (Array.getElem?_eq_some_iff.1 hh).1 hne]; exact hh, r⟩
theorem tab_wrong (fv : Value) (A : Option Addr) (n c : Nat) (s : List Int) (w : World) (hn : n ≤ maxLen) (h : Rd w A n s) (he : ¬ chkE s = 0) :
    Calls Try.prog 20 #[.slice A n c, fv] w (Fails w (chkE s)) := by
  have P1 := fun W h => Lib.hid (check_any A n c s W hn h)
  have hne : (chkE s == 0) = false := by simpa using he
  have hb := one_below w #[.slice none 0 0, .slice none 0 0] 25
  have HX := Lib.hid (h.below hb)
  have HB := Lib.hid hb
  clear h he hb
  generalize chkE s = E at *
  go_enter Try.func20, Try.ntmps20
  go_wp2_with fail
  refine (P1 _ HX.out).out.mono ?_
  rintro e w1 ⟨rfl, rfl⟩
  go_wp2_with fail
  refine bodyPost_ret (v := .tuple #[.agg #[.slice none 0 0, .slice none 0 0], .int .i64 E]) (by simp [results, Try.results20, go_sem]) rfl ⟨rfl, by first | exact HB.out | exact two_below HB.out (Nat.le_refl _)⟩
set_option maxHeartbeats 1000000 in
theorem tab_right (K : Nat) (fst : Array Value) (A : Option Addr) (n c N : Nat) (s : List Int) (F : Nat → Int) (I : Nat → World → Prop) (w : World) (hb : Back K fst w.heap.size n N s F I) (hN : (N : Int) = celN s) (h0 : chkE s = 0) (h : Rd w A n s) (hi : I 0 w) :
    Calls Try.prog 20 #[.slice A n c, .func (.func K) fst #[]] w fun e w' => ∃ gs gd, e = .returned (.tuple #[.agg #[.slice (some ⟨gs, 0, none⟩) n n, .slice (some ⟨gd, 0, none⟩) N N], .int .i64 0]) ∧
      OwnT 3 w' w.heap.size (.slice (some ⟨gs, 0, none⟩) n n) s ∧ Own8 w' w.heap.size (.slice (some ⟨gd, 0, none⟩) N N) ((List.range N).map F) ∧ I N w' ∧ w.heap.size ≤ w'.heap.size := by
  have hl16 : n ≤ 16 := by have := (chk_len h0).1; rw [h.1] at this; exact this
  have hN40 : N ≤ 65536 := by have := cel_range s; omega
  have P1 := fun W h => check_any A n c s W (by unfold maxLen; omega) h
  rw [h0] at P1
  have P1 := fun W h => Lib.hid (P1 W h)
  have P2 := fun W h => Lib.hid (dup_any A n c s W (by omega) h)
  have P3 := fun W h => cells_any A n c s W (by unfold maxLen; omega) h
  rw [← hN] at P3
  have P3 := fun W h => Lib.hid (P3 W h)
  have P4 := fun S c' g V h1 h2 h3 h4 => Lib.hid (fill_any K fst S n c' g N w.heap.size s F I V hb h1 hl16 hN h0 h2 h3 h4)
  have hbw := one_below w #[.slice none 0 0, .slice none 0 0] 25
  obtain ⟨W, hW⟩ : ∃ W, W = w.alloc (.cells #[.slice none 0 0, .slice none 0 0] 25) := ⟨_, rfl⟩
  rw [← hW] at hbw
  have HW := Lib.hid hW
  have HSZ := Lib.hid (show W.heap.size = w.heap.size + 1 by rw [hW]; simp)
  have HK := Lib.hid (show W.cell? ⟨w.heap.size, 0, none⟩ = some (.slice none 0 0) ∧ W.cell? ⟨w.heap.size, 1, none⟩ = some (.slice none 0 0) ∧ W.frozen? ⟨w.heap.size, 0, none⟩ = false ∧ W.frozen? ⟨w.heap.size, 1, none⟩ = false by rw [hW]; simp)
  have HX := Lib.hid (h.below hbw)
  have HBW := Lib.hid hbw
  have HI := Lib.hid (hb.keeps 0 w W hi hbw)
  have HBK := Lib.hid hb
  rename_i q1 q2; clear q1 q2 h hbw hW hi hb hN h0
  go_enter Try.func20, Try.ntmps20
  go_wp2_with fail
  rw [← HW.out]
  refine (P1 _ HX.out).out.mono ?_
  rintro e w1 ⟨rfl, rfl⟩
  go_wp2_with fail
  refine (P2 _ HX.out).out.mono ?_
  rintro e w1 ⟨gs, rfl, hos, hb1⟩
  have HX1 := Lib.hid (HX.out.below hb1)
  have HOS := Lib.hid hos
  have HB1 := Lib.hid hb1
  clear hos hb1
  go_wp2_with fail
  refine (P3 _ HX1.out).out.mono ?_
  rintro e w2 ⟨rfl, rfl⟩
  go_wp2_with (at_make; refine wpList_zeros8 rfl _ _ rfl N rfl rfl (by omega) ?_; intro w3 ho3 hb3)
  obtain ⟨gd, hgd⟩ : ∃ gd, gd = w1.heap.size := ⟨_, rfl⟩
  rw [← hgd] at ho3 ⊢
  obtain ⟨V, hV⟩ : ∃ V, V = w3.alloc (.cells #[.slice (some ⟨gs, 0, none⟩) n n, .slice (some ⟨gd, 0, none⟩) N N] 25) := ⟨_, rfl⟩
  have hb4 : Below w3.heap.size w3 V := by rw [hV]; exact one_below w3 _ _
  have s1 := HSZ.out
  have s2 := HB1.out.size
  have s3 := hb3.size
  have s4 : V.heap.size = w3.heap.size + 1 := by rw [hV]; simp
  have s5 : gd < w3.heap.size := (Array.getElem?_eq_some_iff.1 ho3.block.1).1
  have hsV : OwnT 3 V W.heap.size (.slice (some ⟨gs, 0, none⟩) n n) s := (HOS.out.below hb3).below hb4
  have hdV : Own8 V gd (.slice (some ⟨gd, 0, none⟩) N N) (List.replicate N 0) := ho3.below hb4
  have hbV : Below W.heap.size W V := (HB1.out.trans (hb3.mono s2)).trans (hb4.mono (by omega))
  have hap : gs ≠ gd := own_apart hsV hdV (by decide)
  have c1 : V.cell? ⟨w3.heap.size, 0, none⟩ = some (.slice (some ⟨gs, 0, none⟩) n n) := by rw [hV]; simp
  have c2 : V.cell? ⟨w3.heap.size, 1, none⟩ = some (.slice (some ⟨gd, 0, none⟩) N N) := by rw [hV]; simp
  have P5 := P4 (some ⟨gs, 0, none⟩) n gd V (by omega) (OwnT.own (hsV.le (by omega))) (hdV.le (by omega)) (HBK.out.keeps 0 W V HI.out (hbV.mono (by omega)))
  have HV := Lib.hid hV
  have HBV := Lib.hid hbV
  have HSV := Lib.hid hsV
  have HC := Lib.hid (And.intro c1 c2)
  have HAP := Lib.hid hap
  have HS := Lib.hid (And.intro s1 (And.intro s2 (And.intro s3 (And.intro s4 (And.intro s5 hgd)))))
  rw [← hV]
  clear hV hb4 s1 s2 s3 s4 s5 hsV hdV hbV c1 c2 hap hgd ho3 hb3 P4 P3 P2 P1
  refine P5.out.mono ?_
  rintro e w4 ⟨rfl, hd4, hi4, ho4⟩
  obtain ⟨s1, s2, s3, s4, s5, hgd⟩ := HS.out
  have k1 : w4.cell? ⟨w3.heap.size, 0, none⟩ = some (.slice (some ⟨gs, 0, none⟩) n n) := (ho4.cell (by omega) (by omega) (by simp; omega)).trans HC.out.1
  have k2 : w4.cell? ⟨w3.heap.size, 1, none⟩ = some (.slice (some ⟨gd, 0, none⟩) N N) := (ho4.cell (by omega) (by omega) (by simp; omega)).trans HC.out.2
  have l0 : w.heap.size < W.heap.size := by omega
  have k3 : w4.cell? ⟨w.heap.size, 0, none⟩ = some (.slice none 0 0) := ((ho4.cell (Nat.le_refl _) (by omega) (by simp; omega)).trans (HBV.out.cell (p := ⟨w.heap.size, 0, none⟩) l0)).trans HK.out.1
  have k4 : w4.cell? ⟨w.heap.size, 1, none⟩ = some (.slice none 0 0) := ((ho4.cell (Nat.le_refl _) (by omega) (by simp; omega)).trans (HBV.out.cell (p := ⟨w.heap.size, 1, none⟩) l0)).trans HK.out.2.1
  have k5 : w4.frozen? ⟨w.heap.size, 0, none⟩ = false := ((ho4.frozen (Nat.le_refl _) (by omega) (by simp; omega)).trans (HBV.out.frozen (p := ⟨w.heap.size, 0, none⟩) l0)).trans HK.out.2.2.1
  have k6 : w4.frozen? ⟨w.heap.size, 1, none⟩ = false := ((ho4.frozen (Nat.le_refl _) (by omega) (by simp; omega)).trans (HBV.out.frozen (p := ⟨w.heap.size, 1, none⟩) l0)).trans HK.out.2.2.2
  have HS4 := Lib.hid (HSV.out.kept ho4 (by omega) (show some gs ≠ some gd by simpa using HAP.out))
  have HD4 := Lib.hid hd4
  have HI4 := Lib.hid hi4
  have HSZ4 := Lib.hid (show w.heap.size ≤ w4.heap.size by have := ho4.size; omega)
  have HNE := Lib.hid (show w.heap.size ≠ gd by omega)
  clear hd4 hi4 ho4 s1 s2 s3 s4 s5 l0 hgd
  go_wp2_with fail
  refine bodyPost_ret (v := .tuple #[.agg #[.slice (some ⟨gs, 0, none⟩) n n, .slice (some ⟨gd, 0, none⟩) N N], .int .i64 0]) (by simp [results, Try.results20, go_sem, k3, k4]) rfl ⟨gs, gd, rfl, ?_, ?_, ?_, ?_⟩
  · exact (HS4.out.two (by have := HSZ.out; omega)).le (by have := HSZ.out; omega)
  · exact (HD4.out.aside (p := ⟨w.heap.size, 0, none⟩) HNE.out _).aside (p := ⟨w.heap.size, 1, none⟩) HNE.out _
  · exact HBK.out.keeps N _ _ HI4.out (two_below (Below.refl _ _) (Nat.le_refl _))
  · simpa [World.setCell] using HSZ4.out
end Go.Proofs.Ytbadbjcommdjgaa.arr
