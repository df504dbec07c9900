/- The law's collect: all indices that the iterator yields, in order. -/
import Derived.Test.YtcdjmcjoknibkaaOdoIter
import Derived.Test.YtcdjmcjoknibkaaRound
import Derived.Test.YtcdjmcjoknibkaaAft
namespace Go.Proofs.Ytcdjmcjoknibkaa.odo
open Go.ChangeShapes Go.WideShapes Go.ChangeAt Go.RowKit Go.Shelf Go.Proofs.Ytcdjmcjoknibkaa.mem Go.Proofs.Ytcdjmcjoknibkaa.prod Go.Proofs.Ytcdjmcjoknibkaa.shp Go.Proofs.Ytcdjmcjoknibkaa.strd Go.Proofs.Ytcdjmcjoknibkaa.gam Go.Proofs.Ytcdjmcjoknibkaa.sml Go.Proofs.Ytcdjmcjoknibkaa.all Go.Proofs.Ytcdjmcjoknibkaa.iter
set_option linter.unusedVariables false
attribute [local go_sem] Oper.semAt_some

theorem func_eql (f : Fn) (ts lb : Array Value) (w : World) : (binOp .eql 30 (.func f ts lb) .nilFunc).run Try.prog w = .ok (.bool false) w := by
  first
    | kernel_rfl
    | (simp only [binOp]; simp [Op.equal, Op.maxDepth, Op.equalIn, run_underlying Try.underlying30])
theorem func_neq (f : Fn) (ts lb : Array Value) (w : World) : (binOp .neq 30 (.func f ts lb) .nilFunc).run Try.prog w = .ok (.bool true) w := by
  first
    | kernel_rfl
    | (simp only [binOp]; simp [Op.equal, Op.maxDepth, Op.equalIn, run_underlying Try.underlying30])
set_option maxHeartbeats 4000000 in
theorem collect_any (A B : Option Addr) (N c d : Nat) (lo hi : List Int) (w : World) (hN : N ≤ 65536) (ha : Rd w A N lo) (hb : Rd w B N hi) (hA : A = none → c = 0) (hB : B = none → d = 0)
    (hla : ∀ x ∈ lo, -4294967296 ≤ x ∧ x ≤ 4294967296) (hlb : ∀ x ∈ hi, -4294967296 ≤ x ∧ x ≤ 4294967296) (hL : (rngs lo hi).length ≤ 1048576) :
    Calls Try.prog 11 #[.slice A N c, .slice B N d] w (MakesM w (rngs lo hi)) := by
  have hN1 : lo.length = N := ha.1
  have hN2 : hi.length = N := hb.1
  have PB := fun W (h : Aft w W) => Lib.hid (between_any A B N N c d lo hi W (by omega) (by omega) (h.rd ha) (h.rd hb) hA hB)
  have HLA := Lib.hid hla; have HLB := Lib.hid hlb; have HL := Lib.hid hL; have HN1 := Lib.hid hN1; have HN2 := Lib.hid hN2
  clear hla hlb hL hN1 hN2 ha hb hA hB
  refine (callsIn_wide (n := 3)).1 ?_
  refine callsIn_of_wp_marks Try.func11 rfl trivial ?_ rfl
  simp only [Try.ntmps11, List.size_toArray, List.length_cons, List.length_nil, Nat.reduceAdd, Nat.reduceSub, Array.replicate_succ, Array.replicate_zero, List.push_toArray, List.append_toArray, List.nil_append, List.cons_append]
  refine wpIn_wide.2 ?_
  go_wp2_with fail
  have hBox := Boxed.new w 25 (.slice none 0 0)
  refine (PB _ ((Aft.refl w).alloc _)).out.mono ?_
  rintro e w1 ⟨v1, v2, rfl, hc1, hc2, ho1, ho2, hb⟩
  have hs1 : w.heap.size + 3 ≤ w1.heap.size := by have := World.block_lt_of_cell? _ _ hc2; simp at this; omega
  have hseq := between_seq (3 - 1) (w.heap.size + 1) N v1 v2 lo hi w1 (by omega) (by simpa using hc1) (by simpa using hc2) (by simpa using ho1) (by simpa using ho2) HN1.out HN2.out hN HLA.out HLB.out
  have HSEQ := Lib.hid hseq
  have HBox := Lib.hid (show Boxed w1 w.heap.size 25 (.slice none 0 0) from (hb.block w.heap.size (by simp)).trans hBox)
  have HB := Lib.hid (show Below w.heap.size w w1 from ((Below.refl _ w).alloc (Nat.le_refl _) _).trans (hb.mono (by simp)))
  have HS1 := Lib.hid hs1
  clear hBox hc1 hc2 ho1 ho2 hb hseq hs1
  have hfe := func_eql
  go_wp2_with fail
  clear hfe
  refine (wpIn_wide (n := 3)).1 ?_
  refine wpIn_iterate rfl (fun h => by cases h) (gf := 24) rfl trivial (Hand := mem.Own) (enters_of Try.func24 (by kernel_rfl) rfl) (fun _ _ _ _ _ _ h1 h2 h3 => own_put h1 h2 h3) HSEQ.out (Below.refl _ _) (Nat.le_refl _) rfl
    (fun r pre W => (∃ v, Boxed W w.heap.size 25 v ∧ iter.Rows W w1.heap.size r v pre) ∧ (∀ k, r = some k → w1.heap.size ≤ k) ∧ Below w.heap.size w W)
    (fun _ _ _ _ => False) ?hI (fun _ _ _ _ _ _ h _ _ => h) ?h0 ?round ?done ?stop
  case hI =>
    rintro r s A C row ⟨⟨v, h1, h2⟩, h3, h4⟩ hg hm
    exact ⟨⟨v, mild_boxed h1 hg hm (fun e => by have := h3 _ e; have := HS1.out; omega), h2.bides hg hm⟩, h3, mild_below h4 hg hm (by have := HS1.out; omega) (Nat.le_refl _)⟩
  case h0 =>
    intro r hr
    exact ⟨⟨_, HBox.out, rows_nil _ _ _⟩, hr, HB.out⟩
  case round =>
    rintro l r pre x v A C W hBl hlA hlo hr ⟨⟨vb, hbA, hrowsA⟩, hrB, hbelA⟩ ⟨_, _, hbelW⟩ hpre hAW hh
    have hsA : w1.heap.size ≤ A.heap.size := by omega
    have hmild := mild_rec (B := 0) r hlo (Nat.zero_le _)
    have hbW := mild_boxed hbA hAW hmild (fun e => by have := hrB _ e; have := HS1.out; omega)
    have hrowsW := hrowsA.bides hAW hmild
    have hlen : pre.length < 1099511627776 := by
      have h1 := List.IsPrefix.length_le hpre
      have h2 := HL.out
      rw [List.length_append] at h1
      omega
    obtain ⟨P, m, rfl, _, _, _⟩ := hh.form
    have HH := Lib.hid hh; have HR := Lib.hid hrowsA; have HAW := Lib.hid hAW; have HLO := Lib.hid hlo; have HRA := Lib.hid (fun k e => (hr k e).2)
    have HBW := Lib.hid hbW; have HRW := Lib.hid hrowsW; have HLN := Lib.hid hlen; have HRB := Lib.hid hrB; have HBE := Lib.hid hbelW; have HSA := Lib.hid hsA
    have hc := hbW.cell
    clear hh hrowsA hAW hlo hr hbW hrowsW hlen hrB hbelW hsA hmild hbA hbelA hpre
    gi_wp2_with fail
    refine ⟨trivial, ?_⟩
    gi_wp2_with (gi_at_builtin; refine wpListIn_pushR rfl (.tmp 15) (.tmp 17) rfl rfl HR.out HAW.out HLO.out HH.out HSA.out HRA.out _ rfl HLN.out ?_; intro v' w2 hrows2 hgrow; obtain ⟨P2, m2, rfl, _, _, _⟩ := hrows2.ownL.form; have HR2 := Lib.hid hrows2; have HG2 := Lib.hid hgrow; have hb2 := (HBW.out.alloc _).kept HG2.out (fun e => by have := (HRW.out.lt _ e.symm).1; have := HS1.out; omega); have HB2 := Lib.hid hb2; have hc2 := hb2.cell; have hf2 := hb2.frozen; clear hc hrows2 hgrow hb2)
    have hch : Chg (fun k => k = w.heap.size ∨ vb.ownBlock = some k) W (w2.setCell ⟨w.heap.size, 0, none⟩ (.slice P2 (pre.length + 1) m2)) :=
      (((Chg.refl _ W).alloc _).grown HG2.out (fun k e => .inr e)).set _ (.inl rfl)
    have hlt := HRW.out.lt
    have hwle := HBE.out.size
    have hs1 := HS1.out
    refine ⟨hch.keeps ?_, hch.spares (Nat.le_trans HSA.out HAW.out.size) (fun k e => Nat.lt_of_lt_of_le (HRA.out k e) HAW.out.size) ?_, ⟨_, HB2.out.set _, ?_⟩, HRB.out, HBE.out.trans (hch.below hwle ?_)⟩
    · rintro k (rfl | e)
      · exact .inl (by omega)
      · exact .inr (HRW.out.cells k e)
    · rintro k (rfl | e)
      · exact ⟨by omega, fun e => by have := HRB.out _ e; omega⟩
      · exact ⟨by have := (hlt k e).1; omega, HRW.out.apart k e⟩
    · have := HR2.out.set_below (p := ⟨w.heap.size, 0, none⟩) (u := .slice P2 (pre.length + 1) m2) (by show w.heap.size < _; omega)
      simpa using this
    · rintro k (rfl | e)
      · exact Nat.le_refl _
      · have := (hlt k e).1; omega
  case done =>
    rintro D r W hD ⟨⟨v, hbx, hrows⟩, hrB, hbel⟩ hK
    have hc := hbx.cell
    have HK := Lib.hid hK; have HR := Lib.hid hrows; have HBL := Lib.hid hbel
    clear hK hrows hbel hrB hbx
    go_wp2_with fail
    have hR := HR.out.bides (grownBy_putObj' W D (.deferred none)) (mild_rec r ⟨_, HK.out, rfl⟩ (Nat.zero_le _))
    obtain ⟨P, m, rfl, h1, h2, h3⟩ := hR.ownL.form
    refine ⟨by simp, .inl ⟨_, _, rfl, run_takeDeferred HK.out, ?_⟩⟩
    exact ⟨_, results_tmp rfl _ _ _, P, m, rfl, hR.ownL.rdM, h1, h2, h3, HBL.out.grown (grownBy_putObj' W D (.deferred none)) HBL.out.size (fun k e => by cases e; have := HS1.out; omega)⟩
  case stop =>
    rintro D c r pre W _ _ h _
    exact h.elim
end Go.Proofs.Ytcdjmcjoknibkaa.odo
