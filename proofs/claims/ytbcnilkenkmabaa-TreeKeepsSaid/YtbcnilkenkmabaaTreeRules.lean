/- Package tree: the rules of monads and dyads; each rule says what the reference says of a node. -/
import Derived.Test.YtbcnilkenkmabaaTreeMaps
namespace Go.Proofs.Ytbcnilkenkmabaa.tr
open Go.ChangeShapes Go.WideShapes Go.ChangeAt Go.RowKit Go.Proofs.Ytbcnilkenkmabaa.mem Go.Proofs.Ytbcnilkenkmabaa.sq
set_option linter.unusedVariables false

def kn3 (f : Int) : Bool := decide (f = 3 ∨ f = 4 ∨ f = 6)
def pe3 (f : Int) : Bool := decide (f = 3)
def kn4 (f : Int) : Bool := decide (1 ≤ f ∧ f ≤ 6)
def pe4 (f : Int) : Bool := decide (f = 3 ∨ f = 6)
theorem zero_bool (w : World) : (zeroValue 4).run Try.prog w = .ok (.bool false) w := by kernel_rfl
theorem ask3 {w : World} {m : Nat} (h : w.heap[m]? = some (.map #[ent 3 (.bool true) 0, ent 4 (.bool false) 1, ent 6 (.bool false) 2] 3)) (f : Int) :
    (Instr.lookup 53 (.map (some m)) (.int .i64 f) true).run Try.prog w = .ok (.tuple #[.bool (pe3 f), .bool (kn3 f)]) w := by
  rw [run_lookup_int Try.underlying53 Try.underlying3 h (by simp [ent]) (zero_bool w) f]
  by_cases h3 : f = 3
  · subst h3; rfl
  by_cases h4 : f = 4
  · subst h4; rfl
  by_cases h6 : f = 6
  · subst h6; rfl
  simp [entryAt, ent, h3, h4, h6, pe3, kn3]
theorem ask4 {w : World} {m : Nat} (h : w.heap[m]? = some (.map #[ent 1 (.bool false) 0, ent 2 (.bool false) 1, ent 3 (.bool true) 2, ent 4 (.bool false) 3, ent 5 (.bool false) 4, ent 6 (.bool true) 5] 6)) (f : Int) :
    (Instr.lookup 53 (.map (some m)) (.int .i64 f) true).run Try.prog w = .ok (.tuple #[.bool (pe4 f), .bool (kn4 f)]) w := by
  rw [run_lookup_int Try.underlying53 Try.underlying3 h (by simp [ent]) (zero_bool w) f]
  by_cases h1 : f = 1
  · subst h1; rfl
  by_cases h2 : f = 2
  · subst h2; rfl
  by_cases h3 : f = 3
  · subst h3; rfl
  by_cases h4 : f = 4
  · subst h4; rfl
  by_cases h5 : f = 5
  · subst h5; rfl
  by_cases h6 : f = 6
  · subst h6; rfl
  have : kn4 f = false := by unfold kn4; simp; omega
  simp [entryAt, ent, h1, h2, h3, h4, h5, h6, pe4, this]

theorem zero_func (w : World) : (zeroValue 28).run Try.prog w = .ok .nilFunc w := by kernel_rfl
/-- The rule of a kind. -/
def ruleV (b1 b2 : Nat) (k : Int) : Value := if k = 1 then .func (.func 39) #[] #[] else if k = 2 then .func (.func 41) #[] #[] else if k = 3 then .func (.func 43) #[] #[.pointer (some ⟨b1, 0, none⟩)] else if k = 4 then .func (.func 45) #[] #[.pointer (some ⟨b2, 0, none⟩)] else .nilFunc
theorem ask_rule {w : World} {B b b1 b2 m1 m2 : Nat} (h : Rules w B b b1 b2 m1 m2) (k : Int) :
    (Instr.lookup 44 (.map (some b)) (.int .i64 k) true).run Try.prog w = .ok (.tuple #[ruleV b1 b2 k, .bool (decide (1 ≤ k ∧ k ≤ 4))]) w := by
  rw [run_lookup_int Try.underlying44 Try.underlying3 h.rules (by simp [ent]) (zero_func w) k]
  by_cases h1 : k = 1
  · subst h1; rfl
  by_cases h2 : k = 2
  · subst h2; rfl
  by_cases h3 : k = 3
  · subst h3; rfl
  by_cases h4 : k = 4
  · subst h4; rfl
  have : decide (1 ≤ k ∧ k ≤ 4) = false := by simp; omega
  simp [entryAt, ent, h1, h2, h3, h4, ruleV, this]
set_option maxHeartbeats 1000000 in
theorem kind3_any (k f a : Int) (s : ByteArray) (A B : Option Addr) (n c m d : Nat) (w : World) (B0 b b1 b2 m1 m2 : Nat) (hR : Rules w B0 b b1 b2 m1 m2) (hm : m ≤ 17592186044416) (hn : n ≤ 17592186044416) (E : Bool) (HE : Hid ((s.toList == []) = E)) :
    Calls Try.prog 43 #[.agg #[.int .i64 k, .int .i64 f, .int .i64 a, .string s, .slice A n c, .slice B m d], .pointer (some ⟨b1, 0, none⟩)] w (Say w (appB (kn3 f) (pe3 f) a m 1 E n)) := by
  obtain ⟨W, hW⟩ : ∃ W, W = w.alloc (.cells #[.int .i64 k, .int .i64 f, .int .i64 a, .string s, .slice A n c, .slice B m d] 25) := ⟨_, rfl⟩
  obtain ⟨hb, -, KC⟩ := one_box6 hW
  obtain ⟨k0, k1, k2, k3, k4, k5⟩ := KC W (Below.refl _ _)
  have hRW := hR.as (fun q _ hq => hb.block q hq)
  have hc := hRW.box1.cell
  have PA := Lib.hid (application_any k f a s A B n c m d 1 W m1 (pe3 f) (kn3 f) hm hn E HE (fun V hV => ask3 ((hV.block _ (Array.getElem?_eq_some_iff.1 hRW.map1).1).trans hRW.map1) f) (by omega))
  have HB := Lib.hid hb; have HW := Lib.hid hW
  clear hb KC hW hR hRW
  generalize appB (kn3 f) (pe3 f) a m 1 E n = r at *
  go_enter Try.func43, Try.ntmps43
  go_upto_region 1 with fail
  rw [← HW.out]
  go_wp2_with fail
  refine PA.out.mono ?_
  rintro e w1 ⟨rfl, hb1⟩
  have HB1 := Lib.hid (HB.out.trans (hb1.mono HB.out.size))
  clear hb1 k0 k1 k2 k3 k4 k5 hc PA
  go_wp2_with fail
  go_ret
  exact ⟨rfl, HB1.out⟩
set_option maxHeartbeats 2000000 in
theorem kind4_any (k f a : Int) (s : ByteArray) (ns : List Int) (ks : List Tr) (A B : Option Addr) (n c m d : Nat) (w : World) (B0 b b1 b2 m1 m2 : Nat) (hT : RdT w (.node k f a s ns ks) (.agg #[.int .i64 k, .int .i64 f, .int .i64 a, .string s, .slice A n c, .slice B m d])) (hR : Rules w B0 b b1 b2 m1 m2) (E : Bool) (HE : Hid ((s.toList == []) = E)) :
    Calls Try.prog 45 #[.agg #[.int .i64 k, .int .i64 f, .int .i64 a, .string s, .slice A n c, .slice B m d], .pointer (some ⟨b2, 0, none⟩)] w (Say w (appB (kn4 f) (pe4 f) a m 2 E n && (decide (f = 6) || simB (kindL ks)))) := by
  obtain ⟨A', n', c', B', m', d', he, -, -, -, -, -, -, hn, -, -, hml, -, hm, -, hL⟩ := rdT_node.1 hT
  simp only [Value.agg.injEq, Array.mk.injEq, List.cons.injEq, and_true, Value.slice.injEq, true_and] at he
  obtain ⟨⟨rfl, rfl, rfl⟩, rfl, rfl, rfl⟩ := he
  obtain ⟨W, hW⟩ : ∃ W, W = w.alloc (.cells #[.int .i64 k, .int .i64 f, .int .i64 a, .string s, .slice A n c, .slice B m d] 25) := ⟨_, rfl⟩
  obtain ⟨hb, -, KC⟩ := one_box6 hW
  obtain ⟨k0, k1, k2, k3, k4, k5⟩ := KC W (Below.refl _ _)
  have hRW := hR.as (fun q _ hq => hb.block q hq)
  have hc := hRW.box2.cell
  have PA := Lib.hid (application_any k f a s A B n c m d 2 W m2 (pe4 f) (kn4 f) hm hn E HE (fun V hV => ask4 ((hV.block _ (Array.getElem?_eq_some_iff.1 hRW.map2).1).trans hRW.map2) f) (by omega))
  have HB := Lib.hid hb; have HW := Lib.hid hW; have HKC := Lib.hid KC
  have hmr : appB (kn4 f) (pe4 f) a m 2 E n = true → m = 2 := fun h => by unfold appB at h; simp at h; exact h.2.2.1
  have HMR := Lib.hid hmr
  have HL := Lib.hid (hL.below hb); have HML := Lib.hid hml
  clear hb KC hW hR hRW hmr hL hml hT
  generalize appB (kn4 f) (pe4 f) a m 2 E n = r at *
  go_enter Try.func45, Try.ntmps45
  go_upto_region 1 with fail
  rw [← HW.out]
  go_wp2_with fail
  refine PA.out.mono ?_
  rintro e w1 ⟨rfl, hb1⟩
  have HB1 := Lib.hid (HB.out.trans (hb1.mono HB.out.size)); have HBW := Lib.hid hb1
  obtain ⟨j0, j1, j2, j3, j4, j5⟩ := HKC.out w1 hb1
  clear hb1 k0 k1 k2 k3 k4 k5 hc PA
  cases r
  · go_wp2_with fail
    go_ret
    exact ⟨by simp, HB1.out⟩
  · obtain rfl := HMR.out rfl
    by_cases hf : f = 6
    · subst hf
      clear HMR
      go_wp2_with fail
      go_ret
      exact ⟨by simp, HB1.out⟩
    · have hfb : (f == 6) = false := by simpa using hf
      have HF := Lib.hid hf
      obtain ⟨T, hT⟩ : ∃ T, ks[0]? = some T := ⟨_, List.getElem?_eq_getElem (by rw [HML.out]; omega)⟩
      have hkL : kindL ks = T.kind := by
        cases ks with
        | nil => simp at hT
        | cons x r => simp at hT; subst hT; rfl
      obtain ⟨ad, x0, x1, x2, x3, x4, x5, rfl, hl1, p0, p1, p2, p3, p4, p5, hRT⟩ := (HL.out.below HBW.out).kid hT
      have hz : ad.add (0 * 6) = ad := by unfold Addr.add; simp
      rw [hz] at p0 p1 p2 p3 p4 p5
      obtain ⟨tk, tf, ta, ts, tn, tks⟩ := T
      obtain ⟨Ta, Tn, Tc, Tb, Tm, Td, he, -⟩ := rdT_node.1 hRT
      simp only [Value.agg.injEq, Array.mk.injEq, List.cons.injEq, and_true] at he
      obtain ⟨rfl, rfl, rfl, rfl, rfl, rfl⟩ := he
      have PS := Lib.hid (simple_any tk tf ta ts Ta Tb Tn Tc Tm Td w1)
      have HKL := Lib.hid (show kindL ks = tk from hkL)
      clear hf hkL hl1 hz hRT hT HMR
      go_wp2_with fail
      refine PS.out.mono ?_
      rintro e w2 ⟨rfl, hb2⟩
      have HB2 := Lib.hid (HB1.out.trans (hb2.mono HB1.out.size))
      clear hb2 j0 j1 j2 j3 j4 j5 p0 p1 p2 p3 p4 p5 PS
      generalize hsm : simB tk = q
      have HSM := Lib.hid hsm
      clear hsm
      go_wp2_with fail
      go_ret
      exact ⟨ret_bool (by rw [HKL.out, HSM.out, decide_eq_false HF.out]; simp), HB2.out⟩
theorem nodeB_iff (k f a : Int) (s : ByteArray) (ns : List Int) (ks : List Tr) : nodeB (.node k f a s ns ks) = true ↔ nodeP k f a (s.toList == []) (lx.nameB (lx.bl s)) ns.length ks.length (kindL ks) := by
  unfold nodeB; exact decide_eq_true_iff
/-- Each rule says what the reference says. -/
theorem nodeB_1 (f a : Int) (s : ByteArray) (ns : List Int) (ks : List Tr) : (opdB f a ks.length && (s.toList == [])) = nodeB (.node 1 f a s ns ks) := by
  rw [Bool.eq_iff_iff, nodeB_iff]
  unfold nodeP opdB
  generalize (s.toList == []) = E
  generalize lx.nameB (lx.bl s) = N
  generalize ks.length = m
  generalize ns.length = n
  cases E <;> cases N
  all_goals first | (simp; done) | (simp; omega)
theorem nodeB_2 (f a : Int) (s : ByteArray) (ns : List Int) (ks : List Tr) : (opdB f a ks.length && lx.nameB (lx.bl s) && decide (ns.length = 0)) = nodeB (.node 2 f a s ns ks) := by
  rw [Bool.eq_iff_iff, nodeB_iff]
  unfold nodeP opdB
  generalize (s.toList == []) = E
  generalize lx.nameB (lx.bl s) = N
  generalize ks.length = m
  generalize ns.length = n
  cases E <;> cases N
  all_goals first | (simp; done) | (simp; omega)
theorem nodeB_3 (f a : Int) (s : ByteArray) (ns : List Int) (ks : List Tr) : appB (kn3 f) (pe3 f) a ks.length 1 (s.toList == []) ns.length = nodeB (.node 3 f a s ns ks) := by
  rw [Bool.eq_iff_iff, nodeB_iff]
  unfold nodeP appB kn3 pe3
  generalize (s.toList == []) = E
  generalize lx.nameB (lx.bl s) = N
  generalize ks.length = m
  generalize ns.length = n
  cases E <;> cases N
  all_goals first | (simp; done) | (simp; omega)
theorem nodeB_4 (f a : Int) (s : ByteArray) (ns : List Int) (ks : List Tr) : (appB (kn4 f) (pe4 f) a ks.length 2 (s.toList == []) ns.length && (decide (f = 6) || simB (kindL ks))) = nodeB (.node 4 f a s ns ks) := by
  rw [Bool.eq_iff_iff, nodeB_iff]
  unfold nodeP appB kn4 pe4 simB
  generalize (s.toList == []) = E
  generalize lx.nameB (lx.bl s) = N
  generalize ks.length = m
  generalize ns.length = n
  generalize kindL ks = z
  cases E <;> cases N
  all_goals first | (simp; done) | (simp; omega)
theorem nodeB_0 (k f a : Int) (s : ByteArray) (ns : List Int) (ks : List Tr) (h : ¬ (1 ≤ k ∧ k ≤ 4)) : nodeB (.node k f a s ns ks) = false := by
  cases hb : nodeB (.node k f a s ns ks)
  · rfl
  · rw [nodeB_iff] at hb
    unfold nodeP at hb
    omega
end Go.Proofs.Ytbcnilkenkmabaa.tr
