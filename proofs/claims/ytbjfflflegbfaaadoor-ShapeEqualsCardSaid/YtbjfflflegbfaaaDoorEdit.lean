/- shape.edit, Replace, Insert and Remove: what they make; and the reference's Insert and Remove. -/
import Derived.Test.YtbjfflflegbfaaaDoorConcat
import Derived.Deep.RegionWith
namespace Go.Proofs.YtbjfflflegbfaaaDoor.edit
open Go.ChangeShapes Go.WideShapes Go.ChangeAt Go.RowKit Go.Proofs.YtbjfflflegbfaaaDoor.mem Go.Proofs.YtbjfflflegbfaaaDoor.cat
set_option linter.unusedVariables false

theorem below_of_drew {B : Nat} {w w1 : World} (h : Below B w.drew w1) : Below B w w1 := ⟨h.os, h.tape, h.output, h.size, h.block⟩

theorem insert_part (ad : Addr) (x : Int) (w : World) (hc : w.cell? ad = some (.int .i64 x)) : Calls Tryd.prog 31 #[.pointer (some ad)] w (Makes w [x]) := by
  go_enter Tryd.func31, Tryd.ntmps31
  go_wp2_with fail
  go_ret
  exact ⟨_, rfl, World.ownsRow_lit w #[.int .i64 x] 1 (Nat.le_refl _) (by unfold maxLen; omega) rfl, (Below.refl _ _).alloc (Nat.le_refl _) _⟩
theorem replace_part (ad : Addr) (x : Int) (w : World) (hc : w.cell? ad = some (.int .i64 x)) : Calls Tryd.prog 30 #[.pointer (some ad)] w (Makes w [x]) := by
  go_enter Tryd.func30, Tryd.ntmps30
  go_wp2_with fail
  go_ret
  exact ⟨_, rfl, World.ownsRow_lit w #[.int .i64 x] 1 (Nat.le_refl _) (by unfold maxLen; omega) rfl, (Below.refl _ _).alloc (Nat.le_refl _) _⟩
theorem remove_part (w : World) : Calls Tryd.prog 32 #[] w (Makes w []) := by
  go_enter Tryd.func32, Tryd.ntmps32
  go_wp2_with fail
  go_ret
  exact ⟨_, rfl, own_nil _ _, Below.refl _ _⟩

/-- The three parts of an edit, laid in a block of three slices. -/
theorem rdL_three {W : World} {A B C : Option Addr} {a b c x y z : Nat} {xs ys zs : List Int} (hx : Rd W A a xs) (hy : Rd W B b ys) (hz : Rd W C c zs) (h1 : A = none → x = 0) (h2 : B = none → y = 0) (h3 : C = none → z = 0) (t : TypeId) :
    RdL (W.alloc (.cells #[.slice A a x, .slice B b y, .slice C c z] t)) (some ⟨W.heap.size, 0, none⟩) 3 [xs, ys, zs] := by
  have hb : Below W.heap.size W (W.alloc (.cells #[.slice A a x, .slice B b y, .slice C c z] t)) := (Below.refl _ _).alloc (Nat.le_refl _) _
  refine ⟨rfl, fun k l hk => ?_⟩
  have hcell := fun i => cell_of_row _ W.heap.size i _ t (0, 0) (heap_alloc_new W (.cells #[.slice A a x, .slice B b y, .slice C c z] t))
  match k, hk with
  | 0, hk => obtain rfl := Option.some.inj hk; exact ⟨_, A, x, rfl, by simp, by rw [add_at, hcell, hx.1]; rfl, by rw [hx.1]; exact hx.below hb, h1⟩
  | 1, hk => obtain rfl := Option.some.inj hk; exact ⟨_, B, y, rfl, by simp, by rw [add_at, hcell, hy.1]; rfl, by rw [hy.1]; exact hy.below hb, h2⟩
  | 2, hk => obtain rfl := Option.some.inj hk; exact ⟨_, C, z, rfl, by simp, by rw [add_at, hcell, hz.1]; rfl, by rw [hz.1]; exact hz.below hb, h3⟩
  | k + 3, hk => simp at hk
theorem flat_three {xs ys zs : List Int} : [xs, ys, zs].flatten = xs ++ ys ++ zs := by simp

/-- An edit without such an axis. -/
def NoAxis (w : World) (e : Ending) (w' : World) : Prop := e = .returned (.tuple #[.slice none 0 0, .int .i64 4]) ∧ w = w'
theorem edit_none (A : Option Addr) (n c g : Nat) (k : Int) (F : Value) (w : World) (hn : n ≤ maxLen) (hg : g ≤ 1) (h : k < 0 ∨ (n : Int) < k + g) :
    Calls Tryd.prog 29 #[.slice A n c, .int .i64 k, .int .i64 g, F] w (NoAxis w) := by
  unfold maxLen at hn
  have h' : k < 0 ∨ (0 ≤ k ∧ (n : Int) - (g : Int) < k) := by omega
  clear h
  rcases h' with h | ⟨h0, h⟩
  all_goals
    go_enter Tryd.func29, Tryd.ntmps29
    go_wp2_with fail
    go_ret2
    exact ⟨rfl, rfl⟩

set_option maxHeartbeats 1000000 in
theorem edit_insert (A : Option Addr) (n c : Nat) (xs : List Int) (k : Nat) (ad : Addr) (x : Int) (w : World) (hnc : n ≤ c) (hcm : c ≤ maxLen) (hA : A = none → c = 0) (h30 : n ≤ 1073741824) (hx : Rd w A n xs) (hk : k ≤ n) (hc : w.cell? ad = some (.int .i64 x)) :
    Calls Tryd.prog 29 #[.slice A n c, .int .i64 k, .int .i64 0, .func (.func 31) #[] #[.pointer (some ad)]] w (MakesE w (xs.take k ++ [x] ++ xs.drop k) 0) := by
  unfold maxLen at hcm
  have HX := Lib.hid hx; clear hx
  have hnk : ¬ n < k := by omega
  have hnk1 : ¬ ((n : Int) - 1 < (k : Int)) ∨ 0 = 0 := by omega
  have hkc : k ≤ c := by omega
  have hk0 : ¬ (k : Int) < 0 := by omega
  have hkn : ((k : Nat) : Int) ≤ (n : Int) := by omega
  have hk00 : (0 : Int) ≤ (k : Int) := by omega
  have hkn2 : k ≤ n := by omega
  have hk01 : (0 : Int) ≤ ((k : Nat) : Int) := by omega
  have hlen : [xs.take k, [x], xs.drop (k)].flatten.length ≤ 1099511627776 := by
    rw [flat_three]; simp only [List.length_append, List.length_take, List.length_drop, HX.out.1, List.length_cons, List.length_nil]; omega
  have HL := Lib.hid hlen; clear hlen
  have hkc0 : k ≤ n := by omega
  have hz := HX.out.cut hkn2 hnc
  by_cases hck : c = k
  · have hd : xs.drop (k) = [] := List.drop_eq_nil_of_le (by rw [HX.out.1]; omega)
    rw [hd] at HL
    have HD := Lib.hid hd; clear hd hz
    have HA := Lib.hid hA; clear hA
    subst hck
    go_enter Tryd.func29, Tryd.ntmps29
    go_wp2_with fail
    have hw : IntKind.i64.wrap ((c : Int)) = (c : Int) := by rw [IntKind.wrap_i64]; omega
    go_region_with (first
      | (go_at_call 31; refine (insert_part ad x w.drew hc).mono ?_; intro e w1 hm; obtain ⟨A1, c1, rfl, ho, hb, h1, h2, h3⟩ := hm.out; have H3 := Lib.hid h3; clear h3 hm)
      | (go_at_call 39; refine (concat_any _ 3 3 [xs.take c, [x], []] _ (by omega) (rdL_three ((HX.out.below (below_of_drew hb)).take hkc0) ho.rd Rd.nil_ HA.out H3.out (fun _ => rfl) _) ?_).mono ?_; (first | exact HL.out | skip); intro e w2 hm2; obtain ⟨v2, rfl, ho2, hb2⟩ := hm2))
    all_goals
      go_wp2_with fail
      go_ret2
      exact ⟨v2, rfl, by rw [HD.out, ← flat_three]; exact ho2.le (Nat.le_trans (show w.heap.size ≤ w1.heap.size from hb.size) (by simp)), (below_of_drew hb).trans ((((Below.refl _ _).alloc (Nat.le_refl _) _).trans (hb2.mono (by simp))).mono hb.size)⟩
  · rw [if_neg hck] at hz
    have HZ := Lib.hid hz; clear hz
    have HZ0 : Hid (A.map (·.add (k)) = none → c - (k) = 0) := Lib.hid fun e => by have := hA (by cases A with | none => rfl | some _ => simp at e); omega
    have HA := Lib.hid hA; clear hA
    go_enter Tryd.func29, Tryd.ntmps29
    go_wp2_with fail
    have hw : IntKind.i64.wrap ((k : Int)) = (k : Int) := by rw [IntKind.wrap_i64]; omega
    go_region_with (first
      | (go_at_call 31; refine (insert_part ad x w.drew hc).mono ?_; intro e w1 hm; obtain ⟨A1, c1, rfl, ho, hb, h1, h2, h3⟩ := hm.out; have H3 := Lib.hid h3; clear h3 hm)
      | (go_at_call 39; refine (concat_any _ 3 3 [xs.take k, [x], xs.drop (k)] _ (by omega) (rdL_three ((HX.out.below (below_of_drew hb)).take hkc0) ho.rd (HZ.out.below (below_of_drew hb)) HA.out H3.out (fun e => by have := HZ0.out e; omega) _) ?_).mono ?_; (first | exact HL.out | skip); intro e w2 hm2; obtain ⟨v2, rfl, ho2, hb2⟩ := hm2))
    all_goals
      go_wp2_with fail
      go_ret2
      exact ⟨v2, rfl, by rw [flat_three] at ho2; exact ho2.le (Nat.le_trans (show w.heap.size ≤ w1.heap.size from hb.size) (by simp)), (below_of_drew hb).trans ((((Below.refl _ _).alloc (Nat.le_refl _) _).trans (hb2.mono (by simp))).mono hb.size)⟩

set_option maxHeartbeats 1000000 in
theorem edit_replace (A : Option Addr) (n c : Nat) (xs : List Int) (k : Nat) (ad : Addr) (x : Int) (w : World) (hnc : n ≤ c) (hcm : c ≤ maxLen) (hA : A = none → c = 0) (h30 : n ≤ 1073741824) (hx : Rd w A n xs) (hk : k + 1 ≤ n) (hc : w.cell? ad = some (.int .i64 x)) :
    Calls Tryd.prog 29 #[.slice A n c, .int .i64 k, .int .i64 1, .func (.func 30) #[] #[.pointer (some ad)]] w (MakesE w (xs.take k ++ [x] ++ xs.drop (k + 1)) 0) := by
  unfold maxLen at hcm
  have HX := Lib.hid hx; clear hx
  have hnk : ¬ n < k := by omega
  have hnk1 : ¬ ((n : Int) - 1 < (k : Int)) ∨ 1 = 0 := by omega
  have hkc : k ≤ c := by omega
  have hk0 : ¬ (k : Int) < 0 := by omega
  have hkn : ((k + 1 : Nat) : Int) ≤ (n : Int) := by omega
  have hk00 : (0 : Int) ≤ (k : Int) := by omega
  have hkn2 : k + 1 ≤ n := by omega
  have hk01 : (0 : Int) ≤ ((k + 1 : Nat) : Int) := by omega
  have hlen : [xs.take k, [x], xs.drop (k + 1)].flatten.length ≤ 1099511627776 := by
    rw [flat_three]; simp only [List.length_append, List.length_take, List.length_drop, HX.out.1, List.length_cons, List.length_nil]; omega
  have HL := Lib.hid hlen; clear hlen
  have hkc0 : k ≤ n := by omega
  have hz := HX.out.cut hkn2 hnc
  by_cases hck : c = k + 1
  · have hd : xs.drop (k + 1) = [] := List.drop_eq_nil_of_le (by rw [HX.out.1]; omega)
    rw [hd] at HL
    have HD := Lib.hid hd; clear hd hz
    have HA := Lib.hid hA; clear hA
    subst hck
    go_enter Tryd.func29, Tryd.ntmps29
    go_wp2_with fail
    have hw : IntKind.i64.wrap ((k : Int) + 1) = ((k + 1 : Nat) : Int) := by rw [IntKind.wrap_i64]; omega
    go_region_with (first
      | (go_at_call 30; refine (replace_part ad x w.drew hc).mono ?_; intro e w1 hm; obtain ⟨A1, c1, rfl, ho, hb, h1, h2, h3⟩ := hm.out; have H3 := Lib.hid h3; clear h3 hm)
      | (go_at_call 39; refine (concat_any _ 3 3 [xs.take k, [x], []] _ (by omega) (rdL_three ((HX.out.below (below_of_drew hb)).take hkc0) ho.rd Rd.nil_ HA.out H3.out (fun _ => rfl) _) ?_).mono ?_; (first | exact HL.out | skip); intro e w2 hm2; obtain ⟨v2, rfl, ho2, hb2⟩ := hm2))
    all_goals
      go_wp2_with fail
      go_ret2
      exact ⟨v2, rfl, by rw [HD.out, ← flat_three]; exact ho2.le (Nat.le_trans (show w.heap.size ≤ w1.heap.size from hb.size) (by simp)), (below_of_drew hb).trans ((((Below.refl _ _).alloc (Nat.le_refl _) _).trans (hb2.mono (by simp))).mono hb.size)⟩
  · rw [if_neg hck] at hz
    have HZ := Lib.hid hz; clear hz
    have HZ0 : Hid (A.map (·.add (k + 1)) = none → c - (k + 1) = 0) := Lib.hid fun e => by have := hA (by cases A with | none => rfl | some _ => simp at e); omega
    have HA := Lib.hid hA; clear hA
    go_enter Tryd.func29, Tryd.ntmps29
    go_wp2_with fail
    have hw : IntKind.i64.wrap ((k : Int) + 1) = ((k + 1 : Nat) : Int) := by rw [IntKind.wrap_i64]; omega
    go_region_with (first
      | (go_at_call 30; refine (replace_part ad x w.drew hc).mono ?_; intro e w1 hm; obtain ⟨A1, c1, rfl, ho, hb, h1, h2, h3⟩ := hm.out; have H3 := Lib.hid h3; clear h3 hm)
      | (go_at_call 39; refine (concat_any _ 3 3 [xs.take k, [x], xs.drop (k + 1)] _ (by omega) (rdL_three ((HX.out.below (below_of_drew hb)).take hkc0) ho.rd (HZ.out.below (below_of_drew hb)) HA.out H3.out (fun e => by have := HZ0.out e; omega) _) ?_).mono ?_; (first | exact HL.out | skip); intro e w2 hm2; obtain ⟨v2, rfl, ho2, hb2⟩ := hm2))
    all_goals
      go_wp2_with fail
      go_ret2
      exact ⟨v2, rfl, by rw [flat_three] at ho2; exact ho2.le (Nat.le_trans (show w.heap.size ≤ w1.heap.size from hb.size) (by simp)), (below_of_drew hb).trans ((((Below.refl _ _).alloc (Nat.le_refl _) _).trans (hb2.mono (by simp))).mono hb.size)⟩

set_option maxHeartbeats 1000000 in
theorem edit_remove (A : Option Addr) (n c : Nat) (xs : List Int) (k : Nat) (w : World) (hnc : n ≤ c) (hcm : c ≤ maxLen) (hA : A = none → c = 0) (h30 : n ≤ 1073741824) (hx : Rd w A n xs) (hk : k + 1 ≤ n) :
    Calls Tryd.prog 29 #[.slice A n c, .int .i64 k, .int .i64 1, .func (.func 32) #[] #[]] w (MakesE w (xs.take k ++ [] ++ xs.drop (k + 1)) 0) := by
  unfold maxLen at hcm
  have HX := Lib.hid hx; clear hx
  have hnk : ¬ n < k := by omega
  have hnk1 : ¬ ((n : Int) - 1 < (k : Int)) ∨ 1 = 0 := by omega
  have hkc : k ≤ c := by omega
  have hk0 : ¬ (k : Int) < 0 := by omega
  have hkn : ((k + 1 : Nat) : Int) ≤ (n : Int) := by omega
  have hk00 : (0 : Int) ≤ (k : Int) := by omega
  have hkn2 : k + 1 ≤ n := by omega
  have hk01 : (0 : Int) ≤ ((k + 1 : Nat) : Int) := by omega
  have hlen : [xs.take k, [], xs.drop (k + 1)].flatten.length ≤ 1099511627776 := by
    rw [flat_three]; simp only [List.length_append, List.length_take, List.length_drop, HX.out.1, List.length_nil]; omega
  have HL := Lib.hid hlen; clear hlen
  have hkc0 : k ≤ n := by omega
  have hz := HX.out.cut hkn2 hnc
  by_cases hck : c = k + 1
  · have hd : xs.drop (k + 1) = [] := List.drop_eq_nil_of_le (by rw [HX.out.1]; omega)
    rw [hd] at HL
    have HD := Lib.hid hd; clear hd hz
    have HA := Lib.hid hA; clear hA
    subst hck
    go_enter Tryd.func29, Tryd.ntmps29
    go_wp2_with fail
    have hw : IntKind.i64.wrap ((k : Int) + 1) = ((k + 1 : Nat) : Int) := by rw [IntKind.wrap_i64]; omega
    go_region_with (first
      | (go_at_call 32; refine (remove_part w.drew).mono ?_; intro e w1 hm; obtain ⟨A1, c1, rfl, ho, hb, h1, h2, h3⟩ := hm.out; have H3 := Lib.hid h3; clear h3 hm)
      | (go_at_call 39; refine (concat_any _ 3 3 [xs.take k, [], []] _ (by omega) (rdL_three ((HX.out.below (below_of_drew hb)).take hkc0) ho.rd Rd.nil_ HA.out H3.out (fun _ => rfl) _) ?_).mono ?_; (first | exact HL.out | skip); intro e w2 hm2; obtain ⟨v2, rfl, ho2, hb2⟩ := hm2))
    all_goals
      go_wp2_with fail
      go_ret2
      exact ⟨v2, rfl, by rw [HD.out, ← flat_three]; exact ho2.le (Nat.le_trans (show w.heap.size ≤ w1.heap.size from hb.size) (by simp)), (below_of_drew hb).trans ((((Below.refl _ _).alloc (Nat.le_refl _) _).trans (hb2.mono (by simp))).mono hb.size)⟩
  · rw [if_neg hck] at hz
    have HZ := Lib.hid hz; clear hz
    have HZ0 : Hid (A.map (·.add (k + 1)) = none → c - (k + 1) = 0) := Lib.hid fun e => by have := hA (by cases A with | none => rfl | some _ => simp at e); omega
    have HA := Lib.hid hA; clear hA
    go_enter Tryd.func29, Tryd.ntmps29
    go_wp2_with fail
    have hw : IntKind.i64.wrap ((k : Int) + 1) = ((k + 1 : Nat) : Int) := by rw [IntKind.wrap_i64]; omega
    go_region_with (first
      | (go_at_call 32; refine (remove_part w.drew).mono ?_; intro e w1 hm; obtain ⟨A1, c1, rfl, ho, hb, h1, h2, h3⟩ := hm.out; have H3 := Lib.hid h3; clear h3 hm)
      | (go_at_call 39; refine (concat_any _ 3 3 [xs.take k, [], xs.drop (k + 1)] _ (by omega) (rdL_three ((HX.out.below (below_of_drew hb)).take hkc0) ho.rd (HZ.out.below (below_of_drew hb)) HA.out H3.out (fun e => by have := HZ0.out e; omega) _) ?_).mono ?_; (first | exact HL.out | skip); intro e w2 hm2; obtain ⟨v2, rfl, ho2, hb2⟩ := hm2))
    all_goals
      go_wp2_with fail
      go_ret2
      exact ⟨v2, rfl, by rw [flat_three] at ho2; exact ho2.le (Nat.le_trans (show w.heap.size ≤ w1.heap.size from hb.size) (by simp)), (below_of_drew hb).trans ((((Below.refl _ _).alloc (Nat.le_refl _) _).trans (hb2.mono (by simp))).mono hb.size)⟩
end Go.Proofs.YtbjfflflegbfaaaDoor.edit
