/- Package tree: the library's clones of a text, of numbers, of kids. -/
import Derived.Test.YtbcnilkenkmabaaTreeMeasure
import Derived.Test.YtbcnilkenkmabaaShelfC
import Derived.Lib.SliceRun
namespace Go.Proofs.Ytbcnilkenkmabaa.tr
open Go.ChangeShapes Go.WideShapes Go.ChangeAt Go.RowKit Go.Proofs.Ytbcnilkenkmabaa.mem Go.Proofs.Ytbcnilkenkmabaa.sq
set_option linter.unusedVariables false

theorem int64_info : (Try.prog.info? 2).map (fun i => (i.zero, i.size, i.bytes)) = some (some (.int .i64 0), 1, 8) := by kernel_rfl
/-- A row of int64 of the call's own. -/
def Own8 (w : World) (B : Nat) (v : Value) (xs : List Int) : Prop := w.ownsRow B 2 1 v xs.length (xs.map (Value.int .i64))
theorem Own8.form {w : World} {B : Nat} {v : Value} {xs : List Int} (h : Own8 w B v xs) : ∃ A c, v = .slice A xs.length c ∧ xs.length ≤ c ∧ c ≤ maxLen ∧ (A = none → c = 0) ∧ (∀ ad, A = some ad → B ≤ ad.block) := by
  rcases h.2 with ⟨rfl, h0⟩ | ⟨g, cap, cur, rfl, hB, _, hc, hm, _⟩
  · exact ⟨none, 0, by rw [h0], by omega, by unfold maxLen; omega, (fun _ => rfl), (fun ad e => by cases e)⟩
  · exact ⟨_, _, rfl, hc, hm, (fun h => by cases h), (fun ad e => by injection e with e; rw [← e]; exact hB)⟩
theorem Own8.rd {w : World} {B : Nat} {A : Option Addr} {n c : Nat} {xs : List Int} (h : Own8 w B (.slice A n c) xs) : Rd w A n xs := by
  have hn : n = xs.length := by
    obtain ⟨_, _, e, _⟩ := h.form
    injection e
  subst hn
  refine ⟨rfl, fun k hk => ?_⟩
  obtain ⟨g, cap, hv, _, hlt⟩ := World.ownsRow.form h (by omega)
  have hA : A = some ⟨g, 0, none⟩ := by injection hv
  subst hA
  exact ⟨_, rfl, hlt, h.cells (g := g) rfl k _ (by simp [List.getElem?_eq_getElem hk])⟩
theorem own8_empty (w : World) : Own8 (w.alloc (.cells #[] 2)) w.heap.size (.slice (some ⟨w.heap.size, 0, none⟩) 0 0) [] := by
  have h := World.ownsRow_nil (w.alloc (.cells #[] 2)) w.heap.size 2 1
  exact ⟨h.1, .inr ⟨w.heap.size, 0, #[], rfl, Nat.le_refl _, heap_alloc_new w _, Nat.le_refl _, by unfold maxLen; omega, rfl, rfl⟩⟩
theorem run_append8 (w : World) (ty : TypeId) (B : Nat) (v : Value) (xs : List Int) (hown : Own8 w B v xs) (ad : Addr) (m c : Nat) (ys : List Int) (hr : Rd w (some ad) m ys) (h40 : xs.length + m ≤ 17592186044416) (hB : B ≤ w.heap.size) :
    ∃ v' w', (Builtin.append_ #[22, 22] ty #[v, .slice (some ad) m c]).run Try.prog w = .ok v' w' ∧ Own8 w' B v' (xs ++ ys) ∧ w.grownBy w' v.ownBlock := by
  obtain ⟨i0, hi0, hz0, hz1, hz2⟩ := info_parts int64_info
  obtain ⟨v', w', hrun, h2, h3, _, _⟩ := run_append_own_at (P := Try.prog) w B 22 ty 2 i0 _ 1 8 Try.underlying22 hi0 hz0 hz1 hz2 rfl (by omega) v _ _ hown ad m c (ys.map (Value.int .i64)) (by rw [List.length_map, hr.1]; omega)
    (fun j u hu => by
      rw [List.getElem?_map] at hu
      obtain ⟨x, hx, rfl⟩ := Option.map_eq_some_iff.1 hu
      have hj : j < m := by rw [← hr.1]; exact (List.getElem?_eq_some_iff.1 hx).1
      obtain ⟨ad', e, _, hc⟩ := hr.2 j hj
      injection e with e
      subst e
      rw [hc]
      congr 2
      rw [List.getD, hx]; rfl)
    (fun u hu => by
      obtain ⟨x, _, rfl⟩ := List.mem_map.1 hu
      rfl) (by unfold maxLen; omega) (by omega) hB
  refine ⟨v', w', hrun, ?_, h3⟩
  unfold Own8
  rw [List.length_append, List.map_append, hr.1]
  exact h2
theorem wpList_append8 {W w : World} {ops : Array Oper} {rest : List Oper} {o : Oper} {a : Act} {K : Exit → Act → World → Prop} (hgd : o.guard = none) (s x : Operand)
    (ho : o.op = .call { callee := .builtin .append, args := #[s, x], argTypes := #[22, 22] })
    (hb : Below W.heap.size W w) (v : Value) (xs : List Int) (hs : a.eval s = v) (hown : Own8 w W.heap.size v xs) (hvb : ∀ k, v.ownBlock = some k → W.heap.size ≤ k) (ad : Addr) (m c : Nat) (ys : List Int) (hx : a.eval x = .slice (some ad) m c) (hr : Rd w (some ad) m ys)
    (h40 : xs.length + m ≤ 17592186044416)
    (h : ∀ v' w', Own8 w' W.heap.size v' (xs ++ ys) → Below W.heap.size W w' → wpList Try.prog ops K rest (a.put o.dst v') w') : wpList Try.prog ops K (o :: rest) a w := by
  obtain ⟨v', w', hrun, h2, h3⟩ := run_append8 w o.type W.heap.size v xs hown ad m c ys hr h40 hb.size
  refine wpList_plain hgd fun K hK => ?_
  unfold Oper.wp execOp
  simp only [ho, resolve, invoke, builtin, Sem.run_bind, Sem.run_pure, Result.andThen_ok, List.map_toArray, List.map_cons, List.map_nil, hs, hx, hrun]
  exact hK _ _ (h v' w' h2 (hb.grown h3 hb.size fun k hk => hvb k hk))
theorem ownQ_empty (Q : Nat → Prop) (w : World) : OwnQ Q (w.alloc (.cells #[] 25)) w.heap.size (.slice (some ⟨w.heap.size, 0, none⟩) 0 0) [] := by
  have h := World.ownsRow_nil (w.alloc (.cells #[] 25)) w.heap.size 25 6
  exact ⟨[], rfl, ⟨h.1, .inr ⟨w.heap.size, 0, #[], rfl, Nat.le_refl _, heap_alloc_new w _, Nat.le_refl _, by unfold maxLen; omega, rfl, rfl⟩⟩, fun k u T h => by simp at h⟩
theorem rowQ_of {Q : Nat → Prop} {w : World} {ad : Addr} {L : List Tr} (h : RdQL Q w L (some ad) 0) : RowQ Q w (some ad) L := by
  obtain ⟨us, g0, g1, g2⟩ := h.elems
  have key : ∀ (L : List Tr) (i : Nat), RdQL Q w L (some ad) i → L ≠ [] → ad.block < w.heap.size := by
    intro L i h hn
    cases L with
    | nil => exact absurd rfl hn
    | cons T r => rw [rdQL_cons] at h; obtain ⟨⟨ad', _, _, _, _, _, _, e, _, hl, _⟩, _⟩ := h; cases e; exact hl
  refine ⟨us, g0, fun j u hj => ⟨ad, rfl, ?_, by have := g1 j u hj; simpa using this⟩, g2⟩
  refine key L 0 h fun e => ?_
  subst e
  obtain rfl := List.eq_nil_of_length_eq_zero g0
  simp [flat6] at hj

theorem clone_str (s : ByteArray) (hs : s.size ≤ reachBytes) (w : World) : Calls Try.prog 37 #[.string s] w fun e w' => e = .returned (.string s) ∧ Below w.heap.size w w' := by
  have C := Lib.hid (Try.stringslite_Clone s w (by unfold reachBytes at hs; omega))
  clear hs
  go_enter Try.func37, Try.ntmps37
  go_wp2_with fail
  refine C.out.mono ?_
  rintro e w1 ⟨rfl, hb⟩
  have HB := Lib.hid hb
  clear hb
  go_wp2_with fail
  go_ret
  exact ⟨rfl, HB.out⟩
set_option maxHeartbeats 1000000 in
theorem clone_nums (A : Option Addr) (n c : Nat) (xs : List Int) (w : World) (hn : n ≤ 17592186044416) (hx : Rd w A n xs) (hc : A = none → c = 0) :
    Calls Try.prog 53 #[.slice A n c] w fun e w' => ∃ v, e = .returned v ∧ Own8 w' w.heap.size v xs ∧ Below w.heap.size w w' := by
  have q22 : ∀ (w : World) (a : Option Addr) (n c n' c' : Nat), (binOp .eql 22 (.slice a n c) (.slice none n' c')).run Try.prog w = .ok (.bool a.isNone) w := fun w a n c n' c' => Lib.run_eql_slice_nil w _ _ a n c n' c' Try.underlying22
  cases A with
  | none =>
    have hxs : xs = [] := by
      cases n with
      | zero => exact List.eq_nil_of_length_eq_zero hx.1
      | succ n => obtain ⟨ad, e, _⟩ := hx.2 0 (by have := hx.1; omega); cases e
    subst hxs
    clear hx hc
    go_enter Try.func53, Try.ntmps53
    go_wp2_with fail
    go_ret
    exact ⟨_, rfl, World.ownsRow_nil _ _ _ 1, Below.refl _ _⟩
  | some ad =>
    have HB := Lib.hid ((Below.refl w.heap.size w).alloc (Nat.le_refl _) (.cells #[] 2))
    have HX := Lib.hid (hx.below HB.out)
    have HN := Lib.hid (show ([] : List Int).length + n ≤ 17592186044416 by simpa using hn)
    have HE := Lib.hid (own8_empty w)
    have HV := Lib.hid (show ∀ k, (Value.slice (some ⟨w.heap.size, 0, none⟩) 0 0).ownBlock = some k → w.heap.size ≤ k from fun k e => by simp [Value.ownBlock] at e; omega)
    clear hx hc hn
    go_enter Try.func53, Try.ntmps53
    go_wp2_with (at_builtin; refine wpList_append8 rfl (.tmp 5) (.tmp 6) rfl HB.out _ [] rfl HE.out HV.out ad n c xs rfl HX.out HN.out ?_; intro v4 w4 ho4 hb4; rw [List.nil_append] at ho4)
    go_ret
    exact ⟨_, rfl, ho4, hb4⟩
set_option maxHeartbeats 1000000 in
theorem clone_kids (B : Option Addr) (m d : Nat) (ks : List Tr) (Q : Nat → Prop) (w : World) (hm : m ≤ 1000000000) (hx : RdQL Q w ks B 0) (hl : ks.length = m) (hc : B = none → d = 0) (hQ : ∀ b, Q b → b < w.heap.size) :
    Calls Try.prog 54 #[.slice B m d] w fun e w' => ∃ P c', e = .returned (.slice P m c') ∧ OwnQ Q w' w.heap.size (.slice P m c') ks ∧ Below w.heap.size w w' := by
  have q22 : ∀ (w : World) (a : Option Addr) (n c n' c' : Nat), (binOp .eql 23 (.slice a n c) (.slice none n' c')).run Try.prog w = .ok (.bool a.isNone) w := fun w a n c n' c' => Lib.run_eql_slice_nil w _ _ a n c n' c' Try.underlying23
  cases B with
  | none =>
    obtain rfl := hx.none_
    simp at hl
    subst hl
    clear hx hc
    go_enter Try.func54, Try.ntmps54
    go_wp2_with fail
    go_ret
    exact ⟨_, _, rfl, ownQ_nil _ _ _, Below.refl _ _⟩
  | some ad =>
    have HB := Lib.hid ((Below.refl w.heap.size w).alloc (Nat.le_refl _) (.cells #[] 25))
    have HX := Lib.hid (rowQ_of (hx.keep HB.out.size (fun a hq hl => HB.out.cell hl) (fun _ h => h)))
    have HN := Lib.hid (show ([] : List Tr).length + m ≤ 1000000000000 by simp; omega)
    have HE := Lib.hid (ownQ_empty Q w)
    have HL := Lib.hid hl; have HQ := Lib.hid hQ; have HC := Lib.hid hc
    clear hx hc hm hl hQ
    go_enter Try.func54, Try.ntmps54
    go_wp2_with (at_builtin; refine wpList_appendQ rfl (.tmp 5) (.tmp 6) rfl HQ.out HB.out _ [] rfl HE.out (some ad) m d ks rfl HL.out HX.out HC.out HN.out ?_; intro P c' w4 ho4 hb4; rw [List.nil_append, HL.out] at *)
    go_ret
    exact ⟨_, _, rfl, ho4, hb4⟩
end Go.Proofs.Ytbcnilkenkmabaa.tr
