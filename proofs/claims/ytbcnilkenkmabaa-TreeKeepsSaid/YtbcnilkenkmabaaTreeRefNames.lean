/- The reference of package tree: In, Names. -/
import Derived.Test.YtbcnilkenkmabaaTreeNames
import Derived.Test.YtbcnilkenkmabaaTreeSame
namespace Go.Proofs.Ytbcnilkenkmabaa.tr
open Go.ChangeShapes Go.WideShapes Go.ChangeAt Go.RowKit Go.Proofs.Ytbcnilkenkmabaa.mem Go.Proofs.Ytbcnilkenkmabaa.sq
set_option linter.unusedVariables false

theorem OwnStr.at_ {w : World} {B n c : Nat} {P : Option Addr} {L : List ByteArray} (h : OwnStr w B (.slice P n c) L) {k : Nat} {s : ByteArray} (hk : L[k]? = some s) : ∃ g, P = some ⟨g, 0, none⟩ ∧ w.cell? ⟨g, k, none⟩ = some (.string s) ∧ g < w.heap.size := by
  obtain ⟨hl, _⟩ := List.getElem?_eq_some_iff.1 hk
  obtain ⟨g, cap, e, _, hlt⟩ := World.ownsRow.form h (by omega)
  obtain rfl : P = some ⟨g, 0, none⟩ := by injection e
  have ha : ∀ q, (⟨g, 0, none⟩ : Addr).add q = ⟨g, q, none⟩ := fun q => by unfold Addr.add; split <;> simp_all
  have := World.ownsRow.cells h (g := g) rfl k (.string s) (by rw [List.getElem?_map, hk]; rfl)
  rw [ha] at this
  exact ⟨g, rfl, this, hlt⟩
theorem OwnStr.len_ {w : World} {B n c : Nat} {P : Option Addr} {L : List ByteArray} (h : OwnStr w B (.slice P n c) L) : n = L.length := by
  obtain ⟨_, _, e, _⟩ := h.form
  injection e
theorem OwnStr.below {w w' : World} {B : Nat} {v : Value} {L : List ByteArray} (h : OwnStr w B v L) (hb : Below w.heap.size w w') : OwnStr w' B v L := h.as fun g e => hb.block g (h.form.elim fun _ ⟨_, _, hf⟩ => (hf g e).2.1)
theorem str_eqt (s : ByteArray) : (s.toList == s.toList) = true := by simp

set_option maxHeartbeats 1000000 in
theorem refIn_any (s : ByteArray) (P : Option Addr) (n c B : Nat) (L : List ByteArray) (w : World) (h : OwnStr w B (.slice P n c) L) (hn : n ≤ 1000000000) :
    Calls Try.prog 38 #[.string s, .slice P n c] w fun e w' => e = .returned (.bool (inB s L)) ∧ w = w' := by
  have HO := Lib.hid h; have HN := Lib.hid h.len_
  obtain ⟨r, hr⟩ : ∃ r, r = inB s L := ⟨_, rfl⟩
  rw [← hr]
  have HR := Lib.hid hr
  clear h hr
  go_enter Try.func38, Try.ntmps38
  go_wp2_with fail
  go_loop [5] (fun i => ∃ k : Nat, k ≤ n ∧ i = .int .i64 k ∧ Hid (s ∉ L.take k)) (fun i => n - (intOf i).toNat)
  case atStart => exact ⟨0, Nat.zero_le _, rfl, Lib.hid (by simp)⟩
  case round =>
    obtain ⟨k, hk, rfl, HS⟩ := hrel
    by_cases hlt : k < n
    · obtain ⟨t, ht⟩ : ∃ t, L[k]? = some t := ⟨_, List.getElem?_eq_getElem (by rw [← HN.out]; exact hlt)⟩
      obtain ⟨g, rfl, hc, -⟩ := HO.out.at_ ht
      have HT := Lib.hid ht
      clear ht
      by_cases hst : t = s
      · subst hst
        have hse := str_eqt t
        have HE := Lib.hid (show r = true by rw [HR.out]; exact inB_yes (List.mem_of_getElem? HT.out))
        go_wp2_with fail
        go_ret
        exact ⟨ret_bool HE.out.symm, rfl⟩
      · have hse := (str_ne hst).2
        have HS2 := Lib.hid (show s ∉ L.take (k + 1) from fun hm => by
          have hk' := (List.getElem?_eq_some_iff.1 HT.out).1
          have he := (List.getElem?_eq_some_iff.1 HT.out).2
          rw [List.take_succ_eq_append_getElem hk', he] at hm
          rcases List.mem_append.1 hm with hm | hm
          · exact HS.out hm
          · simp at hm; exact hst hm.symm)
        clear hst
        go_wp2_with fail
        go_round
        case rel => exact ⟨k + 1, by omega, by go_num, HS2⟩
        case measure => first | (simp [intOf]; done) | (simp [intOf]; omega)
    · have HE := Lib.hid (show r = false by
        rw [HR.out]
        have := HS.out
        rw [List.take_of_length_le (by rw [← HN.out]; omega)] at this
        exact inB_no this)
      go_wp2_with fail
      go_ret
      exact ⟨ret_bool HE.out.symm, rfl⟩
theorem wpList_pushStr {W w : World} {ops : Array Oper} {rest : List Oper} {o : Oper} {a : Act} {Q : Exit → Act → World → Prop} (hgd : o.guard = none) (s x : Operand)
    (ho : o.op = .call { callee := .builtin .append, args := #[s, x], argTypes := #[35, 35] })
    {v : Value} {L : List ByteArray} {u : ByteArray} (hs : a.eval s = v) (hA : OwnStr w W.heap.size v L) (hB : Below W.heap.size W w) (t : TypeId) (hx : a.eval x = .slice (some ⟨w.heap.size, 0, none⟩) 1 1) (h40 : L.length < 1099511627776)
    (h : ∀ P c w1, OwnStr w1 W.heap.size (.slice P (L.length + 1) c) (L ++ [u]) → Below W.heap.size W w1 → wpList Try.prog ops Q rest (a.put o.dst (.slice P (L.length + 1) c)) w1) : wpList Try.prog ops Q (o :: rest) a (w.alloc (.cells #[.string u] t)) := by
  obtain ⟨v', w1, hrun, h1, h2, _⟩ := run_pushStr hA u hB.size o.type t h40
  obtain ⟨P, c, rfl, _⟩ := h1.form
  rw [show (L ++ [u]).length = L.length + 1 by simp] at hrun h1
  refine wpList_plain hgd fun K hK => ?_
  unfold Oper.wp execOp
  simp only [ho, resolve, invoke, builtin, Sem.run_bind, Sem.run_pure, Result.andThen_ok, List.map_toArray, List.map_cons, List.map_nil, hs, hx, hrun]
  exact hK _ _ (h P c w1 h1 ((hB.alloc hB.size _).grown h2 (by have := hB.size; simp; omega) fun k e => (hA.form.elim fun _ ⟨_, _, hf⟩ => (hf k e).1)))
set_option maxHeartbeats 4000000 in
theorem refNames_any (T : Tr) (v : Value) (w : World) (hT : RdT w T v) (hz : sizeT T ≤ 1000000) : Calls Try.prog 22 #[v] w (NamesTo w (namesOf (stepsT T))) := by
  obtain ⟨k, f, a, s, ns, ks⟩ := T
  have HT := (RdQ.old hT).le (Q' := fun q => q < w.heap.size) (fun q e => e.2)
  obtain ⟨Aa, na, ca, Bb, mm, d, rfl, -⟩ := rdT_node.1 hT
  obtain ⟨W, hW⟩ : ∃ W, W = w.alloc (.cells #[.int .i64 k, .int .i64 f, .int .i64 a, .string s, .slice Aa na ca, .slice Bb mm d] 25) := ⟨_, rfl⟩
  obtain ⟨hb, hsz, KC⟩ := one_box6 hW
  obtain ⟨k0, k1, k2, k3, k4, k5⟩ := KC W (Below.refl _ _)
  have PS := Lib.hid (refSteps_any _ (fun q => q < w.heap.size) _ W (HT.below hb) (fun q e => by omega) (by omega))
  have HB := Lib.hid hb; have HW := Lib.hid hW
  have HLN := Lib.hid (steps_len (.node k f a s ns ks)); have HZ := Lib.hid hz
  generalize stepsT (.node k f a s ns ks) = L at *
  clear hT HT hb hsz KC hW hz
  go_enter Try.func22, Try.ntmps22
  go_upto_region 2 with fail
  rw [← HW.out]
  go_wp2_with fail
  refine PS.out.mono ?_
  rintro e w1 ⟨P, c, rfl, ho, hb1⟩
  have HO := Lib.hid ho; have HB1 := Lib.hid (HB.out.trans (hb1.mono HB.out.size))
  have hL6 : L.length ≤ 1000000 := by rw [HLN.out]; exact HZ.out
  obtain ⟨n, hn⟩ : ∃ n, n = L.length := ⟨_, rfl⟩
  rw [← hn] at HO hL6 ⊢
  have HN := Lib.hid hn
  clear ho hb1 hn k0 k1 k2 k3 k4 k5 PS
  go_wp2_with fail
  go_loopw [3, 5] (fun x i wr => ∃ (j : Nat) (P3 : Option Addr) (c3 m3 : Nat), j ≤ n ∧ i = .int .i64 j ∧ x = .slice P3 m3 c3 ∧ m3 ≤ 1000000 ∧ Hid (m3 = (namesOf (L.take j)).length) ∧ Hid (OwnStr wr w1.heap.size (.slice P3 m3 c3) (namesOf (L.take j))) ∧ Hid (Below w1.heap.size w1 wr)) (fun _ i _ => n - (intOf i).toNat)
  case atStart => exact ⟨0, none, 0, 0, Nat.zero_le _, rfl, rfl, Nat.zero_le _, Lib.hid rfl, Lib.hid (ownStr_nil _ _), Lib.hid (Below.refl _ _)⟩
  case round =>
    obtain ⟨wo, rfl⟩ : ∃ wo : World, wo = wr := ⟨_, rfl⟩
    obtain ⟨j, P3, c3, m3, hj, rfl, rfl, hm3, HM3, HO3, HV⟩ := hrel
    by_cases hlt : j < n
    · obtain ⟨T, hTj⟩ : ∃ T, L[j]? = some T := ⟨_, List.getElem?_eq_getElem (by rw [← HN.out]; exact hlt)⟩
      obtain ⟨us, u0, u1, u2⟩ := HO.out
      rw [← HN.out] at u0 u1
      obtain ⟨g, cap, e, _, hgl⟩ := World.ownsRow.form u1 (by omega)
      obtain rfl : P = some ⟨g, 0, none⟩ := by injection e
      obtain ⟨u, huj⟩ : ∃ u, us[j]? = some u := ⟨_, List.getElem?_eq_getElem (by omega)⟩
      have hrT := u2 j u T huj hTj
      obtain ⟨⟨e0, e1, e2, e3, e4, e5⟩, _⟩ := row6_at u1 huj
      obtain ⟨tk, tf, ta, ts, tn, tks⟩ := T
      obtain ⟨c0, c1, c2, c3', c4, c5⟩ := u
      obtain ⟨Ta, Tn, Tc, Tb, Tm, Td, hu6, -⟩ := rdQ_node.1 hrT
      simp only [S6.agg, Value.agg.injEq, Array.mk.injEq, List.cons.injEq, and_true] at hu6
      obtain ⟨rfl, rfl, rfl, rfl, rfl, rfl⟩ := hu6
      have hgV := HV.out
      have x0 := (hgV.cell (p := ⟨g, j * 6, none⟩) hgl).trans e0
      have x3 := (hgV.cell (p := ⟨g, j * 6 + 3, none⟩) hgl).trans e3
      have PI := Lib.hid (refIn_any ts P3 m3 c3 w1.heap.size _ wo HO3.out (by omega))
      have htk : L.take (j + 1) = L.take j ++ [.node tk tf ta ts tn tks] := by
        obtain ⟨hl, he⟩ := List.getElem?_eq_some_iff.1 hTj
        rw [List.take_succ_eq_append_getElem hl, he]
      have hnx : namesOf (L.take (j + 1)) = addN (namesOf (L.take j)) (.node tk tf ta ts tn tks) := by rw [htk]; exact namesOf_snoc _ _
      have HNX := Lib.hid hnx
      clear hTj u0 u1 u2 e huj hrT e0 e1 e2 e3 e4 e5 hgV htk hnx
      by_cases hk2 : tk = 2
      case neg =>
        have hkb : (tk == 2) = false := by simpa using hk2
        have hadd : namesOf (L.take (j + 1)) = namesOf (L.take j) := by rw [HNX.out]; unfold addN; rw [show (Tr.node tk tf ta ts tn tks).kind = tk from rfl, hkb]; rfl
        have HA := Lib.hid hadd
        clear hadd hk2
        go_wp2_with fail
        go_roundw
        case rel => exact ⟨j + 1, P3, c3, m3, by omega, by go_num, rfl, hm3, by rw [HA.out]; exact HM3, by rw [HA.out]; exact HO3, HV⟩
        case measure => first | (simp [intOf]; done) | (simp [intOf]; omega)
      subst hk2
      obtain ⟨b, hb⟩ : ∃ b, b = inB ts (namesOf (L.take j)) := ⟨_, rfl⟩
      rw [← hb] at PI
      have HBB := Lib.hid hb
      clear hb
      cases b
      · have hadd : namesOf (L.take (j + 1)) = namesOf (L.take j) ++ [ts] := by rw [HNX.out]; unfold addN; rw [show (Tr.node 2 tf ta ts tn tks).name = ts from rfl, ← HBB.out]; simp [Tr.kind]
        have HA := Lib.hid hadd
        have hlen : m3 + 1 ≤ 1000000 := by
          have h1 := namesOf_len (L.take (j + 1))
          rw [HA.out, List.length_append, List.length_take] at h1
          have := HM3.out
          simp at h1
          omega
        clear hadd
        go_wp2_with fail
        refine PI.out.mono ?_
        rintro e w5 ⟨rfl, rfl⟩
        clear PI
        have HM4 := HM3
        have HO4 := HO3
        obtain ⟨acc, hacc⟩ : ∃ acc, acc = namesOf (L.take j) := ⟨_, rfl⟩
        rw [← hacc] at HO4 HM4 HA
        clear HO3 HM3 HNX HBB hacc
        obtain rfl : m3 = acc.length := HM4.out
        have H40 := Lib.hid (show acc.length < 1099511627776 by omega)
        clear HM4
        go_wp2_with (at_builtin; refine wpList_pushStr rfl (.tmp 30) (.tmp 36) rfl rfl HO4.out HV.out _ rfl H40.out ?_; intro P9 c9 w9 ho9 hb9; have HO9 := Lib.hid ho9; have HB9 := Lib.hid hb9; clear ho9 hb9)
        go_roundw
        case rel => exact ⟨j + 1, P9, c9, acc.length + 1, by omega, by go_num, rfl, by omega, by rw [HA.out]; exact Lib.hid (by simp), by rw [HA.out]; exact HO9, HB9⟩
        case measure => first | (simp [intOf]; done) | (simp [intOf]; omega)
      · have hadd : namesOf (L.take (j + 1)) = namesOf (L.take j) := by rw [HNX.out]; unfold addN; rw [show (Tr.node 2 tf ta ts tn tks).name = ts from rfl, ← HBB.out]; simp
        have HA := Lib.hid hadd
        clear hadd
        go_wp2_with fail
        refine PI.out.mono ?_
        rintro e w5 ⟨rfl, rfl⟩
        clear PI
        go_wp2_with fail
        go_roundw
        case rel => exact ⟨j + 1, P3, c3, m3, by omega, by go_num, rfl, hm3, by rw [HA.out]; exact HM3, by rw [HA.out]; exact HO3, HV⟩
        case measure => first | (simp [intOf]; done) | (simp [intOf]; omega)
    · have HF := Lib.hid (show OwnStr wo w1.heap.size (.slice P3 m3 c3) (namesOf L) by
        have := HO3.out
        rwa [List.take_of_length_le (by rw [← HN.out]; omega)] at this)
      go_wp2_with fail
      go_ret
      exact ⟨_, rfl, Go.Joins.ownsRow_le HF.out HB1.out.size, HB1.out.trans (HV.out.mono HB1.out.size)⟩
end Go.Proofs.Ytbcnilkenkmabaa.tr
