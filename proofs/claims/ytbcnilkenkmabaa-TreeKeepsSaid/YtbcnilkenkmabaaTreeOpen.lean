/- A tree that came in, opened. -/
import Derived.Test.YtbcnilkenkmabaaTree
import Derived.Deep.Fields
import Derived.OpenShut
namespace Go.Proofs.Ytbcnilkenkmabaa.tr
open Go.ChangeShapes Go.WideShapes Go.ChangeAt Go.RowKit Go.Proofs.Ytbcnilkenkmabaa.mem Go.Deep
set_option linter.unusedVariables false

theorem rdL_build {w : World} {a : Addr} : ∀ (n i : Nat), (∀ j, i ≤ j → j < i + n → ∃ T c0 c1 c2 c3 c4 c5, a.block < w.heap.size ∧ w.cell? (a.add (j * 6)) = some c0 ∧ w.cell? (a.add (j * 6 + 1)) = some c1 ∧ w.cell? (a.add (j * 6 + 2)) = some c2 ∧ w.cell? (a.add (j * 6 + 3)) = some c3 ∧
      w.cell? (a.add (j * 6 + 4)) = some c4 ∧ w.cell? (a.add (j * 6 + 5)) = some c5 ∧ RdT w T (.agg #[c0, c1, c2, c3, c4, c5])) → ∃ ks : List Tr, ks.length = n ∧ RdL w ks (some a) i
  | 0, _, _ => ⟨[], rfl, rdL_nil⟩
  | n + 1, i, h => by
    obtain ⟨T, c0, c1, c2, c3, c4, c5, hb, q0, q1, q2, q3, q4, q5, hT⟩ := h i (Nat.le_refl _) (by omega)
    obtain ⟨ks, hl, hr⟩ := rdL_build n (i + 1) fun j h1 h2 => h j (by omega) (by omega)
    exact ⟨T :: ks, by simp [hl], rdL_cons.2 ⟨⟨a, c0, c1, c2, c3, c4, c5, rfl, hb, q0, q1, q2, q3, q4, q5, hT⟩, hr⟩⟩

theorem six_list {cs : List Value} (h : cs.length = 6) : ∃ c0 c1 c2 c3 c4 c5, cs = [c0, c1, c2, c3, c4, c5] := by
  match cs, h with
  | [c0, c1, c2, c3, c4, c5], _ => exact ⟨c0, c1, c2, c3, c4, c5, rfl⟩

theorem cells25 : Try.prog.cellsOf 25 = 6 := by kernel_rfl

theorem bytes25 : Try.prog.bytesOf 25 = 88 := by kernel_rfl
theorem bytes2 : Try.prog.bytesOf 2 = 8 := by kernel_rfl
/-- What lies in the datum is within the form's reach. -/
def Reach {H : Type} (t : TypeId) (d : DataW H) : Prop := ∀ b ∈ d.weights Try.prog t, b ≤ reachBytes
theorem weights_all {H : Type} {P : Program} {e : TypeId} : ∀ {l : List (DataW H)} {d : DataW H}, d ∈ l → ∀ b ∈ d.weights P e, b ∈ DataW.weightsAll P e l
  | x :: r, d, h, b, hb => by
    simp only [DataW.weightsAll, List.mem_append]
    rcases List.mem_cons.1 h with rfl | h
    · exact .inl hb
    · exact .inr (weights_all h b hb)

theorem trod_tree {H : Type} {enc : TypeId × Value → H} {w : World} {fuel : Nat} {cs : List Value} {x : DataW H × List MemPlace}
    (h : DataW.trod enc Try.prog w 0 (fun _ => true) true fuel 25 cs = some x) (hw : Reach 25 x.1) :
    ∃ n k f a s A m c B l d y4 y5, fuel = n + 1 ∧ cs = [.int .i64 k, .int .i64 f, .int .i64 a, .string s, .slice A m c, .slice B l d] ∧ In64 k ∧ In64 f ∧ In64 a ∧ s.size ≤ reachBytes ∧
      DataW.trod enc Try.prog w 0 (fun _ => true) true n 22 [.slice A m c] = some y4 ∧ DataW.trod enc Try.prog w 0 (fun _ => true) true n 23 [.slice B l d] = some y5 ∧ Reach 22 y4.1 ∧ Reach 23 y5.1 := by
  obtain ⟨xs, n, rfl, rfl, hl, hlen, hf⟩ := DataW.trod_struct Try.underlying25 h
  rw [cells25] at hl
  obtain ⟨c0, c1, c2, c3, c4, c5, rfl⟩ := six_list hl
  match xs, hlen with
  | [y0, y1, y2, y3, y4, y5], _ =>
    have f0 := hf 0 _ rfl; have f1 := hf 1 _ rfl; have f2 := hf 2 _ rfl; have f3 := hf 3 _ rfl; have f4 := hf 4 _ rfl; have f5 := hf 5 _ rfl
    have e3 : Try.prog.cellsOf 3 = 1 := by kernel_rfl
    have e9 : Try.prog.cellsOf 9 = 1 := by kernel_rfl
    have e22 : Try.prog.cellsOf 22 = 1 := by kernel_rfl
    have e23 : Try.prog.cellsOf 23 = 1 := by kernel_rfl
    simp [e3, e9, e22, e23] at f0 f1 f2 f3 f4 f5
    obtain ⟨k, h0, _, w0⟩ := DataW.trod_int Try.underlying3 f0
    obtain ⟨f, h1, _, w1⟩ := DataW.trod_int Try.underlying3 f1
    obtain ⟨a, h2, _, w2⟩ := DataW.trod_int Try.underlying3 f2
    obtain ⟨s, h3, g3, _⟩ := DataW.trod_string Try.underlying9 f3
    obtain ⟨A, m, c, h4⟩ := Go.Joins.slice_form Try.underlying22 f4
    obtain ⟨B, l, d, h5⟩ := Go.Joins.slice_form Try.underlying23 f5
    simp at h0 h1 h2 h3 h4 h5
    subst h0 h1 h2 h3 h4 h5
    have w3 : s.data.toList.length ≤ reachBytes := hw s.data.toList.length (by
      subst g3
      simp [DataW.weights, DataW.weightsEach, Try.underlying25])
    have w4 : Reach 22 y4.1 := fun b hb => hw b (by simp [DataW.weights, DataW.weightsEach, Try.underlying25, hb])
    have w5 : Reach 23 y5.1 := fun b hb => hw b (by simp [DataW.weights, DataW.weightsEach, Try.underlying25, hb])
    exact ⟨n, k, f, a, s, A, m, c, B, l, d, y4, y5, rfl, rfl, w0, w1, w2, w3, f4, f5, w4, w5⟩

theorem open_nums {H : Type} {enc : TypeId × Value → H} {w : World} {fuel : Nat} {A : Option Addr} {m c : Nat} {x : DataW H × List MemPlace}
    (h : DataW.trod enc Try.prog w 0 (fun _ => true) true fuel 22 [.slice A m c] = some x) (hw : Reach 22 x.1) : ∃ ns, Rd w A m ns ∧ m ≤ c ∧ c ≤ 17592186044416 ∧ (A = none → c = 0) ∧ ∀ x ∈ ns, In64 x := by
  rcases open_ints Try.underlying22 Try.underlying2 (by kernel_rfl) h with ⟨hcs, _⟩ | ⟨a, l, d, zs, hcs, _, hl, hm, hz, rfl, hcell, hwz⟩
  · simp at hcs
    obtain ⟨rfl, rfl, rfl⟩ := hcs
    exact ⟨[], Rd.nil_, Nat.le_refl _, by omega, fun _ => rfl, by simp⟩
  · simp at hcs
    obtain ⟨rfl, rfl, rfl⟩ := hcs
    simp at hz
    have hbig : c * 8 ≤ reachBytes := by
      have := hw _ (by simp only [DataW.weights, Try.underlying22]; exact List.mem_cons_self ..)
      rw [bytes2] at this
      simp [lits] at this
      rw [show min m zs.length + (zs.length - m) = c by omega] at this
      exact this
    unfold reachBytes at hbig
    refine ⟨zs.take m, ⟨by rw [List.length_take, hz]; omega, fun k hk => ⟨a, rfl, ?_, ?_⟩⟩, hl, by omega, (by intro h; cases h), fun x hx => hwz x (List.mem_of_mem_take hx)⟩
    · have h1 := World.cells?_block (cells?_one (base := 0) (Nat.zero_le _) (hcell k (by omega))) (by omega)
      rwa [blk_add] at h1
    · rw [hcell k (by omega), List.getD, List.getD, List.getElem?_take, if_pos hk]

theorem open_tree {H : Type} {enc : TypeId × Value → H} {w : World} : ∀ (fuel : Nat) {cs : List Value} {x : DataW H × List MemPlace},
    DataW.trod enc Try.prog w 0 (fun _ => true) true fuel 25 cs = some x → Reach 25 x.1 → ∃ T c0 c1 c2 c3 c4 c5, cs = [c0, c1, c2, c3, c4, c5] ∧ RdT w T (.agg #[c0, c1, c2, c3, c4, c5]) := by
  intro fuel
  induction fuel using Nat.strongRecOn with
  | ind fuel ih =>
    intro cs x h hw
    obtain ⟨n, k, f, a, s, A, m, c, B, l, d, y4, y5, rfl, rfl, w0, w1, w2, w3, f4, f5, g4, g5⟩ := trod_tree h hw
    obtain ⟨ns, e1, e2, e3, e4, e5⟩ := open_nums f4 g4
    have key : ∃ ks : List Tr, ks.length = l ∧ RdL w ks B 0 ∧ l ≤ d ∧ d ≤ 17592186044416 ∧ (B = none → d = 0) := by
      rcases DataW.trod_slice Try.underlying23 f5 with ⟨hcs, _⟩ | ⟨a, len, cap, elems, rest, n', rfl, hcs, rfl, _, hl, hm, hlen, hel, hsp, _⟩
      · simp at hcs
        obtain ⟨rfl, rfl, rfl⟩ := hcs
        exact ⟨[], rfl, rdL_nil, Nat.le_refl _, by omega, fun _ => rfl⟩
      · simp at hcs
        obtain ⟨rfl, rfl, rfl⟩ := hcs
        have hrl := (hsp rfl).1
        have hbig : d * 88 ≤ reachBytes := by
          have := g5 _ (by simp only [DataW.weights, Try.underlying23]; exact List.mem_cons_self ..)
          rw [bytes25, List.length_map, List.length_map] at this
          rw [show elems.length + rest.length = d by omega] at this
          exact this
        unfold reachBytes at hbig
        obtain ⟨ks, q1, q2⟩ := rdL_build (w := w) (a := a) l 0 (fun j _ hj => by
          have hj' : j < elems.length := by omega
          have hb := hel j (by omega)
          rw [List.getElem?_eq_getElem hj', cells25] at hb
          obtain ⟨cs', hc, ht⟩ := Option.bind_eq_some_iff.1 hb
          obtain ⟨T, c0, c1, c2, c3, c4, c5, rfl, hT⟩ := ih n' (by omega) ht (fun b hb => g5 b (by
            simp only [DataW.weights, Try.underlying23]
            exact List.mem_cons_of_mem _ (List.mem_append_left _ (weights_all (List.mem_map.2 ⟨_, List.getElem_mem hj', rfl⟩) b hb))))
          have hall := (World.cells?_some hc)
          have hblk := World.cells?_block hc (by omega)
          rw [blk_add] at hblk
          have hat : ∀ q, q < 6 → w.cell? (a.add (j * 6 + q)) = [c0, c1, c2, c3, c4, c5][q]? := fun q hq => by rw [← adr_add]; exact hall.2.2 q hq
          exact ⟨T, c0, c1, c2, c3, c4, c5, hblk, hat 0 (by omega), hat 1 (by omega), hat 2 (by omega), hat 3 (by omega), hat 4 (by omega), hat 5 (by omega), hT⟩)
        exact ⟨ks, q1, q2, hl, by omega, by intro h; cases h⟩
    obtain ⟨ks, q1, q2, q3, q4, q5⟩ := key
    exact ⟨.node k f a s ns ks, _, _, _, _, _, _, rfl, rdT_node.2 ⟨A, m, c, B, l, d, rfl, w0, w1, w2, w3, e1, e2, Nat.le_trans e2 e3, e4, e5, q1, q3, Nat.le_trans q3 q4, q5, q2⟩⟩
end Go.Proofs.Ytbcnilkenkmabaa.tr
