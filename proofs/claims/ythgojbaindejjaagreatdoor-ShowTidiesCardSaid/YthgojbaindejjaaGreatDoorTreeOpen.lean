/- A tree that came in, opened. A tree that came in, opened, where what came in is of small bulk: the tree's weight is at most the bulk. -/
import Derived.Test.YthgojbaindejjaaGreatDoorTree
import Derived.Deep.Fields
import Derived.OpenShut
/- A tree that came in, opened. -/
namespace Go.Proofs.YthgojbaindejjaaGreatDoor.tr
open Go.ChangeShapes Go.WideShapes Go.ChangeAt Go.RowKit Go.Proofs.YthgojbaindejjaaGreatDoor.mem Go.Deep
set_option linter.unusedVariables false

theorem rdL_build {w : World} {a : Addr} : ∀ (n i : Nat), (∀ j, i ≤ j → j < i + n → ∃ T c0 c1 c2 c3 c4 c5, a.block < w.heap.size ∧ w.cell? (a.add (j * 6)) = some c0 ∧ w.cell? (a.add (j * 6 + 1)) = some c1 ∧ w.cell? (a.add (j * 6 + 2)) = some c2 ∧ w.cell? (a.add (j * 6 + 3)) = some c3 ∧
      w.cell? (a.add (j * 6 + 4)) = some c4 ∧ w.cell? (a.add (j * 6 + 5)) = some c5 ∧ RdT w T (.agg #[c0, c1, c2, c3, c4, c5])) → ∃ ks : List Tr, ks.length = n ∧ RdL w ks (some a) i
  | 0, _, _ => ⟨[], rfl, rdL_nil⟩
  | n + 1, i, h => by
    obtain ⟨T, c0, c1, c2, c3, c4, c5, hb, q0, q1, q2, q3, q4, q5, hT⟩ := h i (Nat.le_refl _) (by omega)
    obtain ⟨ks, hl, hr⟩ := rdL_build n (i + 1) fun j h1 h2 => h j (by omega) (by omega)
    exact ⟨T :: ks, by simp [hl], rdL_cons.2 ⟨⟨a, c0, c1, c2, c3, c4, c5, rfl, hb, q0, q1, q2, q3, q4, q5, hT⟩, hr⟩⟩

theorem six_list {cs : List Value} (h : cs.length = 6) : ∃ c0 c1 c2 c3 c4 c5, cs = [c0, c1, c2, c3, c4, c5] := by
  match cs, h with
  | [c0, c1, c2, c3, c4, c5], _ => exact ⟨c0, c1, c2, c3, c4, c5, rfl⟩

theorem cells25 : Tryz.prog.cellsOf 25 = 6 := by kernel_rfl

theorem bytes25 : Tryz.prog.bytesOf 25 = 88 := by kernel_rfl
theorem bytes2 : Tryz.prog.bytesOf 2 = 8 := by kernel_rfl
/-- What lies in the datum is within the form's reach. -/
def Reach {H : Type} (t : TypeId) (d : DataW H) : Prop := ∀ b ∈ d.weights Tryz.prog t, b ≤ reachBytes
theorem weights_all {H : Type} {P : Program} {e : TypeId} : ∀ {l : List (DataW H)} {d : DataW H}, d ∈ l → ∀ b ∈ d.weights P e, b ∈ DataW.weightsAll P e l
  | x :: r, d, h, b, hb => by
    simp only [DataW.weightsAll, List.mem_append]
    rcases List.mem_cons.1 h with rfl | h
    · exact .inl hb
    · exact .inr (weights_all h b hb)

set_option maxRecDepth 100000 in
theorem trod_tree {H : Type} {enc : TypeId × Value → H} {w : World} {fuel : Nat} {cs : List Value} {x : DataW H × List MemPlace}
    (h : DataW.trod enc Tryz.prog w 0 (fun _ => true) true fuel 25 cs = some x) (hw : Reach 25 x.1) :
    ∃ n k f a s A m c B l d y4 y5, fuel = n + 1 ∧ cs = [.int .i64 k, .int .i64 f, .int .i64 a, .string s, .slice A m c, .slice B l d] ∧ In64 k ∧ In64 f ∧ In64 a ∧ s.size ≤ reachBytes ∧
      DataW.trod enc Tryz.prog w 0 (fun _ => true) true n 22 [.slice A m c] = some y4 ∧ DataW.trod enc Tryz.prog w 0 (fun _ => true) true n 23 [.slice B l d] = some y5 ∧ Reach 22 y4.1 ∧ Reach 23 y5.1 := by
  obtain ⟨xs, n, rfl, rfl, hl, hlen, hf⟩ := DataW.trod_struct Tryz.underlying25 h
  rw [cells25] at hl
  obtain ⟨c0, c1, c2, c3, c4, c5, rfl⟩ := six_list hl
  match xs, hlen with
  | [y0, y1, y2, y3, y4, y5], _ =>
    have f0 := hf 0 _ rfl; have f1 := hf 1 _ rfl; have f2 := hf 2 _ rfl; have f3 := hf 3 _ rfl; have f4 := hf 4 _ rfl; have f5 := hf 5 _ rfl
    have e3 : Tryz.prog.cellsOf 3 = 1 := by kernel_rfl
    have e9 : Tryz.prog.cellsOf 9 = 1 := by kernel_rfl
    have e22 : Tryz.prog.cellsOf 22 = 1 := by kernel_rfl
    have e23 : Tryz.prog.cellsOf 23 = 1 := by kernel_rfl
    simp [e3, e9, e22, e23] at f0 f1 f2 f3 f4 f5
    obtain ⟨k, h0, _, w0⟩ := DataW.trod_int Tryz.underlying3 f0
    obtain ⟨f, h1, _, w1⟩ := DataW.trod_int Tryz.underlying3 f1
    obtain ⟨a, h2, _, w2⟩ := DataW.trod_int Tryz.underlying3 f2
    obtain ⟨s, h3, g3, _⟩ := DataW.trod_string Tryz.underlying9 f3
    obtain ⟨A, m, c, h4⟩ := Go.Joins.slice_form Tryz.underlying22 f4
    obtain ⟨B, l, d, h5⟩ := Go.Joins.slice_form Tryz.underlying23 f5
    simp at h0 h1 h2 h3 h4 h5
    subst h0 h1 h2 h3 h4 h5
    have w3 : s.data.toList.length ≤ reachBytes := hw s.data.toList.length (by
      subst g3
      simp [DataW.weights, DataW.weightsEach, Tryz.underlying25])
    have w4 : Reach 22 y4.1 := fun b hb => hw b (by simp [DataW.weights, DataW.weightsEach, Tryz.underlying25, hb])
    have w5 : Reach 23 y5.1 := fun b hb => hw b (by simp [DataW.weights, DataW.weightsEach, Tryz.underlying25, hb])
    exact ⟨n, k, f, a, s, A, m, c, B, l, d, y4, y5, rfl, rfl, w0, w1, w2, w3, f4, f5, w4, w5⟩

theorem open_nums {H : Type} {enc : TypeId × Value → H} {w : World} {fuel : Nat} {A : Option Addr} {m c : Nat} {x : DataW H × List MemPlace}
    (h : DataW.trod enc Tryz.prog w 0 (fun _ => true) true fuel 22 [.slice A m c] = some x) (hw : Reach 22 x.1) : ∃ ns, Rd w A m ns ∧ m ≤ c ∧ c ≤ 17592186044416 ∧ (A = none → c = 0) ∧ ∀ x ∈ ns, In64 x := by
  rcases open_ints Tryz.underlying22 Tryz.underlying2 (by kernel_rfl) h with ⟨hcs, _⟩ | ⟨a, l, d, zs, hcs, _, hl, hm, hz, rfl, hcell, hwz⟩
  · simp at hcs
    obtain ⟨rfl, rfl, rfl⟩ := hcs
    exact ⟨[], Rd.nil_, Nat.le_refl _, by omega, fun _ => rfl, by simp⟩
  · simp at hcs
    obtain ⟨rfl, rfl, rfl⟩ := hcs
    simp at hz
    have hbig : c * 8 ≤ reachBytes := by
      have := hw _ (by simp only [DataW.weights, Tryz.underlying22]; exact List.mem_cons_self ..)
      rw [bytes2] at this
      simp [lits] at this
      rw [show min m zs.length + (zs.length - m) = c by omega] at this
      exact this
    unfold reachBytes at hbig
    refine ⟨zs.take m, ⟨by rw [List.length_take, hz]; omega, fun k hk => ⟨a, rfl, ?_, ?_⟩⟩, hl, by omega, (by intro h; cases h), fun x hx => hwz x (List.mem_of_mem_take hx)⟩
    · have h1 := World.cells?_block (cells?_one (base := 0) (Nat.zero_le _) (hcell k (by omega))) (by omega)
      rwa [blk_add] at h1
    · rw [hcell k (by omega), List.getD, List.getD, List.getElem?_take, if_pos hk]

theorem open_tree {H : Type} {enc : TypeId × Value → H} {w : World} : ∀ (fuel : Nat) {cs : List Value} {x : DataW H × List MemPlace},
    DataW.trod enc Tryz.prog w 0 (fun _ => true) true fuel 25 cs = some x → Reach 25 x.1 → ∃ T c0 c1 c2 c3 c4 c5, cs = [c0, c1, c2, c3, c4, c5] ∧ RdT w T (.agg #[c0, c1, c2, c3, c4, c5]) := by
  intro fuel
  induction fuel using Nat.strongRecOn with
  | ind fuel ih =>
    intro cs x h hw
    obtain ⟨n, k, f, a, s, A, m, c, B, l, d, y4, y5, rfl, rfl, w0, w1, w2, w3, f4, f5, g4, g5⟩ := trod_tree h hw
    obtain ⟨ns, e1, e2, e3, e4, e5⟩ := open_nums f4 g4
    have key : ∃ ks : List Tr, ks.length = l ∧ RdL w ks B 0 ∧ l ≤ d ∧ d ≤ 17592186044416 ∧ (B = none → d = 0) := by
      rcases DataW.trod_slice Tryz.underlying23 f5 with ⟨hcs, _⟩ | ⟨a, len, cap, elems, rest, n', rfl, hcs, rfl, _, hl, hm, hlen, hel, hsp, _⟩
      · simp at hcs
        obtain ⟨rfl, rfl, rfl⟩ := hcs
        exact ⟨[], rfl, rdL_nil, Nat.le_refl _, by omega, fun _ => rfl⟩
      · simp at hcs
        obtain ⟨rfl, rfl, rfl⟩ := hcs
        have hrl := (hsp rfl).1
        have hbig : d * 88 ≤ reachBytes := by
          have := g5 _ (by simp only [DataW.weights, Tryz.underlying23]; exact List.mem_cons_self ..)
          rw [bytes25, List.length_map, List.length_map] at this
          rw [show elems.length + rest.length = d by omega] at this
          exact this
        unfold reachBytes at hbig
        obtain ⟨ks, q1, q2⟩ := rdL_build (w := w) (a := a) l 0 (fun j _ hj => by
          have hj' : j < elems.length := by omega
          have hb := hel j (by omega)
          rw [List.getElem?_eq_getElem hj', cells25] at hb
          obtain ⟨cs', hc, ht⟩ := Option.bind_eq_some_iff.1 hb
          obtain ⟨T, c0, c1, c2, c3, c4, c5, rfl, hT⟩ := ih n' (by omega) ht (fun b hb => g5 b (by
            simp only [DataW.weights, Tryz.underlying23]
            exact List.mem_cons_of_mem _ (List.mem_append_left _ (weights_all (List.mem_map.2 ⟨_, List.getElem_mem hj', rfl⟩) b hb))))
          have hall := (World.cells?_some hc)
          have hblk := World.cells?_block hc (by omega)
          rw [blk_add] at hblk
          have hat : ∀ q, q < 6 → w.cell? (a.add (j * 6 + q)) = [c0, c1, c2, c3, c4, c5][q]? := fun q hq => by rw [← adr_add]; exact hall.2.2 q hq
          exact ⟨T, c0, c1, c2, c3, c4, c5, hblk, hat 0 (by omega), hat 1 (by omega), hat 2 (by omega), hat 3 (by omega), hat 4 (by omega), hat 5 (by omega), hT⟩)
        exact ⟨ks, q1, q2, hl, by omega, by intro h; cases h⟩
    obtain ⟨ks, q1, q2, q3, q4, q5⟩ := key
    exact ⟨.node k f a s ns ks, _, _, _, _, _, _, rfl, rdT_node.2 ⟨A, m, c, B, l, d, rfl, w0, w1, w2, w3, e1, e2, Nat.le_trans e2 e3, e4, e5, q1, q3, Nat.le_trans q3 q4, q5, q2⟩⟩
end Go.Proofs.YthgojbaindejjaaGreatDoor.tr

/- A tree that came in, opened, where what came in is of small bulk: the tree's weight is at most the bulk. -/
namespace Go.Proofs.YthgojbaindejjaaGreatDoor.tr
open Go.ChangeShapes Go.WideShapes Go.ChangeAt Go.RowKit Go.Proofs.YthgojbaindejjaaGreatDoor.mem Go.Deep
set_option linter.unusedVariables false

mutual
/-- Nodes, numbers and letters of names. -/
def wtT : Tr → Nat | .node _ _ _ s ns ks => 1 + s.size + ns.length + wtL ks
def wtL : List Tr → Nat | [] => 0 | T :: r => wtT T + wtL r
end
theorem wt_node (k f a s ns ks) : wtT (.node k f a s ns ks) = 1 + s.size + ns.length + wtL ks := by simp only [wtT]
theorem wtL_cons (T r) : wtL (T :: r) = wtT T + wtL r := by simp only [wtL]

theorem bulk_one {H : Type} (d : DataW H) : 1 ≤ Rows.uptoBulk d := by
  cases d with
  | lit l => cases l <;> simp [Rows.uptoBulk]
  | _ => simp [Rows.uptoBulk]
theorem bulk_len {H : Type} : ∀ l : List (DataW H), l.length ≤ Rows.uptoBulkAll l
  | [] => by simp
  | x :: r => by
    have := bulk_one x
    have := bulk_len r
    simp only [Rows.uptoBulkAll, List.length_cons]
    omega
theorem bulk_slice {H : Type} (a b : List (DataW H)) : Rows.uptoBulk (.slice a b) = Rows.uptoBulkAll a + Rows.uptoBulkAll b + 1 := by simp only [Rows.uptoBulk]

set_option maxRecDepth 100000 in
theorem trod_tree_bulk {H : Type} {enc : TypeId × Value → H} {w : World} {fuel : Nat} {cs : List Value} {x : DataW H × List MemPlace}
    (h : DataW.trod enc Tryz.prog w 0 (fun _ => true) true fuel 25 cs = some x) :
    ∃ n k f a s A m c B l d y4 y5, fuel = n + 1 ∧ cs = [.int .i64 k, .int .i64 f, .int .i64 a, .string s, .slice A m c, .slice B l d] ∧ In64 k ∧ In64 f ∧ In64 a ∧
      DataW.trod enc Tryz.prog w 0 (fun _ => true) true n 22 [.slice A m c] = some y4 ∧ DataW.trod enc Tryz.prog w 0 (fun _ => true) true n 23 [.slice B l d] = some y5 ∧ 1 + s.size + Rows.uptoBulk y4.1 + Rows.uptoBulk y5.1 ≤ Rows.uptoBulk x.1 := by
  obtain ⟨xs, n, rfl, rfl, hl, hlen, hf⟩ := DataW.trod_struct Tryz.underlying25 h
  rw [cells25] at hl
  obtain ⟨c0, c1, c2, c3, c4, c5, rfl⟩ := six_list hl
  match xs, hlen with
  | [y0, y1, y2, y3, y4, y5], _ =>
    have f0 := hf 0 _ rfl; have f1 := hf 1 _ rfl; have f2 := hf 2 _ rfl; have f3 := hf 3 _ rfl; have f4 := hf 4 _ rfl; have f5 := hf 5 _ rfl
    have e3 : Tryz.prog.cellsOf 3 = 1 := by kernel_rfl
    have e9 : Tryz.prog.cellsOf 9 = 1 := by kernel_rfl
    have e22 : Tryz.prog.cellsOf 22 = 1 := by kernel_rfl
    have e23 : Tryz.prog.cellsOf 23 = 1 := by kernel_rfl
    simp [e3, e9, e22, e23] at f0 f1 f2 f3 f4 f5
    obtain ⟨k, h0, _, w0⟩ := DataW.trod_int Tryz.underlying3 f0
    obtain ⟨f, h1, _, w1⟩ := DataW.trod_int Tryz.underlying3 f1
    obtain ⟨a, h2, _, w2⟩ := DataW.trod_int Tryz.underlying3 f2
    obtain ⟨s, h3, g3, _⟩ := DataW.trod_string Tryz.underlying9 f3
    obtain ⟨A, m, c, h4⟩ := Go.Joins.slice_form Tryz.underlying22 f4
    obtain ⟨B, l, d, h5⟩ := Go.Joins.slice_form Tryz.underlying23 f5
    simp at h0 h1 h2 h3 h4 h5
    subst h0 h1 h2 h3 h4 h5
    refine ⟨n, k, f, a, s, A, m, c, B, l, d, y4, y5, rfl, rfl, w0, w1, w2, f4, f5, ?_⟩
    subst g3
    have hz : s.data.toList.length = s.size := by rw [Array.length_toList]; rfl
    simp only [List.map_cons, List.map_nil, Rows.uptoBulk, Rows.uptoBulkAll, hz]
    omega

theorem open_nums_bulk {H : Type} {enc : TypeId × Value → H} {w : World} {fuel : Nat} {A : Option Addr} {m c : Nat} {x : DataW H × List MemPlace}
    (h : DataW.trod enc Tryz.prog w 0 (fun _ => true) true fuel 22 [.slice A m c] = some x) : ∃ ns, Rd w A m ns ∧ m ≤ c ∧ c ≤ Rows.uptoBulk x.1 ∧ (A = none → c = 0) ∧ ∀ x ∈ ns, In64 x := by
  rcases open_ints Tryz.underlying22 Tryz.underlying2 (by kernel_rfl) h with ⟨hcs, _⟩ | ⟨a, l, d, zs, hcs, _, hl, hm, hz, rfl, hcell, hwz⟩
  · simp at hcs
    obtain ⟨rfl, rfl, rfl⟩ := hcs
    exact ⟨[], Rd.nil_, Nat.le_refl _, by omega, fun _ => rfl, by simp⟩
  · simp at hcs
    obtain ⟨rfl, rfl, rfl⟩ := hcs
    simp at hz
    have hbig : c ≤ Rows.uptoBulk (H := H) (DataW.slice (lits .i64 (zs.take m)) (lits .i64 (zs.drop m))) := by
      have h1 := bulk_len (H := H) (lits .i64 (zs.take m))
      have h2 := bulk_len (H := H) (lits .i64 (zs.drop m))
      rw [bulk_slice]
      simp [lits] at h1 h2
      simp [lits]
      omega
    refine ⟨zs.take m, ⟨by rw [List.length_take, hz]; omega, fun k hk => ⟨a, rfl, ?_, ?_⟩⟩, hl, hbig, (by intro h; cases h), fun x hx => hwz x (List.mem_of_mem_take hx)⟩
    · have h1 := World.cells?_block (cells?_one (base := 0) (Nat.zero_le _) (hcell k (by omega))) (by omega)
      rwa [blk_add] at h1
    · rw [hcell k (by omega), List.getD, List.getD, List.getElem?_take, if_pos hk]

theorem rdL_bulk {H : Type} {w : World} {a : Addr} : ∀ (es : List (DataW H × List MemPlace)) (i : Nat), (∀ j e, es[j]? = some e → ∃ T c0 c1 c2 c3 c4 c5, a.block < w.heap.size ∧ w.cell? (a.add ((i + j) * 6)) = some c0 ∧ w.cell? (a.add ((i + j) * 6 + 1)) = some c1 ∧ w.cell? (a.add ((i + j) * 6 + 2)) = some c2 ∧ w.cell? (a.add ((i + j) * 6 + 3)) = some c3 ∧
      w.cell? (a.add ((i + j) * 6 + 4)) = some c4 ∧ w.cell? (a.add ((i + j) * 6 + 5)) = some c5 ∧ RdT w T (.agg #[c0, c1, c2, c3, c4, c5]) ∧ wtT T ≤ Rows.uptoBulk e.1) → ∃ ks : List Tr, ks.length = es.length ∧ RdL w ks (some a) i ∧ wtL ks ≤ Rows.uptoBulkAll (es.map Prod.fst)
  | [], _, _ => ⟨[], rfl, rdL_nil, by simp [wtL]⟩
  | e :: r, i, h => by
    obtain ⟨T, c0, c1, c2, c3, c4, c5, hb, q0, q1, q2, q3, q4, q5, hT, hw⟩ := h 0 e rfl
    obtain ⟨ks, hl, hr, hk⟩ := rdL_bulk r (i + 1) fun j e' he => by
      have := h (j + 1) e' (by simpa using he)
      rwa [show i + (j + 1) = i + 1 + j by omega] at this
    rw [Nat.add_zero] at q0 q1 q2 q3 q4 q5
    refine ⟨T :: ks, by simp [hl], rdL_cons.2 ⟨⟨a, c0, c1, c2, c3, c4, c5, rfl, hb, q0, q1, q2, q3, q4, q5, hT⟩, hr⟩, ?_⟩
    rw [wtL_cons]
    simp only [List.map_cons, Rows.uptoBulkAll]
    omega

theorem open_tree_bulk {H : Type} {enc : TypeId × Value → H} {w : World} : ∀ (fuel : Nat) {cs : List Value} {x : DataW H × List MemPlace},
    DataW.trod enc Tryz.prog w 0 (fun _ => true) true fuel 25 cs = some x → Rows.uptoBulk x.1 ≤ 1048576 → ∃ T c0 c1 c2 c3 c4 c5, cs = [c0, c1, c2, c3, c4, c5] ∧ RdT w T (.agg #[c0, c1, c2, c3, c4, c5]) ∧ wtT T ≤ Rows.uptoBulk x.1 := by
  intro fuel
  induction fuel using Nat.strongRecOn with
  | ind fuel ih =>
    intro cs x h hw
    obtain ⟨n, k, f, a, s, A, m, c, B, l, d, y4, y5, rfl, rfl, w0, w1, w2, f4, f5, hsum⟩ := trod_tree_bulk h
    obtain ⟨ns, e1, e2, e3, e4, e5⟩ := open_nums_bulk f4
    have key : ∃ ks : List Tr, ks.length = l ∧ RdL w ks B 0 ∧ l ≤ d ∧ d ≤ 17592186044416 ∧ (B = none → d = 0) ∧ wtL ks ≤ Rows.uptoBulk y5.1 := by
      rcases DataW.trod_slice Tryz.underlying23 f5 with ⟨hcs, _⟩ | ⟨a, len, cap, elems, rest, n', rfl, hcs, rfl, _, hl, hm, hlen, hel, hsp, _⟩
      · simp at hcs
        obtain ⟨rfl, rfl, rfl⟩ := hcs
        exact ⟨[], rfl, rdL_nil, Nat.le_refl _, by omega, fun _ => rfl, by simp [wtL]⟩
      · simp at hcs
        obtain ⟨rfl, rfl, rfl⟩ := hcs
        have hrl := (hsp rfl).1
        have h1 := bulk_len (elems.map Prod.fst)
        have h2 := bulk_len (rest.map Prod.fst)
        have h3 : Rows.uptoBulk (DataW.slice (elems.map (fun x => x.fst)) (rest.map (fun x => x.fst))) = Rows.uptoBulkAll (elems.map Prod.fst) + Rows.uptoBulkAll (rest.map Prod.fst) + 1 := bulk_slice _ _
        simp only [List.length_map] at h1 h2
        simp only [] at hsum
        obtain ⟨ks, q1, q2, q3⟩ := rdL_bulk (w := w) (a := a) elems 0 (fun j e he => by
          obtain ⟨hj', rfl⟩ := List.getElem?_eq_some_iff.1 he
          have hb := hel j (by omega)
          rw [List.getElem?_eq_getElem hj', cells25] at hb
          obtain ⟨cs', hc, ht⟩ := Option.bind_eq_some_iff.1 hb
          have hpart : ∀ (l : List (DataW H × List MemPlace)) (j : Nat) (hj : j < l.length), Rows.uptoBulk (l[j]).1 ≤ Rows.uptoBulkAll (l.map Prod.fst) := by
            intro l
            induction l with
            | nil => intro j hj; simp at hj
            | cons y r ihr =>
              intro j hj
              simp only [List.map_cons, Rows.uptoBulkAll]
              cases j with
              | zero => simp
              | succ j => have := ihr j (by simpa using hj); simp only [List.getElem_cons_succ]; omega
          have hp := hpart elems j hj'
          obtain ⟨T, c0, c1, c2, c3, c4, c5, rfl, hT, hwT⟩ := ih n' (by omega) ht (by omega)
          have hall := (World.cells?_some hc)
          have hblk := World.cells?_block hc (by omega)
          rw [blk_add] at hblk
          have hat : ∀ q, q < 6 → w.cell? (a.add (j * 6 + q)) = [c0, c1, c2, c3, c4, c5][q]? := fun q hq => by rw [← adr_add]; exact hall.2.2 q hq
          rw [Nat.zero_add]
          exact ⟨T, c0, c1, c2, c3, c4, c5, hblk, hat 0 (by omega), hat 1 (by omega), hat 2 (by omega), hat 3 (by omega), hat 4 (by omega), hat 5 (by omega), hT, hwT⟩)
        exact ⟨ks, by omega, q2, hl, by omega, (by intro h; cases h), by simp only []; omega⟩
    obtain ⟨ks, q1, q2, q3, q4, q5, q6⟩ := key
    refine ⟨.node k f a s ns ks, _, _, _, _, _, _, rfl, rdT_node.2 ⟨A, m, c, B, l, d, rfl, w0, w1, w2, by unfold reachBytes; omega, e1, e2, by omega, e4, e5, q1, q3, Nat.le_trans q3 q4, q5, q2⟩, ?_⟩
    rw [wt_node]
    have := e1.1
    omega
end Go.Proofs.YthgojbaindejjaaGreatDoor.tr
