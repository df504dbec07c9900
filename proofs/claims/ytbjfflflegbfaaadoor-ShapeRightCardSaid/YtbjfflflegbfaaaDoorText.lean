/- shape.Text and the reference's Text: the dimensions in decimal, separated by single spaces. -/
import Derived.Test.YtbjfflflegbfaaaDoorDecimal
import Derived.Test.YtbjfflflegbfaaaDoorIn
import Derived.Test.YtbjfflflegbfaaaDoorShelfS
import Derived.Lib.QuietBelow
namespace Go.Proofs.YtbjfflflegbfaaaDoor.txt
open Go.ChangeShapes Go.WideShapes Go.ChangeAt Go.RowKit Go.Proofs.YtbjfflflegbfaaaDoor.mem
set_option linter.unusedVariables false

def textL (xs : List Int) : List UInt8 := Lib.join (xs.map Lib.itoa) [32]

theorem join_snoc (l : List (List UInt8)) (y sep : List UInt8) : Lib.join (l ++ [y]) sep = (if l = [] then y else Lib.join l sep ++ sep ++ y) := by
  cases l with
  | nil => simp [Lib.join_one]
  | cons x r =>
    rw [List.cons_append, Lib.join_cons, Lib.join_cons]
    simp [Lib.joinTail]
theorem text_first {xs : List Int} {x : Int} (h : xs[0]? = some x) : textL (xs.take 1) = textL (xs.take 0) ++ Lib.itoa x := by
  have := take_snoc h
  rw [this]
  simp [textL, Lib.join_one, Lib.join_nil]
theorem text_next {xs : List Int} {k : Nat} {x : Int} (h : xs[k]? = some x) (hk : 0 < k) : textL (xs.take (k + 1)) = textL (xs.take k) ++ [32] ++ Lib.itoa x := by
  rw [take_snoc h]
  unfold textL
  rw [List.map_append, List.map_cons, List.map_nil, join_snoc, if_neg]
  obtain ⟨hl, _⟩ := List.getElem?_eq_some_iff.1 h
  intro e
  have := congrArg List.length e
  rw [List.length_map, List.length_take, List.length_nil] at this
  omega
theorem fit_len {xs : List Int} (h : Fit xs) {x : Int} (hx : x ∈ xs) : (Lib.itoa x).length ≤ 21 := Lib.itoa_length_le x (h x hx).1 (h x hx).2
theorem text_len {xs : List Int} (h : Fit xs) : ∀ k, (textL (xs.take k)).length ≤ 22 * k
  | 0 => by simp [textL, Lib.join_nil]
  | k + 1 => by
    have ih := text_len h k
    by_cases hk : k < xs.length
    · have hx : xs[k]? = some xs[k] := List.getElem?_eq_getElem hk
      have hl := fit_len h (mem_at hx)
      rcases Nat.eq_zero_or_pos k with rfl | h0
      · rw [text_first hx, List.length_append]; omega
      · rw [text_next hx h0]; simp only [List.length_append, List.length_cons, List.length_nil]; omega
    · rw [List.take_of_length_le (by omega)]
      rw [List.take_of_length_le (by omega)] at ih
      omega
theorem text_all {xs : List Int} (h : Fit xs) : (textL xs).length ≤ 22 * xs.length := by
  have := text_len h xs.length
  rwa [List.take_length] at this

set_option maxHeartbeats 1000000 in
theorem refText_any (A : Option Addr) (n c : Nat) (xs : List Int) (w : World) (hn : n ≤ 1000000) (hf : Fit xs) (hx : Rd w A n xs) :
    Calls Tryd.prog 17 #[.slice A n c] w fun e w' => e = .returned (.string (strOf (textL xs))) ∧ w = w' := by
  have HX := Lib.hid hx; clear hx
  have HF := Lib.hid hf; clear hf
  obtain ⟨T, hT⟩ : ∃ T, T = strOf (textL xs) := ⟨_, rfl⟩
  rw [← hT]
  have HT := Lib.hid hT; clear hT
  go_enter Tryd.func17, Tryd.ntmps17
  go_wp2_with fail
  go_loop [3, 4] (fun s i => ∃ k : Nat, k ≤ n ∧ i = .int .i64 k ∧ ∃ l : List UInt8, s = .string (strOf l) ∧ Hid (l = textL (xs.take k))) (fun _ i => n - (intOf i).toNat)
  case atStart => exact ⟨0, Nat.zero_le _, rfl, [], rfl, Lib.hid (by simp [textL, Lib.join_nil])⟩
  case round =>
    obtain ⟨k, hk, rfl, l, rfl, Hl⟩ := hrel
    by_cases hlt : k < n
    · obtain ⟨ad, x, rfl, hx, hcell⟩ := HX.out.at_ hlt
      have hb := HF.out x (mem_at hx)
      have D := Lib.hid (decimal_any x hb.1 hb.2 w)
      have hll : l.length ≤ 22 * k := by rw [Hl.out]; exact text_len HF.out k
      have hil := fit_len HF.out (mem_at hx)
      rcases Nat.eq_zero_or_pos k with rfl | h0
      · have HN := Lib.hid (text_first hx)
        have hcell0 : w.cell? ad = some (.int .i64 x) := by
          have e : ad.add 0 = ad := by unfold Addr.add; simp
          rwa [e] at hcell
        have hcat := cat_run l (Lib.itoa x) (by omega)
        clear hx hll hil hb
        go_wp2_with fail
        refine D.out.mono ?_
        rintro e w' ⟨rfl, rfl⟩
        go_wp2_with fail
        go_round
        case rel => exact ⟨1, by omega, by go_num, _, rfl, Lib.hid (by rw [HN.out, Hl.out])⟩
        case measure => first | (simp [intOf]; done) | (simp [intOf]; omega)
      · have HN := Lib.hid (text_next hx h0)
        have hcat1 : ∀ W, (Op.stringOp .add (strOf l) ⟨#[32]⟩).run Tryd.prog W = .ok (.string (strOf (l ++ [32]))) W := cat_run l [32] (by simp only [List.length_cons, List.length_nil]; omega)
        have hcat2 := cat_run (l ++ [32]) (Lib.itoa x) (by rw [List.length_append]; simp only [List.length_cons, List.length_nil]; omega)
        clear hx hll hil hb
        go_wp2_with fail
        refine D.out.mono ?_
        rintro e w' ⟨rfl, rfl⟩
        go_wp2_with fail
        go_round
        case rel => exact ⟨k + 1, by omega, by go_num, _, rfl, Lib.hid (by rw [HN.out, ← Hl.out]; simp)⟩
        case measure => first | (simp [intOf]; done) | (simp [intOf]; omega)
    · go_wp2_with fail
      go_ret
      exact ⟨ret_str (by rw [HT.out, Hl.out, List.take_of_length_le (by rw [HX.out.1]; omega)]), rfl⟩

/-! ### A row of strings of the call's own -/
theorem str_info : (Tryd.prog.info? 9).map (fun i => (i.zero, i.size, i.bytes)) = some (some (.string ⟨#[]⟩), 1, 16) := by kernel_rfl
def OwnS (w : World) (B : Nat) (v : Value) (ss : List ByteArray) : Prop := w.ownsRow B 9 1 v ss.length (ss.map Value.string)
theorem wpList_blanks {w : World} {ops : Array Oper} {rest : List Oper} {o : Oper} {a : Act} {Q : Exit → Act → World → Prop} (hgd : o.guard = none) (l c : Operand) (ho : o.op = Op.makeSlice 42 l c)
    (n : Nat) (hl : a.eval l = .int .i64 (n : Int)) (hc : a.eval c = .int .i64 (n : Int)) (h40 : n ≤ 1099511627776)
    (h : ∀ w', OwnS w' w.heap.size (.slice (some ⟨w.heap.size, 0, none⟩) n n) (List.replicate n ⟨#[]⟩) → Below w.heap.size w w' → wpList Tryd.prog ops Q rest (a.put o.dst (.slice (some ⟨w.heap.size, 0, none⟩) n n)) w') : wpList Tryd.prog ops Q (o :: rest) a w := by
  obtain ⟨i0, hi0, hz0, hz1, hz2⟩ := info_parts str_info
  refine wpList_make_full w hgd l c 42 ho w.heap.size 9 i0 _ 1 Tryd.underlying42 hi0 hz0 hz1 .i64 .i64 n n n hl hc rfl rfl (by rw [hz2]; omega) (by unfold maxLen; omega) (Nat.le_refl _) fun w' h1 h2 => h w' ?_ ((Below.refl _ _).grown h2 (Nat.le_refl _) (fun k hk => by cases hk))
  unfold OwnS
  rw [List.length_replicate, List.map_replicate, ← toList_madeCells_one]
  have e : Value.cells (.string ⟨#[]⟩) = #[.string ⟨#[]⟩] := rfl
  rw [e] at h1
  simpa using h1
theorem OwnS.len {w : World} {B g n c : Nat} {ss : List ByteArray} (h : OwnS w B (.slice (some ⟨g, 0, none⟩) n c) ss) : n = ss.length := by
  rcases h.2 with ⟨e, _⟩ | ⟨g', cap, cur, e, _⟩
  · cases e
  · injection e
theorem OwnS.cellAt {w : World} {B g n c j : Nat} {s : ByteArray} {ss : List ByteArray} (h : OwnS w B (.slice (some ⟨g, 0, none⟩) n c) ss) (hy : ss[j]? = some s) : w.cell? ⟨g, j, none⟩ = some (.string s) := by
  have hl := h.len
  subst hl
  have := World.ownsRow.cells h (g := g) rfl j (.string s) (by rw [List.getElem?_map, hy]; rfl)
  rwa [add_at] at this
theorem OwnS.frozenAt {w : World} {B g n c : Nat} {ss : List ByteArray} (h : OwnS w B (.slice (some ⟨g, 0, none⟩) n c) ss) (j : Nat) : w.frozen? ⟨g, j, none⟩ = false := by
  have hl := h.len
  subst hl
  exact World.ownsRow.frozenAt h j
theorem OwnS.set_ {w : World} {B g n c : Nat} {ss : List ByteArray} (h : OwnS w B (.slice (some ⟨g, 0, none⟩) n c) ss) (j : Nat) (s : ByteArray) : OwnS (w.setCell ⟨g, j, none⟩ (.string s)) B (.slice (some ⟨g, 0, none⟩) n c) (ss.set j s) := by
  have hl := h.len
  subst hl
  have := (World.ownsRow.stored h j (.string s)).1
  unfold OwnS
  rw [List.length_set, List.map_set]
  exact this
theorem OwnS.lt {w : World} {B g n c : Nat} {ss : List ByteArray} (h : OwnS w B (.slice (some ⟨g, 0, none⟩) n c) ss) : g < w.heap.size := (World.ownsRow.lt h g rfl).2
theorem OwnS.below {w w' : World} {B : Nat} {v : Value} {ss : List ByteArray} (h : OwnS w B v ss) (hb : Below w.heap.size w w') : OwnS w' B v ss :=
  World.ownsRow.kept (row := none) h ⟨hb.os, hb.tape, hb.output, hb.size, fun k hk _ => hb.block k hk⟩ (by cases hv : v.ownBlock <;> simp)

/-- What Itoa answers. -/
def Digits (w : World) (x : Int) (e : Ending) (w' : World) : Prop := e = .returned (.string (strOf (Lib.itoa x))) ∧ Below w.heap.size w w'
theorem set_next {xs : List Int} {k n : Nat} {x : Int} (h : xs[k]? = some x) (hn : xs.length = n) : ((xs.take k).map (fun x => strOf (Lib.itoa x)) ++ List.replicate (n - k) (⟨#[]⟩ : ByteArray)).set k (strOf (Lib.itoa x)) = (xs.take (k + 1)).map (fun x => strOf (Lib.itoa x)) ++ List.replicate (n - (k + 1)) (⟨#[]⟩ : ByteArray) := by
  obtain ⟨hk, _⟩ := List.getElem?_eq_some_iff.1 h
  rw [List.set_append_right _ _ (by simp; omega), take_snoc h, show n - k = (n - (k + 1)) + 1 from by omega, List.replicate_succ]
  simp [Nat.min_eq_left (Nat.le_of_lt hk)]
theorem row_at {xs : List Int} {k n : Nat} (hk : k < n) (hn : xs.length = n) : ((xs.take k).map (fun x => strOf (Lib.itoa x)) ++ List.replicate (n - k) (⟨#[]⟩ : ByteArray))[k]? = some ⟨#[]⟩ := by
  rw [List.getElem?_append_right (by rw [List.length_map, List.length_take]; omega), List.getElem?_replicate, if_pos (by rw [List.length_map, List.length_take]; omega)]

set_option maxHeartbeats 1000000 in
theorem text_with (A : Option Addr) (n c : Nat) (xs : List Int) (w : World) (hn : n ≤ 1000000) (hf : Fit xs) (hx : Rd w A n xs)
    (hI : ∀ x ∈ xs, ∀ W, Below w.heap.size w W → Calls Tryd.prog 26 #[.int .i64 x] W (Digits W x)) :
    Calls Tryd.prog 16 #[.slice A n c] w fun e w' => e = .returned (.string (strOf (textL xs))) ∧ Below w.heap.size w w' := by
  have HX := Lib.hid hx; clear hx
  have HF := Lib.hid hf; clear hf
  have HI := Lib.hid hI; clear hI
  obtain ⟨T, hT⟩ : ∃ T, T = strOf (textL xs) := ⟨_, rfl⟩
  rw [← hT]
  have HT := Lib.hid hT; clear hT
  go_enter Tryd.func16, Tryd.ntmps16
  go_wp2_with (at_make; refine wpList_blanks rfl _ _ rfl n rfl rfl (by omega) ?_; intro w1 ho hb)
  go_loopw [11] (fun i wr => ∃ k : Nat, k ≤ n ∧ i = .int .i64 k ∧ OwnS wr w.heap.size (.slice (some ⟨w.heap.size, 0, none⟩) n n) ((xs.take k).map (fun x => strOf (Lib.itoa x)) ++ List.replicate (n - k) ⟨#[]⟩) ∧ Below w.heap.size w wr) (fun i _ => n - (intOf i).toNat)
  case atStart => exact ⟨0, Nat.zero_le _, rfl, by simpa using ho, hb⟩
  case round =>
    obtain ⟨k, hk, rfl, hown, hbel⟩ := hrel
    by_cases hlt : k < n
    · obtain ⟨ad, x, rfl, hx, hcell⟩ := (HX.out.below hbel).at_ hlt
      have HI1 := Lib.hid (HI.out x (mem_at hx) wr hbel)
      have HXX := Lib.hid hx; clear hx
      go_wp2_with fail
      refine HI1.out.mono ?_
      rintro e w2 ⟨rfl, hb2⟩
      have hown2 := hown.below hb2
      have hbel2 := hbel.trans (hb2.mono hbel.size)
      have hc2 := hown2.cellAt (row_at hlt HX.out.1)
      have hf2 := hown2.frozenAt k
      have hown3 := hown2.set_ k (strOf (Lib.itoa x))
      rw [set_next HXX.out HX.out.1] at hown3
      have hbel3 : Below w.heap.size w (w2.setCell ⟨w.heap.size, k, none⟩ (.string (strOf (Lib.itoa x)))) := hbel2.setCell (Nat.le_refl _) _
      go_wp2_with fail
      go_roundw
      case rel => exact ⟨k + 1, by omega, by go_num, hown3, hbel3⟩
      case measure => first | (simp [intOf]; done) | (simp [intOf]; omega)
    · have hk' : k = n := by omega
      subst hk'
      rw [Nat.sub_self, List.replicate_zero, List.append_nil, List.take_of_length_le (by rw [HX.out.1]; omega)] at hown
      have hl : k = (xs.map (fun x => strOf (Lib.itoa x))).length := hown.len
      have hlt2 := hown.lt
      have hall := text_all HF.out
      rw [HX.out.1] at hall
      have e1 : (xs.map (fun x => strOf (Lib.itoa x))).map (·.data.toList) = xs.map Lib.itoa := by simp [strOf, Function.comp_def]
      have J := Tryd.strings_Join w.heap.size 0 k (xs.map (fun x => strOf (Lib.itoa x))) ⟨#[32]⟩ wr (fun j s hs => by rw [Nat.zero_add]; exact hown.cellAt hs) hlt2 (by omega) (by omega) (by
        rw [e1]
        show (textL xs).length ≤ _
        omega)
      rw [e1, ← hl] at J
      have J2 : Calls Tryd.prog 27 #[.slice (some ⟨w.heap.size, 0, none⟩) k k, .string ⟨#[32]⟩] wr fun e w' => e = .returned (.string T) ∧ Below wr.heap.size wr w' := by
        rw [HT.out]
        exact J
      have HJ := Lib.hid J2
      clear J J2 hl hall e1
      go_wp2_with fail
      refine HJ.out.mono ?_
      rintro e w2 ⟨rfl, hb2⟩
      go_wp2_with fail
      go_ret
      exact ⟨rfl, hbel.trans (hb2.mono hbel.size)⟩

/-- Where all dimensions are below 100, no table is read. -/
theorem text_small (A : Option Addr) (n c : Nat) (xs : List Int) (w : World) (hn : n ≤ 1000000) (hx : Rd w A n xs) (hs : ∀ x ∈ xs, 0 ≤ x ∧ x < 100) :
    Calls Tryd.prog 16 #[.slice A n c] w fun e w' => e = .returned (.string (strOf (textL xs))) ∧ Below w.heap.size w w' :=
  text_with A n c xs w hn (fun x hx => by have := hs x hx; omega) hx fun x hx W _ => by
    have h := hs x hx
    obtain ⟨u, rfl⟩ : ∃ u : Nat, x = u := ⟨x.toNat, by omega⟩
    refine (Tryd.strconv_Itoa_small u (by omega) W).mono fun e w' he => ⟨?_, ?_⟩
    · rw [he.1, Lib.itoa_nonneg]; rfl
    · rw [he.2]; exact Below.refl _ _
end Go.Proofs.YtbjfflflegbfaaaDoor.txt
