/- BoxCuts holds for every input. No condition. -/
import Derived.Test.YtaegkiangjnmdaaLawCuts
import Derived.WalkKit
import Derived.ProofKit
import Derived.OpenShut
import Derived.ShutString
import Derived.ChangeOld
import Derived.Below
import Derived.Lib.SmallJoins
namespace Go.Proofs.Ytaegkiangjnmdaa.boxCuts
open Go.ChangeShapes Go.WideShapes Go.ChangeAt Go.RowKit
open Go.ChangeMaps (open_string shut_string)
set_option linter.unusedVariables false

theorem own : ownKnob Try.prog.godebug = none := by kernel_rfl
theorem laidOut : laidOutB Try.prog = true := by kernel_rfl

/-- What the walk is told of a slice of integers that came in. -/
def IsRow (k : IntKind) (w : World) (a : Option Addr) (len cap : Nat) (zs : List Int) : Prop :=
  (a = none ∧ len = 0 ∧ cap = 0 ∧ zs = []) ∨
  ∃ x, a = some x ∧ len ≤ cap ∧ cap ≤ maxLen ∧ zs.length = cap ∧ (∀ i, i < zs.length → w.cell? (x.add i) = some (.int k (zs.getD i 0))) ∧ ∀ n ∈ zs, (Lit.int k n).wf = true

theorem walk (pa0 : Option Addr) (plen0 pcap0 : Nat) (pz0 : List Int) (qa0 : Option Addr) (qlen0 qcap0 : Nat) (qz0 : List Int) (pa1 : Option Addr) (plen1 pcap1 : Nat) (pz1 : List Int) (qa1 : Option Addr) (qlen1 qcap1 : Nat) (qz1 : List Int) (w : World) (pw0 : IsRow .i64 w pa0 plen0 pcap0 pz0) (qw0 : IsRow .i64 w qa0 qlen0 qcap0 qz0) (pw1 : IsRow .i64 w pa1 plen1 pcap1 pz1) (qw1 : IsRow .i64 w qa1 qlen1 qcap1 qz1) :
    Calls Try.prog 4 #[.agg #[.slice pa0 plen0 pcap0, .slice qa0 qlen0 qcap0], .agg #[.slice pa1 plen1 pcap1, .slice qa1 qlen1 qcap1]] w fun e w' => e = .returned (.bool true) ∧ Below w.heap.size w w' := by
  exact laws.walk_BoxCuts pa0 qa0 pa1 qa1 plen0 pcap0 qlen0 qcap0 plen1 pcap1 qlen1 qcap1 _ _ _ _ w (mem.in_of_row pw0) (mem.in_of_row qw0) (mem.in_of_row pw1) (mem.in_of_row qw1)

set_option maxRecDepth 100000 in
theorem lifted (os : Os) (started : os.Started) (H : Type) (enc : TypeId × Value → H) :
    ReturnsInHanded {} Try.checked os 4 .any (Rows.boxCutsSpec.pre6 enc Try.prog Try.f4 Rows.boxCutsRow.domain false) (Rows.boxCutsSpec.post enc Try.prog Try.f4 false true false false) := by
  refine returnsInHanded_of_change (C := Try.checked) own started (by kernel_rfl) Try.func4
    (ChangeSpec.witness6 (enc := enc) (C := Try.checked) false ⟨#[], #[.agg #[.slice none 0 0, .slice none 0 0], .agg #[.slice none 0 0, .slice none 0 0]], []⟩ 8 (by kernel_rfl) (by kernel_rfl) (by kernel_rfl) (by kernel_rfl)) ?_
  intro W base args ds gs before hval0 hW hcnd _
  have hval : ∀ (j : Nat) t v, Try.f4.params[j]? = some t → args[j]? = some v → Value.okWide Try.prog W .any base t v := hval0
  have hW' := hW
  obtain ⟨p, q, hA0, hV, rfl, hfz, hnd⟩ := hW
  have hA : DataW.TrodAll enc Try.prog W 0 (fun _ => true) true Try.f4.params.toList args.toList ds p := hA0
  rw [Try.params4] at hA hval
  obtain ⟨v0, vs0, d0, ds0, p0, q0, hargs, rfl, rfl, h0, r0⟩ := trodAll_cons hA
  obtain ⟨v1, vs1, d1, ds1, p1, q1, rfl, rfl, rfl, h1, r1⟩ := trodAll_cons r0
  obtain ⟨rfl, rfl, rfl⟩ := trodAll_nil r1
  obtain rfl : args = #[v0, v1] := by cases args; simp_all
  obtain ⟨rfl, rfl⟩ := trodVars_none hV
  have k0 := h0
  have lt0 : ∀ x ∈ p0, x.block < W.heap.size := by obtain ⟨m, hm⟩ := k0; exact DataW.trod_lt m _ _ _ hm
  obtain ⟨c0, c1, y0, y1, m, rfl, hd0, hp0, pf0, qf0⟩ := Go.Joins.open_agg2 Try.underlying24 (by kernel_rfl) (by kernel_rfl) (hval 0 24 v0 rfl rfl) h0
  obtain ⟨pa0, plen0, pcap0, he⟩ := Go.Joins.slice_form Try.underlying22 pf0
  simp at he
  subst he
  obtain ⟨qa0, qlen0, qcap0, he⟩ := Go.Joins.slice_form Try.underlying22 qf0
  simp at he
  subst he
  obtain ⟨pz0, pw0⟩ : ∃ zs, IsRow .i64 W pa0 plen0 pcap0 zs := by
    rcases open_ints Try.underlying22 Try.underlying3 (by kernel_rfl) pf0 with ⟨hcs, _⟩ | ⟨x, l, c, zs, hcs, _, hl, hm, hz, _, hcell, hwz⟩
    · simp at hcs
      obtain ⟨rfl, rfl, rfl⟩ := hcs
      exact ⟨[], .inl ⟨rfl, rfl, rfl, rfl⟩⟩
    · simp at hcs
      obtain ⟨rfl, rfl, rfl⟩ := hcs
      exact ⟨zs, .inr ⟨_, rfl, hl, hm, by simpa using hz, hcell, hwz⟩⟩
  obtain ⟨qz0, qw0⟩ : ∃ zs, IsRow .i64 W qa0 qlen0 qcap0 zs := by
    rcases open_ints Try.underlying22 Try.underlying3 (by kernel_rfl) qf0 with ⟨hcs, _⟩ | ⟨x, l, c, zs, hcs, _, hl, hm, hz, _, hcell, hwz⟩
    · simp at hcs
      obtain ⟨rfl, rfl, rfl⟩ := hcs
      exact ⟨[], .inl ⟨rfl, rfl, rfl, rfl⟩⟩
    · simp at hcs
      obtain ⟨rfl, rfl, rfl⟩ := hcs
      exact ⟨zs, .inr ⟨_, rfl, hl, hm, by simpa using hz, hcell, hwz⟩⟩
  have k1 := h1
  have lt1 : ∀ x ∈ p1, x.block < W.heap.size := by obtain ⟨m, hm⟩ := k1; exact DataW.trod_lt m _ _ _ hm
  obtain ⟨c0, c1, y0, y1, m, rfl, hd1, hp1, pf1, qf1⟩ := Go.Joins.open_agg2 Try.underlying24 (by kernel_rfl) (by kernel_rfl) (hval 1 24 v1 rfl rfl) h1
  obtain ⟨pa1, plen1, pcap1, he⟩ := Go.Joins.slice_form Try.underlying22 pf1
  simp at he
  subst he
  obtain ⟨qa1, qlen1, qcap1, he⟩ := Go.Joins.slice_form Try.underlying22 qf1
  simp at he
  subst he
  obtain ⟨pz1, pw1⟩ : ∃ zs, IsRow .i64 W pa1 plen1 pcap1 zs := by
    rcases open_ints Try.underlying22 Try.underlying3 (by kernel_rfl) pf1 with ⟨hcs, _⟩ | ⟨x, l, c, zs, hcs, _, hl, hm, hz, _, hcell, hwz⟩
    · simp at hcs
      obtain ⟨rfl, rfl, rfl⟩ := hcs
      exact ⟨[], .inl ⟨rfl, rfl, rfl, rfl⟩⟩
    · simp at hcs
      obtain ⟨rfl, rfl, rfl⟩ := hcs
      exact ⟨zs, .inr ⟨_, rfl, hl, hm, by simpa using hz, hcell, hwz⟩⟩
  obtain ⟨qz1, qw1⟩ : ∃ zs, IsRow .i64 W qa1 qlen1 qcap1 zs := by
    rcases open_ints Try.underlying22 Try.underlying3 (by kernel_rfl) qf1 with ⟨hcs, _⟩ | ⟨x, l, c, zs, hcs, _, hl, hm, hz, _, hcell, hwz⟩
    · simp at hcs
      obtain ⟨rfl, rfl, rfl⟩ := hcs
      exact ⟨[], .inl ⟨rfl, rfl, rfl, rfl⟩⟩
    · simp at hcs
      obtain ⟨rfl, rfl, rfl⟩ := hcs
      exact ⟨zs, .inr ⟨_, rfl, hl, hm, by simpa using hz, hcell, hwz⟩⟩
  clear hA0 hval0
  refine (walk pa0 plen0 pcap0 pz0 qa0 qlen0 qcap0 qz0 pa1 plen1 pcap1 pz1 qa1 qlen1 qcap1 qz1 W pw0 qw0 pw1 qw1).mono fun e W' ⟨he, bel⟩ => ?_
  subst he
  exact ⟨_, rfl, _, _, _, [], _, [], hW', trodAll_mk1 (shut_bool Try.underlying4 _), (trodAll_cons_mk (Below.trod laidOut (by kernel_rfl) (of_decide_eq_true (by kernel_rfl)) k0 bel lt0) (trodAll_cons_mk (Below.trod laidOut (by kernel_rfl) (of_decide_eq_true (by kernel_rfl)) k1 bel lt1) trodAll_mk0)), rfl, bel.frame _, fun h => by cases h⟩

theorem over : Rows.boxCutsRow.holds Try.pinned (OpenSpec.ofChange Rows.boxCutsSpec) :=
  OpenClaim.holds_of_wide 4 Try.f4 rfl rfl rfl rfl rfl rfl rfl ⟨rfl, rfl, rfl, rfl, rfl⟩ rfl rfl rfl rfl rfl (by kernel_rfl) Try.func4 (by kernel_rfl)
    (of_decide_eq_true (by kernel_rfl)) (by unfold Func.isWrapper; first | (rw [if_pos (by decide +kernel)]; kernel_rfl) | (rw [if_neg (by decide +kernel)]; exact ⟨rfl, rfl⟩))
    (fun os started H enc _ => lifted os started H enc)

theorem proved : Rows.BoxCutsSaid := over
#print axioms proved
end Go.Proofs.Ytaegkiangjnmdaa.boxCuts
