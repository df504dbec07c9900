/- Package tree: application, and the rules that call it; the maps of the rules. -/
import Derived.Test.YtbcnilkenkmabaaTreeKinds
import Derived.MapKept
import Derived.Carry
import Derived.Laws.EntriesVeiled
namespace Go.Proofs.Ytbcnilkenkmabaa.tr
open Go.ChangeShapes Go.WideShapes Go.ChangeAt Go.RowKit Go.Proofs.Ytbcnilkenkmabaa.mem Go.Proofs.Ytbcnilkenkmabaa.sq
set_option linter.unusedVariables false

/-! ### maps with int keys -/
/-- The entry's value at a key, and whether there is one. -/
def entryAt (k : Int) : List MapEntry → Option Value
  | [] => none
  | e :: es => match e.key with
    | .int .i64 y => if k = y then some e.val else entryAt k es
    | _ => none
theorem findNow_entry (k : Int) : ∀ (es : List MapEntry) (i : Nat), (∀ e ∈ es, ∃ y, e.key = .int .i64 y) → match entryAt k es with
    | some v => ∃ j, Instr.findNow (.int .i64) (.int .i64 k) es i = some (some (j, v))
    | none => Instr.findNow (.int .i64) (.int .i64 k) es i = some none
  | [], _, _ => rfl
  | e :: es, i, h => by
    obtain ⟨y, hy⟩ := h e (by simp)
    have ih := findNow_entry k es (i + 1) (fun x hx => h x (by simp [hx]))
    unfold entryAt Instr.findNow
    simp only [hy, Instr.sameNow]
    by_cases hk : k = y
    · subst hk; simp
    · have : (k == y) = false := by simpa using hk
      simp only [hk, this, ↓reduceIte]
      exact ih
theorem run_lookup_int {t kt et : TypeId} {w : World} {b clock : Nat} {es : Array MapEntry} {z : Value} (hm : Try.prog.underlying t = some (.map kt et)) (hd : Try.prog.underlying kt = some (.int .i64)) (hb : w.heap[b]? = some (.map es clock))
    (hes : ∀ e ∈ es.toList, ∃ y, e.key = .int .i64 y) (hz : (zeroValue et).run Try.prog w = .ok z w) (k : Int) :
    (Instr.lookup t (.map (some b)) (.int .i64 k) true).run Try.prog w = .ok (match entryAt k es.toList with | some v => .tuple #[v, .bool true] | none => .tuple #[z, .bool false]) w := by
  have h := findNow_entry k es.toList 0 hes
  have hk : MapKept.IsKey (.int .i64) (.int .i64 k) := rfl
  cases he : entryAt k es.toList with
  | none =>
    rw [he] at h
    simp [Instr.lookup, run_underlying hm, MapKept.run_getObj_map hb, MapKept.run_checkKey hd hk, MapKept.run_findKey hd h, hz, Result.andThen]
  | some v =>
    rw [he] at h
    obtain ⟨j, h⟩ := h
    simp [Instr.lookup, run_underlying hm, MapKept.run_getObj_map hb, MapKept.run_checkKey hd hk, MapKept.run_findKey hd h, Result.andThen]
theorem run_insert_int {t kt et : TypeId} {w : World} {b clock : Nat} {es : Array MapEntry} (hm : Try.prog.underlying t = some (.map kt et)) (hd : Try.prog.underlying kt = some (.int .i64)) (hb : w.heap[b]? = some (.map es clock))
    (hes : ∀ e ∈ es.toList, ∃ y, e.key = .int .i64 y) (k : Int) (v : Value) (hne : entryAt k es.toList = none) :
    (Instr.mapUpdate t (.map (some b)) (.int .i64 k) v).run Try.prog w = .ok () (w.putObj b (.map (es.push { key := .int .i64 k, val := v, born := clock }) (clock + 1))) := by
  have h := findNow_entry k es.toList 0 hes
  have hk : MapKept.IsKey (.int .i64) (.int .i64 k) := rfl
  rw [hne] at h
  simp [Instr.mapUpdate, run_underlying hm, MapKept.run_getObj_map hb, MapKept.run_checkKey hd hk, MapKept.run_findKey hd h, MapKept.run_setObj_map _ hb, Result.andThen]
  rfl

def appB (kn p : Bool) (a : Int) (m q : Nat) (E : Bool) (n : Nat) : Bool := decide (kn = true ∧ ((p = true ∧ 0 ≤ a ∧ a < 16) ∨ a = -1) ∧ m = q ∧ E = true ∧ n = 0)
set_option maxHeartbeats 4000000 in
set_option maxRecDepth 100000 in
theorem application_any (k f a : Int) (s : ByteArray) (A B : Option Addr) (n c m d q : Nat) (w : World) (g : Nat) (p kn : Bool) (hm : m ≤ 17592186044416) (hn : n ≤ 17592186044416) (E : Bool) (HE : Hid ((s.toList == []) = E))
    (hlk : ∀ V, Below w.heap.size w V → (Instr.lookup 53 (.map (some g)) (.int .i64 f) true).run Try.prog V = .ok (.tuple #[.bool p, .bool kn]) V) (hq : q ≤ 2) :
    Calls Try.prog 44 #[.agg #[.int .i64 k, .int .i64 f, .int .i64 a, .string s, .slice A n c, .slice B m d], .map (some g), .int .i64 (q : Int)] w (Say w (appB kn p a m q E n)) := by
  obtain ⟨W, hW⟩ : ∃ W, W = w.alloc (.cells #[.int .i64 k, .int .i64 f, .int .i64 a, .string s, .slice A n c, .slice B m d] 25) := ⟨_, rfl⟩
  obtain ⟨hb, -, KC⟩ := one_box6 hW
  obtain ⟨k0, k1, k2, k3, k4, k5⟩ := KC W (Below.refl _ _)
  have hl := hlk W hb
  have HB := Lib.hid hb; have HW := Lib.hid hW
  clear hb KC hW hlk
  obtain ⟨r, hr⟩ : ∃ r, r = appB kn p a m q E n := ⟨_, rfl⟩
  rw [← hr]
  have HR := Lib.hid hr; clear hr
  cases kn
  · have HF : Hid (r = false) := Lib.hid (by rw [HR.out]; simp [appB])
    cases p
    · go_enter Try.func44, Try.ntmps44
      go_upto_region 1 with fail
      rw [← HW.out]
      go_wp2_with fail
      go_ret
      exact ⟨ret_bool HF.out.symm, HB.out⟩
    · go_enter Try.func44, Try.ntmps44
      go_upto_region 1 with fail
      rw [← HW.out]
      go_wp2_with fail
      all_goals go_ret
      all_goals exact ⟨ret_bool HF.out.symm, HB.out⟩
  · cases p <;> cases E
    all_goals
      have hs := HE.out
      go_enter Try.func44, Try.ntmps44
      go_upto_region 1 with fail
      rw [← HW.out]
      go_wp2_with fail
      all_goals go_ret
      all_goals refine ⟨ret_bool ?_, HB.out⟩
      all_goals rw [HR.out]; unfold appB
      all_goals first
        | (simp [*]; done)
        | (rw [Bool.eq_iff_iff]; simp [*]; done)
        | (rw [Bool.eq_iff_iff]; simp [*]; omega)
        | (simp; omega)
        | trace_state
end Go.Proofs.Ytbcnilkenkmabaa.tr
