/- What the rows' listed variables say of the world, for package show: the table of glyphs too is as the program lays it. -/
import Derived.Test.YthgojbaindejjaaGreatDoorShTree
import Derived.Test.YthgojbaindejjaaGreatDoorLexLaid
namespace Go.Proofs.YthgojbaindejjaaGreatDoor.sh
open Go.ChangeShapes Go.WideShapes Go.ChangeAt Go.RowKit Go.Proofs.YthgojbaindejjaaGreatDoor.mem Go.Proofs.YthgojbaindejjaaGreatDoor.lx
set_option linter.unusedVariables false

/-- An array of strings that reads as these texts holds them, cell for cell. -/
theorem strs_of_trod {H : Type} {enc : TypeId × Value → H} {P : Program} {w : World} {base : Nat} {sp : Nat → Bool} {held : Bool} {fuel : Nat} {t e : TypeId} {n : Nat} {cs : List Value} {ss : List (List UInt8)} {p : List MemPlace}
    (ht : P.underlying t = some (.array n e)) (he : P.underlying e = some .string) (hce : P.cellsOf e = 1) (hct : P.cellsOf t = n)
    (h : DataW.trod enc P w base sp held fuel t cs = some (.agg (ss.map fun s => .lit (.string s)), p)) (i : Nat) (s : List UInt8) (hi : ss[i]? = some s) : cs[i]? = some (.string ⟨s.toArray⟩) := by
  cases fuel with
  | zero => simp [DataW.trod] at h
  | succ fuel =>
    simp only [DataW.trod, ht, hce, hct, Nat.mul_one] at h
    split at h
    · obtain ⟨xs, hm, hx⟩ := Option.map_eq_some_iff.1 h
      have hxs : xs.map (·.1) = ss.map fun s => (DataW.lit (.string s) : DataW H) := by
        have := congrArg Prod.fst hx
        simpa using this
      have hlen : xs.length = ss.length := by simpa using congrArg List.length hxs
      have hxn : xs.length = n := by simpa using Lib.mapM_length hm
      have hin : i < n := by have := (List.getElem?_eq_some_iff.1 hi).1; omega
      obtain ⟨b, hb, hf⟩ := Lib.mapM_at hm i i (by simp [hin])
      obtain ⟨s', hc, rfl, _⟩ := DataW.trod_string he hf
      have h1 : cs[i]? = some (.string s') := by
        have := congrArg (·[0]?) hc
        simpa [List.getElem?_take, List.getElem?_drop] using this
      have h2 := congrArg (·[i]?) hxs
      simp [hb, hi] at h2
      rw [h1, ← h2]
    · cases h
def glyphsL : List (List UInt8) := [[], [226, 134, 145], [226, 134, 147], [226, 140, 189], [226, 141, 137], [226, 141, 180], [44]]
theorem glyphs_of {rest : List (String × DataW Unit)} {W : World} (h : laidMet Tryz.prog (("intarsia/show.glyphs", Rows.laid_intarsia_show_glyphs) :: rest) W) : Glyphs W := by
  obtain ⟨ps, ⟨g', t', cs, fuel, p, q, hg', ht', hvar, hd, _, _⟩, _⟩ := h
  have hg : Tryz.prog.globalNamed "intarsia/show.glyphs" = some 0 := by kernel_rfl
  have hty : (Tryz.prog.globals[0]?).map (·.type) = some 121 := by kernel_rfl
  obtain rfl := Option.some.inj (hg.symm.trans hg')
  obtain rfl := Option.some.inj (hty.symm.trans ht')
  have key := strs_of_trod Tryz.underlying121 Tryz.underlying9 (by kernel_rfl) (by kernel_rfl) (ss := glyphsL) hd
  intro f h1 h2
  have hc := World.var?_cell hg hvar f
  rw [hc]
  have hk : ∀ s, glyphsL[f]? = some s → cs[f]? = some (Value.string ⟨s.toArray⟩) := fun s hs => by simpa using key f s hs
  rcases six (F := (f : Int)) (by omega) (by omega) with e | e | e | e | e | e
  all_goals
    obtain rfl : f = _ := Int.ofNat.inj e
    exact hk _ rfl
theorem env_of {W : World} (hL : laidMet Tryz.prog Rows.showTidiesRow.laid W) : ShEnv W :=
  ⟨lays_of (laidMet.tail (laidMet.tail hL)), glyphs_of (laidMet.tail (laidMet.tail (laidMet.tail (laidMet.tail (laidMet.tail (laidMet.tail hL))))))⟩
end Go.Proofs.YthgojbaindejjaaGreatDoor.sh
