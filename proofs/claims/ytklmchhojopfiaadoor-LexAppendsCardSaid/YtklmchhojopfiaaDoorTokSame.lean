/- The laws' tokens as tokens of the reference (back), and the reference's comparison of lists that are the same. -/
import Derived.Test.YtklmchhojopfiaaDoorTokRow
import Derived.Deep.QuietTactic
import Derived.BigQuiet
namespace Go.Proofs.YtklmchhojopfiaaDoor.lx
open Go.ChangeShapes Go.WideShapes Go.ChangeAt Go.RowKit Go.Proofs.YtklmchhojopfiaaDoor.mem Go.Proofs.YtklmchhojopfiaaDoor.txt
set_option linter.unusedVariables false

/-- The second and the third cell of a struct, as the walk spells their addresses. -/
theorem cell_snd {w : World} {a : Addr} {k : Nat} {x : Value} (h : w.cell? (a.add (k + 1)) = some x) : w.cell? ⟨(a.add k).block, (a.add k).off + 1, none⟩ = some x := by
  have e : ∀ b : Addr, (⟨b.block, b.off + 1, none⟩ : Addr) = b.add 1 := fun b => by unfold Addr.add; simp
  rw [e, adr_add]; exact h
theorem cell_trd {w : World} {a : Addr} {k : Nat} {x : Value} (h : w.cell? (a.add (k + 2)) = some x) : w.cell? ⟨(a.add k).block, (a.add k).off + 2, none⟩ = some x := by
  have e : ∀ b : Addr, (⟨b.block, b.off + 2, none⟩ : Addr) = b.add 2 := fun b => by unfold Addr.add; simp
  rw [e, adr_add]; exact h
theorem refToken_info : (Tryd.prog.info? 38).map (fun i => (i.zero, i.size, i.bytes)) = some (some (.agg #[.int .i64 0, .string ⟨#[]⟩, .int .i64 0]), 3, 32) := by kernel_rfl
/-- A row of tokens of the reference is made. -/
def MakesK (w : World) (L : List Tk) (e : Ending) (w' : World) : Prop := ∃ P c, e = .returned (.slice P L.length c) ∧ OwnK 38 w' w.heap.size (.slice P L.length c) L ∧ Below w.heap.size w w'
set_option maxHeartbeats 2000000 in
set_option maxRecDepth 100000 in
theorem back_any (A : Option Addr) (n c : Nat) (L : List Tk) (w : World) (hn : n ≤ 1000000) (hr : RdK w A n L) : Calls Tryd.prog 11 #[.slice A n c] w (MakesK w L) := by
  have HR := Lib.hid hr; clear hr
  go_enter Tryd.func11, Tryd.ntmps11
  go_wp2_with fail
  go_loopw [3, 4] (fun v i wr => ∃ k : Nat, k ≤ n ∧ i = .int .i64 k ∧ ∃ P d, v = .slice P k d ∧ Hid (OwnK 38 wr w.heap.size (.slice P k d) (L.take k)) ∧ Hid (Below w.heap.size w wr)) (fun _ i _ => n - (intOf i).toNat)
  case atStart => exact ⟨0, Nat.zero_le _, rfl, none, 0, rfl, Lib.hid (ownK_nil _ _ _), Lib.hid (Below.refl _ _)⟩
  case round =>
    obtain ⟨k, hk, rfl, P, d, rfl, HO, HB⟩ := hrel
    by_cases hlt : k < n
    · obtain ⟨x, hx⟩ : ∃ x, L[k]? = some x := ⟨_, List.getElem?_eq_getElem (by rw [HR.out.1]; exact hlt)⟩
      obtain ⟨ad, rfl, _, c1, c2, c3⟩ := (HR.out.below HB.out).2 k x hx
      replace c2 := cell_snd c2
      replace c3 := cell_trd c3
      have HT := Lib.hid (take_snoc hx)
      have HLN : Hid ((L.take k).length = k) := Lib.hid (by rw [List.length_take, HR.out.1]; omega)
      obtain ⟨tk, tt, tn⟩ := x
      simp only [] at c1 c2 c3
      clear hx
      go_wp2_with (at_builtin; refine wpList_pushK Tryd.underlying27 refToken_info (by rfl) (.tmp 11) (.tmp 16) (by rfl) w.heap.size _ (L.take k) (by rfl) HO.out HB.out.size tk tn tt _ _ (by rfl) (by rfl) k HLN.out (by omega) ?_; intro P3 d3 w3 ho3 hg3; have HO4 := Lib.hid ho3; have HB4 := Lib.hid (OwnK.below_grown HB.out HO.out hg3 HB.out.size); clear ho3 hg3)
      go_roundw
      case rel => exact ⟨k + 1, by omega, by go_num, P3, d3, rfl, Lib.hid (by rw [HT.out]; exact HO4.out), HB4⟩
      case measure => first | (simp [intOf]; done) | (simp [intOf]; omega)
    · obtain rfl : k = n := by omega
      have HX := Lib.hid (show MakesK w L (.returned (.slice P k d)) wr by
        have h1 := HO.out
        rw [List.take_of_length_le (by rw [HR.out.1]; omega)] at h1
        obtain rfl := HR.out.1
        exact ⟨P, d, rfl, h1, HB.out⟩)
      go_wp2_with fail
      go_ret
      exact HX.out
theorem str_self (a : ByteArray) : (a.toList != a.toList) = false := by simp
set_option maxHeartbeats 4000000 in
set_option maxRecDepth 100000 in
theorem same_any (A B : Option Addr) (n c d : Nat) (L : List Tk) (w : World) (hn : n ≤ 1000000) (ha : RdK w A n L) (hb : RdK w B n L) :
    Calls Tryd.prog 10 #[.slice A n c, .slice B n d] w fun e w' => e = .returned (.bool true) ∧ ∃ q, w' = w.drewN q := by
  have HA := Lib.hid ha; have HB := Lib.hid hb; clear ha hb
  go_enter Tryd.func10, Tryd.ntmps10
  go_wp2_with fail
  go_loopw [5] (fun i wr => ∃ k : Nat, k ≤ n ∧ i = .int .i64 k ∧ ∃ q, wr = w.drewN q) (fun i _ => n - (intOf i).toNat)
  case atStart => exact ⟨0, Nat.zero_le _, rfl, 0, rfl⟩
  case round =>
    obtain ⟨k, hk, rfl, q, rfl⟩ := hrel
    by_cases hlt : k < n
    · obtain ⟨x, hx⟩ : ∃ x, L[k]? = some x := ⟨_, List.getElem?_eq_getElem (by rw [HA.out.1]; exact hlt)⟩
      obtain ⟨ad, rfl, _, c1, c2, c3⟩ := HA.out.2 k x hx
      obtain ⟨be, rfl, _, d1, d2, d3⟩ := HB.out.2 k x hx
      replace c2 := cell_snd c2
      replace c3 := cell_trd c3
      replace d2 := cell_snd d2
      replace d3 := cell_trd d3
      obtain ⟨tk, tt, tn⟩ := x
      simp only [] at c1 c2 c3 d1 d2 d3
      have hss := str_self (txt.strOf tt)
      clear hx
      go_wp2_with fail
      go_quiet (fail)
      go_wp2_with fail
      go_roundw
      case rel => exact ⟨k + 1, by omega, by go_num, _, by first | rfl | rw [World.drewN_drewN]⟩
      case measure => first | (simp [intOf]; done) | (simp [intOf]; omega)
    · go_wp2_with fail
      go_ret
      exact ⟨rfl, q, rfl⟩
end Go.Proofs.YtklmchhojopfiaaDoor.lx
