/- Package lex: the glyph that a text begins with. -/
import Derived.Test.YthgojbaindejjaaGreatDoorLexLead
namespace Go.Proofs.YthgojbaindejjaaGreatDoor.lx
open Go.ChangeShapes Go.WideShapes Go.ChangeAt Go.RowKit Go.Proofs.YthgojbaindejjaaGreatDoor.mem Go.Proofs.YthgojbaindejjaaGreatDoor.txt
set_option linter.unusedVariables false

def glyS : ByteArray := ⟨#[226, 134, 145, 226, 134, 147, 226, 140, 189, 226, 141, 137, 226, 141, 180, 226, 141, 172, 226, 134, 144, 44, 40, 41, 91, 93]⟩
def glyO (k : Nat) : Nat := [0, 3, 6, 9, 12, 15, 18, 21, 22, 23, 24, 25, 26].getD k 26
def glyR (k : Nat) : Nat := [8593, 8595, 9021, 9033, 9076, 9068, 8592, 44, 40, 41, 91, 93].getD k 0
theorem gly_steps : ∀ k : Fin 12, Utf8.decode glyS (glyO k) = (glyR k, glyO (k + 1) - glyO k) ∧ Utf8.encode (glyR k : Int) = strOf (gls.getD k []) ∧ glyO k < 26 ∧ glyO k + (glyO (k + 1) - glyO k) = glyO (k + 1) ∧ glyO k < glyO (k + 1) := by decide +kernel
theorem find_first {α : Type} (p : α → Bool) : ∀ (gs : List α) (k : Nat) (g : α), (∀ x ∈ gs.take k, p x = false) → gs[k]? = some g → p g = true → gs.find? p = some g
  | [], k, g, _, h, _ => by simp at h
  | x :: r, 0, g, _, h, hp => by simp at h; subst h; simp [hp]
  | x :: r, k + 1, g, ha, h, hp => by
    have hx : p x = false := ha x (by simp)
    rw [List.find?_cons, hx]
    exact find_first p r k g (fun y hy => ha y (by simp [hy])) (by simpa using h) hp
set_option maxHeartbeats 1000000 in
theorem glyph_any (l : List UInt8) (w : World) : Calls Tryz.prog 81 #[.string (strOf l)] w (StrN w (glyL l) 0) := by
  have H := Lib.hid (show ∀ (g : List UInt8) (W : World), Calls Tryz.prog 95 #[.string (strOf l), .string (strOf g)] W fun e W' => e = .returned (.bool (g.isPrefixOf l)) ∧ W = W' from fun g W =>
    (Tryz.strings_HasPrefix (strOf l) (strOf g) W).mono fun e W' ⟨he, hw⟩ => ⟨by
      rw [he]
      have e1 : Lib.hasPrefix (strOf l).data.toList (strOf g).data.toList = g.isPrefixOf l := by
        show List.isPrefixOf (bl (strOf g)) (bl (strOf l)) = _
        rw [bl_str, bl_str]
      rw [e1], hw.symm⟩)
  obtain ⟨R, hR⟩ : ∃ R, R = glyL l := ⟨_, rfl⟩
  rw [← hR]
  have HR := Lib.hid hR; clear hR
  go_enter Tryz.func81, Tryz.ntmps81
  go_wp2_with fail
  go_loopw [] (fun w' => ∃ k : Nat, k ≤ 12 ∧ w' = w.iter glyS (glyO k) ∧ Hid (∀ g ∈ gls.take k, g.isPrefixOf l = false)) (fun w' => 26 - w'.iterPos w.heap.size)
  case atStart => exact ⟨0, Nat.zero_le _, rfl, Lib.hid (fun g hg => by simp at hg)⟩
  case round =>
    obtain ⟨k, hk, rfl, HA⟩ := hrel
    by_cases hlt : k < 12
    · obtain ⟨h1, h2, h3, h4, h5⟩ := gly_steps ⟨k, hlt⟩
      simp only [] at h1 h2 h3 h4 h5
      have hg : gls[k]? = some (gls.getD k []) := by
        have : k < gls.length := hlt
        rw [List.getD, List.getElem?_eq_getElem this]; rfl
      have hnx : ∀ ty, (Instr.next (.pointer (some ⟨w.heap.size, 0, none⟩)) true ty).run Tryz.prog (w.iter glyS (glyO k)) = .ok (.tuple #[.bool true, .int .i64 (glyO k), .int .i32 (glyR k)]) (w.iter glyS (glyO (k + 1))) := fun ty => by
        rw [run_next_any w glyS (glyO k) ty (show glyO k < glyS.size from h3), h1]
        simp only []
        rw [h4]
      obtain ⟨g, hg'⟩ : ∃ g, g = gls.getD k [] := ⟨_, rfl⟩
      rw [← hg'] at h2 hg
      obtain ⟨r, hr⟩ : ∃ r, r = glyR k := ⟨_, rfl⟩
      rw [← hr] at h2 hnx
      have HG := Lib.hid hg
      have HO := Lib.hid h5
      have HL := Lib.hid h3
      obtain ⟨b, hb⟩ : ∃ b, b = g.isPrefixOf l := ⟨_, rfl⟩
      have H1 := Lib.hid (H.out g)
      rw [← hb] at H1
      have HB := Lib.hid hb
      clear h1 h3 h4 h5 hg hg' hr hb
      cases b
      · have HA2 := Lib.hid (show ∀ x ∈ gls.take (k + 1), x.isPrefixOf l = false by
          intro x hx
          rw [take_snoc HG.out] at hx
          rcases List.mem_append.1 hx with h | h
          · exact HA.out x h
          · rw [List.mem_singleton.1 h]; exact HB.out.symm)
        go_wp2_with fail
        refine (H1.out _).mono ?_
        rintro e w' ⟨rfl, rfl⟩
        go_wp2_with fail
        go_roundw
        case rel => exact ⟨k + 1, by omega, rfl, HA2⟩
        case measure =>
          have h5 := HO.out; have h3 := HL.out
          rw [World.iterPos_iter, World.iterPos_iter]; omega
      · have HX : Hid (R = g) := Lib.hid (by
          rw [HR.out]; unfold glyL
          rw [find_first _ gls k g HA.out HG.out HB.out.symm]; rfl)
        go_wp2_with fail
        refine (H1.out _).mono ?_
        rintro e w' ⟨rfl, rfl⟩
        go_wp2_with fail
        go_ret2
        exact ⟨by rw [HX.out]; rfl, below_iter _ _ _⟩
    · obtain rfl : k = 12 := by omega
      have HX : Hid (R = []) := Lib.hid (by
        rw [HR.out]; unfold glyL
        have : gls.find? (fun g => g.isPrefixOf l) = none := by
          rw [List.find?_eq_none]
          intro g hg
          have := HA.out g (by rw [List.take_of_length_le (by decide)]; exact hg)
          simp [this]
        rw [this]; rfl)
      have hnx : ∀ ty, (Instr.next (.pointer (some ⟨w.heap.size, 0, none⟩)) true ty).run Tryz.prog (w.iter glyS (glyO 12)) = .ok (.tuple #[.bool false]) (w.iter glyS (glyO 12)) := fun ty => run_next_end w glyS (glyO 12) ty (by decide)
      go_wp2_with fail
      go_ret2
      exact ⟨by rw [HX.out]; rfl, below_iter _ _ _⟩
end Go.Proofs.YthgojbaindejjaaGreatDoor.lx
