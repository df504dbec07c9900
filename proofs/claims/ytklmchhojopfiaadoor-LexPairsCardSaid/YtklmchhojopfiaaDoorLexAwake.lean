/- The fixed calls that every law of stage 7 makes first. -/
import Derived.Test.YtklmchhojopfiaaDoorLexToks
import Derived.Test.YtklmchhojopfiaaDoorLexNam
import Derived.Test.YtklmchhojopfiaaDoorGlue
import Derived.Test.YtklmchhojopfiaaDoorAft
import Derived.Laws.StructEq
namespace Go.Proofs.YtklmchhojopfiaaDoor.lx
open Go.ChangeShapes Go.WideShapes Go.ChangeAt Go.RowKit Go.Proofs.YtklmchhojopfiaaDoor.mem Go.Proofs.YtklmchhojopfiaaDoor.txt
set_option linter.unusedVariables false

theorem toList_str (l : List UInt8) : (txt.strOf l).toList = l := by rw [Lib.toList_data]; exact bl_str l
def L0 : List Tk := [⟨2, [194, 175, 53], -5⟩, ⟨2, [50], 2⟩, ⟨3, [226, 134, 145], 0⟩, ⟨1, [120], 0⟩]
theorem tok0 : tokL [194, 175, 53, 32, 50, 226, 134, 145, 120] = L0 ∧ okI [194, 175, 53, 32, 50, 226, 134, 145, 120] = 0 := by decide +kernel
theorem tok1 : tokL [48, 49] = [] ∧ okI [48, 49] = 1 := by decide +kernel
theorem tok2 : tokL [53, 120] = [] ∧ okI [53, 120] = 1 := by decide +kernel
theorem tok3 : tokL [194, 175, 48] = [] ∧ okI [194, 175, 48] = 1 := by decide +kernel
theorem glue0 : glueL L0 = [194, 175, 53, 32, 50, 226, 134, 145, 120] := by decide +kernel
theorem name0 : nameB [120, 49, 95] = true ∧ nameB [49, 120] = false := by decide +kernel
theorem dec0 : decL (-3) = [194, 175, 51] := by
  unfold decL
  rw [if_pos (by decide), show (-3 : Int).natAbs = 3 from rfl, Lib.decDigits_one (by decide)]; rfl
set_option maxHeartbeats 4000000 in
set_option maxRecDepth 100000 in
theorem awake_true (w : World) (hL : Lays w) : Calls Tryd.prog 7 #[] w (Holds w) := by
  have T0 := Lib.hid (fun W h => tokens_any [194, 175, 53, 32, 50, 226, 134, 145, 120] (by decide) W h)
  have T1 := Lib.hid (fun W h => tokens_any [48, 49] (by decide) W h)
  have T2 := Lib.hid (fun W h => tokens_any [53, 120] (by decide) W h)
  have T3 := Lib.hid (fun W h => tokens_any [194, 175, 48] (by decide) W h)
  rw [tok0.1, tok0.2] at T0
  rw [tok1.1, tok1.2] at T1
  rw [tok2.1, tok2.2] at T2
  rw [tok3.1, tok3.2] at T3
  have N0 := Lib.hid (fun W => name_any [120, 49, 95] W (by decide))
  have N1 := Lib.hid (fun W => name_any [49, 120] W (by decide))
  rw [name0.1] at N0
  rw [name0.2] at N1
  have D0 := Lib.hid (fun W h => decimal7_any (-3) (by decide) (by decide) W h)
  rw [dec0] at D0
  have G0 := Lib.hid (fun A c W h => glue_any A 4 c L0 W (by decide) h (by decide))
  rw [glue0] at G0
  have HL := Lib.hid hL; clear hL
  go_enter Tryd.func7, Tryd.ntmps7
  go_wp2_with fail
  refine (T0.out _ HL.out).mono ?_
  rintro e w1 ⟨A0, c0, rfl, ho, hb⟩
  have HR := Lib.hid ho.rd
  have A1 := Lib.hid ((Aft.refl w).call hb)
  clear ho hb
  have hlen0 : L0.length = 4 := rfl
  rw [hlen0] at HR ⊢
  clear hlen0
  go_wp2_with fail
  refine (T1.out _ (HL.out.below A1.out)).mono ?_
  rintro e w2 ⟨A1', c1, rfl, _, hb⟩
  have HR := Lib.hid (HR.out.below hb)
  have A1 := Lib.hid (A1.out.call hb)
  clear hb
  go_wp2_with fail
  refine (T2.out _ (HL.out.below A1.out)).mono ?_
  rintro e w3 ⟨A2', c2, rfl, _, hb⟩
  have HR := Lib.hid (HR.out.below hb)
  have A1 := Lib.hid (A1.out.call hb)
  clear hb
  go_wp2_with fail
  refine (T3.out _ (HL.out.below A1.out)).mono ?_
  rintro e w4 ⟨A3', c3, rfl, _, hb⟩
  have HR := Lib.hid (HR.out.below hb)
  have A1 := Lib.hid (A1.out.call hb)
  clear hb
  obtain ⟨ad, rfl, _, x1, x2, x3⟩ := HR.out.2 0 _ rfl
  obtain ⟨ad2, e2, _, y1, y2, y3⟩ := HR.out.2 2 _ rfl
  obtain rfl := Option.some.inj e2
  clear e2
  replace x2 := cell_snd x2; replace x3 := cell_trd x3
  replace y2 := cell_snd y2; replace y3 := cell_trd y3
  have ha0 : ad.add (0 * 3) = ad := by unfold Addr.add; simp
  have ha2 : ad.add (2 * 3) = ⟨ad.block, ad.off + 6, none⟩ := by unfold Addr.add; simp
  rw [ha0] at x1 x2 x3
  rw [ha2] at y1 y2 y3
  clear ha0 ha2
  simp only [] at x1 x2 x3 y1 y2 y3
  have s1 := toList_str [194, 175, 53]
  have s2 := toList_str [226, 134, 145]
  have s3 := toList_str [194, 175, 53, 32, 50, 226, 134, 145, 120]
  have s4 := toList_str [194, 175, 51]
  go_wp2_with fail
  refine (G0.out (some ad) _ _ HR.out).mono ?_
  rintro e w5 ⟨rfl, hb⟩
  have A1 := Lib.hid (A1.out.call hb); clear hb
  go_wp2_with fail
  refine (N0.out _).mono ?_
  rintro e w6 ⟨rfl, hb⟩
  have A1 := Lib.hid (A1.out.call hb); clear hb
  go_wp2_with fail
  refine (N1.out _).mono ?_
  rintro e w7 ⟨rfl, hb⟩
  have A1 := Lib.hid (A1.out.call hb); clear hb
  go_wp2_with fail
  refine (D0.out _ (HL.out.below A1.out)).mono ?_
  rintro e w8 ⟨rfl, hb⟩
  have A1 := Lib.hid (A1.out.call hb); clear hb
  go_wp2_with fail
  go_ret
  exact ⟨rfl, A1.out⟩
end Go.Proofs.YtklmchhojopfiaaDoor.lx
