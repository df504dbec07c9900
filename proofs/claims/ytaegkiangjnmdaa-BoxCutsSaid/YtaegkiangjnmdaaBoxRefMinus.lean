/- The reference's Minus. -/
import Derived.Test.YtaegkiangjnmdaaBoxLaw
namespace Go.Proofs.Ytaegkiangjnmdaa.laws
open Go.ChangeShapes Go.WideShapes Go.ChangeAt Go.RowKit Go.Proofs.Ytaegkiangjnmdaa.mem Go.Proofs.Ytaegkiangjnmdaa.prod Go.Proofs.Ytaegkiangjnmdaa.shp Go.Proofs.Ytaegkiangjnmdaa.strd Go.Proofs.Ytaegkiangjnmdaa.gam Go.Proofs.Ytaegkiangjnmdaa.sml Go.Proofs.Ytaegkiangjnmdaa.all Go.Proofs.Ytaegkiangjnmdaa.odo Go.Proofs.Ytaegkiangjnmdaa.eql Go.Proofs.Ytaegkiangjnmdaa.arr Go.Proofs.Ytaegkiangjnmdaa.bx
set_option linter.unusedVariables false

/-- What a call answers that lists boxes. -/
def ListsX (w : World) (L : List Bx) (e : Ending) (w' : World) : Prop := ∃ P c, e = .returned (.slice P L.length c) ∧ RdXs w' none 0 P L.length L ∧ Below w.heap.size w w'
theorem rbox_info : (Try.prog.info? 24).map (fun i => (i.zero, i.size, i.bytes)) = some (some (.agg #[.slice none 0 0, .slice none 0 0]), 2, 48) := by kernel_rfl
theorem mixU_lt {U V : List Int} {k j : Nat} {x : Int} (hj : j < k) (hk : k ≤ U.length) (hx : U[j]? = some x) : (mixU U V k)[j]? = some x := by
  unfold mixU
  rw [List.getElem?_append_left (by simp; omega), List.getElem?_take, if_pos hj]
  exact hx
theorem mixU_ge {U V : List Int} {k j : Nat} {x : Int} (hj : k ≤ j) (hk : k ≤ U.length) (hx : V[j]? = some x) : (mixU U V k)[j]? = some x := by
  have hl : (U.take k).length = k := by simp; omega
  unfold mixU
  rw [List.getElem?_append_right (by omega), hl, List.getElem?_drop, show k + (j - k) = j by omega]
  exact hx
theorem set_other {l : List Int} {k j : Nat} {x y : Int} (h : j ≠ k) (hx : l[j]? = some x) : (l.set k y)[j]? = some x := by
  rw [List.getElem?_set_ne (fun e => h e.symm)]; exact hx
theorem set_here {l : List Int} {k : Nat} {y : Int} (h : k < l.length) : (l.set k y)[k]? = some y := by
  rw [List.getElem?_set_self h]

theorem refMinus_empty (A B A' B' : Option Addr) (n c d n' c' m' d' : Nat) (al ah : List Int) (w : World) (hn : n ≤ maxLen) (ha : Rd w A n al) (hb : Rd w B n ah) (a0 : A = none → c = 0) (a1 : B = none → d = 0) (he : insB al ah al = false) :
    Calls Try.prog 19 #[.agg #[.slice A n c, .slice B n d], .agg #[.slice A' n' c', .slice B' m' d']] w (ListsX w []) := by
  have P1 := fun W h1 h2 => Lib.hid (he ▸ refEmpty_any A B n c d al ah W hn h1 h2)
  have K0 := Lib.hid ((kl_one (c := c) (d := d) ha hb a0 a1 24).call (one_below _ #[.slice A' n' c', .slice B' m' d'] 24))
  clear ha hb a0 a1 he hn
  obtain ⟨k1, k2, _⟩ := K0.out.kx.box
  go_enter Try.func19, Try.ntmps19
  go_wp2_with fail
  refine (P1 _ K0.out.kx.lo K0.out.kx.hi).out.mono ?_
  rintro e w1 ⟨rfl, hb⟩
  have K1 := Lib.hid (K0.out.call hb)
  clear hb
  go_wp2_with fail
  go_ret
  exact ⟨none, 0, rfl, ⟨rfl, fun k p h => by simp at h⟩, K1.out.aft⟩

theorem refMinus_apart (A B A' B' : Option Addr) (n c d n' c' m' d' : Nat) (al ah bl bh : List Int) (w : World) (hn : n ≤ maxLen) (ha : Rd w A n al) (hb : Rd w B n ah) (a0 : A = none → c = 0) (a1 : B = none → d = 0) (hnc : n ≤ c) (hcm : c ≤ maxLen) (hnd : n ≤ d) (hdm : d ≤ maxLen) (he : insB al ah al = true)
    (hbl : Rd w A' n' bl) (hbh : Rd w B' m' bh) (b0 : A' = none → c' = 0) (b1 : B' = none → d' = 0)
    (hI : ∀ W, Rd W A n al → Rd W B n ah → Rd W A' n' bl → Rd W B' m' bh → Hid (Calls Try.prog 12 #[.agg #[.slice A n c, .slice B n d], .agg #[.slice A' n' c', .slice B' m' d']] W (NoX W))) :
    Calls Try.prog 19 #[.agg #[.slice A n c, .slice B n d], .agg #[.slice A' n' c', .slice B' m' d']] w (ListsX w [(al, ah)]) := by
  have P1 := fun W h1 h2 => Lib.hid (he ▸ refEmpty_any A B n c d al ah W hn h1 h2)
  obtain ⟨W, hW⟩ : ∃ W, W = (w.alloc (.cells #[.slice A n c, .slice B n d] 24)).alloc (.cells #[.slice A' n' c', .slice B' m' d'] 24) := ⟨_, rfl⟩
  obtain ⟨q1, q2⟩ := kl_two hW ha hb a0 a1 hbl hbh b0 b1
  have KA := Lib.hid q1; have KB := Lib.hid q2
  have HW := Lib.hid hW
  have HC := Lib.hid (And.intro hnc (And.intro hcm (And.intro hnd hdm)))
  clear ha hb a0 a1 he hn hbl hbh b0 b1 hW q1 q2 hnc hcm hnd hdm
  obtain ⟨k1, k2, _⟩ := KA.out.kx.box
  obtain ⟨k3, k4, _⟩ := KB.out.kx.box
  go_enter Try.func19, Try.ntmps19
  go_wp2_with fail
  rw [← HW.out]
  go_wp2_with fail
  refine (P1 _ KA.out.kx.lo KA.out.kx.hi).out.mono ?_
  rintro e w1 ⟨rfl, hb⟩
  have KA := Lib.hid (KA.out.call hb)
  have KB := Lib.hid (KB.out.call hb)
  clear hb
  obtain ⟨k1, k2, _⟩ := KA.out.kx.box
  obtain ⟨k3, k4, _⟩ := KB.out.kx.box
  go_wp2_with fail
  refine (hI _ KA.out.kx.lo KA.out.kx.hi KB.out.kx.lo KB.out.kx.hi).out.mono ?_
  rintro e w2 ⟨rfl, hb⟩
  obtain ⟨V, hV⟩ : ∃ V, V = w2.alloc (.cells #[.slice none 0 0, .slice none 0 0] 24) := ⟨_, rfl⟩
  have hb2 := below_more hb (.cells #[.slice none 0 0, .slice none 0 0] 24)
  rw [← hV] at hb2
  have KA := Lib.hid (KA.out.call hb2)
  have HV := Lib.hid hV
  clear hb hb2 hV
  obtain ⟨k1, k2, _⟩ := KA.out.kx.box
  go_upto_region 4 with fail
  rw [← HV.out]
  go_wp2_with fail
  go_ret
  have HBA := below_step KA.out.aft (one_below V #[.slice A n c, .slice B n d] 24)
  refine ⟨_, _, rfl, ?_, HBA⟩
  exact rdXs_one (p := (al, ah)) (el_of_rd KA.out.kx.lo HC.out.1 HC.out.2.1 KA.out.kx.a0) (el_of_rd KA.out.kx.hi HC.out.2.2.1 HC.out.2.2.2 KA.out.kx.b0) (lies_zero _) (lies_zero _) (fun g e => by cases e) _
end Go.Proofs.Ytaegkiangjnmdaa.laws
