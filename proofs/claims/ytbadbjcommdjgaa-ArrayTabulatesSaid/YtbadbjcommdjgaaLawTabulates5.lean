/- The law ArrayTabulates. -/
import Derived.Test.YtbadbjcommdjgaaCounter
namespace Go.Proofs.Ytbadbjcommdjgaa.laws
open Go.ChangeShapes Go.WideShapes Go.ChangeAt Go.RowKit Go.Proofs.Ytbadbjcommdjgaa.mem Go.Proofs.Ytbadbjcommdjgaa.shp Go.Proofs.Ytbadbjcommdjgaa.eql Go.Proofs.Ytbadbjcommdjgaa.gam Go.Proofs.Ytbadbjcommdjgaa.strd Go.Proofs.Ytbadbjcommdjgaa.sml Go.Proofs.Ytbadbjcommdjgaa.arr
set_option linter.unusedVariables false

/-- What holds when k calls were made. -/
structure Made (w : World) (p : Nat) (A : Option Addr) (n c : Nat) (B : Option Addr) (m e : Nat) (k : Nat) (V : World) : Prop where
  aft : Aft w V
  box : Box2 V w.heap.size (.slice A n c) (.slice B m e)
  cnt : Cnt V p A n c B m e k
theorem Made.below {w V V' : World} {p n c m e k T : Nat} {A B : Option Addr} (h : Made w p A n c B m e k V) (hb : Below T V V') (hp : p < T) (hw : w.heap.size < T) : Made w p A n c B m e k V' :=
  ⟨h.aft.trans (hb.mono (Nat.le_of_lt hw)), ⟨(hb.cell (p := ⟨w.heap.size, 0, none⟩) hw).trans h.box.1, (hb.cell (p := ⟨w.heap.size, 1, none⟩) hw).trans h.box.2.1, Nat.lt_of_lt_of_le h.box.2.2 hb.size⟩, h.cnt.below hb hp⟩
theorem counter_back {w : World} {p T n c m e N : Nat} {A B : Option Addr} {s d : List Int} (hn : n ≤ 16) (hm : m ≤ maxLen) (h : RdA w A n B m s d) (h0 : chkE s = 0) (hN : (N : Int) = celN s) (hp : w.heap.size < p) (hpT : p < T) :
    Back 21 #[.pointer (some ⟨p, 0, none⟩)] T n N s (fun k => d.getD k 0) (Made w p A n c B m e) where
  enter := fun _ _ => rfl
  keeps := fun k V V' h1 h2 => h1.below h2 hpT (by omega)
  call := by
    intro k Y f V hk hi hr
    have hN40 : N ≤ 65536 := by have := cel_range s; omega
    have hRd := h.below hi.aft
    have hro := rof_idx h0 hN hk
    refine (counter_any p A B Y n c m e n f k s d (idxN s k) V (by unfold maxLen; omega) hm (by unfold maxLen; omega) hRd.s hRd.d hr h0 hro.1 (by omega) hi.cnt (fun h1 ad e1 => ?_)).mono ?_
    · obtain ⟨ad', e2, hlt, _⟩ := h.d.2 0 h1
      rw [e1] at e2
      injection e2 with e2
      rw [e2]
      omega
    · rintro e1 V' ⟨rfl, q, rfl⟩
      have hb : Below w.heap.size w ((V.drewN q).setCell ⟨p, 2, none⟩ (.int .i64 ((k : Int) + 1))) := (hi.aft.drew q).setCell (Nat.le_of_lt hp) _
      have hc : Cnt (V.drewN q) p A n c B m e k := by
        obtain ⟨c0, c1, c2, c3, f2⟩ := hi.cnt
        exact ⟨by simpa using c0, by simpa using c1, by simpa using c2, by simpa using c3, by simpa using f2⟩
      refine ⟨rfl, ⟨hb, ⟨?_, ?_, ?_⟩, hc.next⟩, ⟨rfl, rfl, rfl, by simp [World.setCell], fun i h1 _ _ => Below.heap_setCell _ _ _ _ (show i ≠ p by omega)⟩⟩
      · rw [World.cell?_setCell_far _ _ _ _ (show p ≠ w.heap.size by omega)]; simpa using hi.box.1
      · rw [World.cell?_setCell_far _ _ _ _ (show p ≠ w.heap.size by omega)]; simpa using hi.box.2.1
      · simpa [World.setCell] using hi.box.2.2

theorem tab_few (A B : Option Addr) (n c m k : Nat) (s d : List Int) (w : World) (hn : n ≤ maxLen) (hm : m ≤ maxLen) (h : RdA w A n B m s d) (hf : fewA n m 300 = false ∨ fewA n m 300 = true ∧ 6 < n) :
    Calls Try.prog 6 #[.agg #[.slice A n c, .slice B m k]] w (Holds w) := by
  have P1 := fun W => refFewA_any A B n c m k 300 W hn hm
  have K0 := Lib.hid (keep_new (c := c) (k := k) h 25)
  clear h
  unfold maxLen at hn
  rcases hf with hf | ⟨hf, h6⟩
  all_goals
    rw [hf] at P1
    have P1 := fun W => Lib.hid (P1 W)
    rename_i q1; clear q1 hf
    go_enter Try.func6, Try.ntmps6
    go_wp2_with fail
    refine (awake_true _).mono ?_
    rintro e w1 ⟨rfl, hb⟩
    have K1 := Lib.hid (K0.out.call hb)
    obtain ⟨k1, k2, _⟩ := K1.out.box
    clear hb K0
    go_wp2_with fail
    refine (P1 _).out.mono ?_
    rintro e w2 ⟨rfl, hb⟩
    have K2 := Lib.hid (K1.out.call hb)
    clear k1 k2
    obtain ⟨k1, k2, _⟩ := K2.out.box
    clear hb K1
    go_wp2_with fail
    refine (awake_true _).mono ?_
    rintro e w3 ⟨rfl, hb⟩
    have K3 := Lib.hid (K2.out.call hb)
    clear hb K2
    go_wp2_with fail
    go_ret
    exact ⟨rfl, K3.out.aft⟩

theorem cnt_new {w : World} {n c m e : Nat} {A B : Option Addr} {t : TypeId} : Cnt (w.alloc (.cells #[.slice A n c, .slice B m e, .int .i64 0, .bool false] t)) w.heap.size A n c B m e 0 := by
  constructor <;> simp

set_option maxRecDepth 100000 in
theorem tab_bad (A B : Option Addr) (n c m k : Nat) (s d : List Int) (w : World) (hn : n ≤ 6) (hm : m ≤ maxLen) (h : RdA w A n B m s d) (hf : fewA n m 300 = true) (he : ¬ chkE s = 0) :
    Calls Try.prog 6 #[.agg #[.slice A n c, .slice B m k]] w (Holds w) := by
  have hn' : n ≤ maxLen := by unfold maxLen; omega
  have P1 := fun W => refFewA_any A B n c m k 300 W hn' hm
  rw [hf] at P1
  have P1 := fun W => Lib.hid (P1 W)
  have P2 := fun fv W h => Lib.hid (tab_wrong fv A n c s W hn' h he)
  have P3 := fun W h => Lib.hid (refCheck_any A n c s W hn' h)
  have hne : (chkE s == 0) = false := by simpa using he
  have K0 := Lib.hid (keep_new (c := c) (k := k) h 25)
  rename_i q1; clear q1 h hf he hn'
  generalize chkE s = E at *
  go_enter Try.func6, Try.ntmps6
  go_wp2_with fail
  refine (awake_true _).mono ?_
  rintro e w1 ⟨rfl, hb⟩
  have K1 := Lib.hid (K0.out.call hb)
  obtain ⟨k1, k2, _⟩ := K1.out.box
  clear hb K0
  go_wp2_with fail
  refine (P1 _).out.mono ?_
  rintro e w2 ⟨rfl, hb⟩
  obtain ⟨V, hV⟩ : ∃ V, V = w2.alloc (.cells #[.slice A n c, .slice B m k, .int .i64 0, .bool false] 44) := ⟨_, rfl⟩
  have hb2 : Below w2.heap.size w2 V := by rw [hV]; exact one_below _ _ _
  have K2 := Lib.hid ((K1.out.call hb).call hb2)
  have C2 := Lib.hid (show Cnt V w2.heap.size A n c B m k 0 ∧ w2.heap.size < V.heap.size by rw [hV]; exact ⟨cnt_new, by simp⟩)
  have HV := Lib.hid hV
  clear k1 k2
  obtain ⟨k1, k2, _⟩ := (K1.out.call hb).box
  clear hb hb2 K1 hV
  go_wp2_with fail
  rw [← HV.out]
  refine (P2 _ _ K2.out.rd.s).out.mono ?_
  rintro e w3 ⟨rfl, hb⟩
  obtain ⟨W, hW⟩ : ∃ W, W = w3.alloc (.cells #[.slice none 0 0, .slice none 0 0] 25) := ⟨_, rfl⟩
  have hb3 : Below w3.heap.size w3 W := by rw [hW]; exact one_below _ _ _
  have K3 := Lib.hid ((K2.out.call hb).call hb3)
  have C3 := Lib.hid ((C2.out.1.below hb C2.out.2).below hb3 (Nat.lt_of_lt_of_le C2.out.2 hb.size))
  have X3 := Lib.hid (show Box2 W w3.heap.size (.slice none 0 0) (.slice none 0 0) by rw [hW]; exact box2_new _ _ _ _)
  have HW := Lib.hid hW
  clear k1 k2
  obtain ⟨k1, k2, _⟩ := (K2.out.call hb).box
  clear hb hb3 K2 C2 hW
  go_wp2_with fail
  have R3 := K3.out.rd.s
  rw [HW.out] at R3
  refine (P3 _ R3).out.mono ?_
  rintro e w4 ⟨rfl, rfl⟩
  clear R3
  rw [← HW.out]
  clear k1 k2
  obtain ⟨k1, k2, _⟩ := K3.out.box
  obtain ⟨x1, x2, _⟩ := X3.out
  have c2 := C3.out.c2
  go_wp2_with fail
  refine (P3 _ K3.out.rd.s).out.mono ?_
  rintro e w4 ⟨rfl, rfl⟩
  go_wp2_with fail
  refine (refArrEqual_at (s := []) (d := []) (s' := []) (d' := []) true (by decide) (by decide) (by decide) (by decide) (by decide) ⟨Rd.nil_, Rd.nil_⟩ ⟨Rd.nil_, Rd.nil_⟩).mono ?_
  rintro e w6 ⟨rfl, hb⟩
  have K6 := Lib.hid (K3.out.call hb)
  clear hb K3 k1 k2 x1 x2 c2
  go_wp2_with fail
  go_ret
  exact ⟨rfl, K6.out.aft⟩

set_option maxHeartbeats 2000000 in
set_option maxRecDepth 100000 in
theorem tab_big (A B : Option Addr) (n c m k : Nat) (s d : List Int) (w : World) (hn : n ≤ 6) (hm : m ≤ maxLen) (h : RdA w A n B m s d) (hf : fewA n m 300 = true) (he : chkE s = 0) (hsm : smlB s 300 = false) :
    Calls Try.prog 6 #[.agg #[.slice A n c, .slice B m k]] w (Holds w) := by
  have hn' : n ≤ maxLen := by unfold maxLen; omega
  have P1 := fun W => Lib.hid (hf ▸ refFewA_any A B n c m k 300 W hn' hm)
  have P3 := fun W h => Lib.hid (he ▸ refCheck_any A n c s W hn' h)
  have P4 := fun W h => Lib.hid (hsm ▸ small_any A n c s 300 W hn' h (by omega) (by omega))
  obtain ⟨N, hN⟩ : ∃ N : Nat, (N : Int) = celN s := ⟨(celN s).toNat, by have := cel_range s; omega⟩
  have P2 := fun p W (h1 : w.heap.size < p) (h2 : p < W.heap.size) (h3 : Rd W A n s) (h4 : Made w p A n c B m k 0 W) => Lib.hid (tab_right 21 #[.pointer (some ⟨p, 0, none⟩)] A n c N s _ _ W (counter_back (c := c) (e := k) (d := d) (by omega) hm h he hN h1 h2) hN he h3 h4)
  have K0 := Lib.hid (keep_new (c := c) (k := k) h 25)
  have HX := Lib.hid h
  clear h hf he hn' hsm hN
  go_enter Try.func6, Try.ntmps6
  go_wp2_with fail
  refine (awake_true _).mono ?_
  rintro e w1 ⟨rfl, hb⟩
  have K1 := Lib.hid (K0.out.call hb)
  obtain ⟨k1, k2, _⟩ := K1.out.box
  clear hb K0
  go_wp2_with fail
  refine (P1 _).out.mono ?_
  rintro e w2 ⟨rfl, hb⟩
  obtain ⟨V, hV⟩ : ∃ V, V = w2.alloc (.cells #[.slice A n c, .slice B m k, .int .i64 0, .bool false] 44) := ⟨_, rfl⟩
  have hb2 : Below w2.heap.size w2 V := by rw [hV]; exact one_below _ _ _
  have K2 := Lib.hid ((K1.out.call hb).call hb2)
  have hp1 : w.heap.size < w2.heap.size := (K1.out.call hb).box.2.2
  have hp2 : w2.heap.size < V.heap.size := by rw [hV]; simp
  have hc2 : Cnt V w2.heap.size A n c B m k 0 := by rw [hV]; exact cnt_new
  have P2 := P2 w2.heap.size V hp1 hp2 K2.out.rd.s ⟨K2.out.aft, K2.out.box, hc2⟩
  have HP := Lib.hid (And.intro hp1 hp2)
  have HV := Lib.hid hV
  clear k1 k2
  obtain ⟨k1, k2, _⟩ := (K1.out.call hb).box
  clear hb hb2 K1 hV hc2 hp1 hp2
  go_wp2_with fail
  rw [← HV.out]
  refine P2.out.mono ?_
  rintro e w3 ⟨gs, gd, rfl, h1, h2, hi, hsz⟩
  obtain ⟨W, hW⟩ : ∃ W, W = w3.alloc (.cells #[.slice (some ⟨gs, 0, none⟩) n n, .slice (some ⟨gd, 0, none⟩) N N] 25) := ⟨_, rfl⟩
  have hb3 : Below w3.heap.size w3 W := by rw [hW]; exact one_below _ _ _
  have M3 := Lib.hid (hi.below hb3 (show w2.heap.size < w3.heap.size from Nat.lt_of_lt_of_le HP.out.2 hsz) (Nat.lt_trans HP.out.1 (Nat.lt_of_lt_of_le HP.out.2 hsz)))
  have R3 := Lib.hid ((RdA.mk h1.rd h2.rd).below hb3)
  have X3 := Lib.hid (show Box2 W w3.heap.size (.slice (some ⟨gs, 0, none⟩) n n) (.slice (some ⟨gd, 0, none⟩) N N) by rw [hW]; exact box2_new _ _ _ _)
  have HW := Lib.hid hW
  have HA := Lib.hid (HX.out.below M3.out.aft)
  have HPW := Lib.hid (show w2.heap.size < W.heap.size from Nat.lt_of_lt_of_le HP.out.2 (Nat.le_trans hsz hb3.size))
  clear k1 k2
  obtain ⟨k1, k2, _⟩ := hi.box
  clear hb3 K2 hW h1 h2 hi hsz P2
  go_wp2_with fail
  have R4 := HA.out.s
  rw [HW.out] at R4
  refine (P3 _ R4).out.mono ?_
  rintro e w4 ⟨rfl, rfl⟩
  clear R4
  rw [← HW.out]
  clear k1 k2
  obtain ⟨k1, k2, _⟩ := M3.out.box
  go_wp2_with fail
  refine (P4 _ HA.out.s).out.mono ?_
  rintro e w4 ⟨rfl, rfl⟩
  go_wp2_with fail
  go_ret
  exact ⟨rfl, M3.out.aft⟩

set_option maxHeartbeats 2000000 in
set_option maxRecDepth 100000 in
theorem tab_long (A B : Option Addr) (n c m k : Nat) (s d : List Int) (w : World) (hn : n ≤ 6) (hm : m ≤ maxLen) (h : RdA w A n B m s d) (hf : fewA n m 300 = true) (he : chkE s = 0) (hsm : smlB s 300 = true) (hc : ¬ chkA s d = 0) :
    Calls Try.prog 6 #[.agg #[.slice A n c, .slice B m k]] w (Holds w) := by
  have hn' : n ≤ maxLen := by unfold maxLen; omega
  have P1 := fun W => Lib.hid (hf ▸ refFewA_any A B n c m k 300 W hn' hm)
  have P3 := fun W h => Lib.hid (he ▸ refCheck_any A n c s W hn' h)
  have P4 := fun W h => Lib.hid (hsm ▸ small_any A n c s 300 W hn' h (by omega) (by omega))
  obtain ⟨N, hN⟩ : ∃ N : Nat, (N : Int) = celN s := ⟨(celN s).toNat, by have := cel_range s; omega⟩
  have P2 := fun p W (h1 : w.heap.size < p) (h2 : p < W.heap.size) (h3 : Rd W A n s) (h4 : Made w p A n c B m k 0 W) => Lib.hid (tab_right 21 #[.pointer (some ⟨p, 0, none⟩)] A n c N s _ _ W (counter_back (c := c) (e := k) (d := d) (by omega) hm h he hN h1 h2) hN he h3 h4)
  have P5 := fun W h => Lib.hid (refArrCheck_any A B n c m k s d W hn' hm h)
  have hne : (chkA s d == 0) = false := by simpa using hc
  have K0 := Lib.hid (keep_new (c := c) (k := k) h 25)
  have HX := Lib.hid h
  clear h hf he hn' hsm hN
  clear hc
  generalize chkA s d = E at *
  go_enter Try.func6, Try.ntmps6
  go_wp2_with fail
  refine (awake_true _).mono ?_
  rintro e w1 ⟨rfl, hb⟩
  have K1 := Lib.hid (K0.out.call hb)
  obtain ⟨k1, k2, _⟩ := K1.out.box
  clear hb K0
  go_wp2_with fail
  refine (P1 _).out.mono ?_
  rintro e w2 ⟨rfl, hb⟩
  obtain ⟨V, hV⟩ : ∃ V, V = w2.alloc (.cells #[.slice A n c, .slice B m k, .int .i64 0, .bool false] 44) := ⟨_, rfl⟩
  have hb2 : Below w2.heap.size w2 V := by rw [hV]; exact one_below _ _ _
  have K2 := Lib.hid ((K1.out.call hb).call hb2)
  have hp1 : w.heap.size < w2.heap.size := (K1.out.call hb).box.2.2
  have hp2 : w2.heap.size < V.heap.size := by rw [hV]; simp
  have hc2 : Cnt V w2.heap.size A n c B m k 0 := by rw [hV]; exact cnt_new
  have P2 := P2 w2.heap.size V hp1 hp2 K2.out.rd.s ⟨K2.out.aft, K2.out.box, hc2⟩
  have HP := Lib.hid (And.intro hp1 hp2)
  have HV := Lib.hid hV
  clear k1 k2
  obtain ⟨k1, k2, _⟩ := (K1.out.call hb).box
  clear hb hb2 K1 hV hc2 hp1 hp2
  go_wp2_with fail
  rw [← HV.out]
  refine P2.out.mono ?_
  rintro e w3 ⟨gs, gd, rfl, h1, h2, hi, hsz⟩
  obtain ⟨W, hW⟩ : ∃ W, W = w3.alloc (.cells #[.slice (some ⟨gs, 0, none⟩) n n, .slice (some ⟨gd, 0, none⟩) N N] 25) := ⟨_, rfl⟩
  have hb3 : Below w3.heap.size w3 W := by rw [hW]; exact one_below _ _ _
  have M3 := Lib.hid (hi.below hb3 (show w2.heap.size < w3.heap.size from Nat.lt_of_lt_of_le HP.out.2 hsz) (Nat.lt_trans HP.out.1 (Nat.lt_of_lt_of_le HP.out.2 hsz)))
  have R3 := Lib.hid ((RdA.mk h1.rd h2.rd).below hb3)
  have X3 := Lib.hid (show Box2 W w3.heap.size (.slice (some ⟨gs, 0, none⟩) n n) (.slice (some ⟨gd, 0, none⟩) N N) by rw [hW]; exact box2_new _ _ _ _)
  have HW := Lib.hid hW
  have HA := Lib.hid (HX.out.below M3.out.aft)
  have HPW := Lib.hid (show w2.heap.size < W.heap.size from Nat.lt_of_lt_of_le HP.out.2 (Nat.le_trans hsz hb3.size))
  clear k1 k2
  obtain ⟨k1, k2, _⟩ := hi.box
  clear hb3 K2 hW h1 h2 hi hsz P2
  go_wp2_with fail
  have R4 := HA.out.s
  rw [HW.out] at R4
  refine (P3 _ R4).out.mono ?_
  rintro e w4 ⟨rfl, rfl⟩
  clear R4
  rw [← HW.out]
  clear k1 k2
  obtain ⟨k1, k2, _⟩ := M3.out.box
  go_wp2_with fail
  refine (P4 _ HA.out.s).out.mono ?_
  rintro e w4 ⟨rfl, rfl⟩
  go_wp2_with fail
  refine (P5 _ HA.out).out.mono ?_
  rintro e w5 ⟨rfl, hb⟩
  have A5 := Lib.hid (M3.out.aft.call hb)
  clear hb
  go_wp2_with fail
  go_ret
  exact ⟨rfl, A5.out⟩

theorem map_get {d : List Int} {N : Nat} (h : d.length = N) : (List.range N).map (fun k => d.getD k 0) = d := by
  subst h
  apply List.ext_getElem (by simp)
  intro i h1 h2
  simp at h1
  simp [List.getD, h1]

set_option maxHeartbeats 2000000 in
set_option maxRecDepth 100000 in
theorem tab_good (A B : Option Addr) (n c m k : Nat) (s d : List Int) (w : World) (hn : n ≤ 6) (hm : m ≤ maxLen) (h : RdA w A n B m s d) (hf : fewA n m 300 = true) (he : chkE s = 0) (hsm : smlB s 300 = true) (hc : chkA s d = 0) :
    Calls Try.prog 6 #[.agg #[.slice A n c, .slice B m k]] w (Holds w) := by
  have hn' : n ≤ maxLen := by unfold maxLen; omega
  have P1 := fun W => Lib.hid (hf ▸ refFewA_any A B n c m k 300 W hn' hm)
  have P3 := fun W h => Lib.hid (he ▸ refCheck_any A n c s W hn' h)
  have P4 := fun W h => Lib.hid (hsm ▸ small_any A n c s 300 W hn' h (by omega) (by omega))
  obtain ⟨N, hN⟩ : ∃ N : Nat, (N : Int) = celN s := ⟨(celN s).toNat, by have := cel_range s; omega⟩
  have P2 := fun p W (h1 : w.heap.size < p) (h2 : p < W.heap.size) (h3 : Rd W A n s) (h4 : Made w p A n c B m k 0 W) => Lib.hid (tab_right 21 #[.pointer (some ⟨p, 0, none⟩)] A n c N s _ _ W (counter_back (c := c) (e := k) (d := d) (by omega) hm h he hN h1 h2) hN he h3 h4)
  have P5 := fun W h => Lib.hid (hc ▸ refArrCheck_any A B n c m k s d W hn' hm h)
  have hNm : N = m := by have := (chkA_0 hc).2; rw [h.d.1] at this; omega
  have HMG := Lib.hid (map_get (d := d) (N := N) (by rw [h.d.1]; exact hNm.symm))
  have P6 := fun gs gd W h => Lib.hid (refArrEqual_at (A := some ⟨gs, 0, none⟩) (B := some ⟨gd, 0, none⟩) (A' := A) (B' := B) (n := n) (c := n) (m := N) (k := N) (n' := n) (c' := c) (m' := m) (k' := k) (s := s) (d := d) (s' := s) (d' := d) (w := W) true eqA_of hn' (by rw [hNm]; exact hm) hn' hm h)
  have K0 := Lib.hid (keep_new (c := c) (k := k) h 25)
  have HX := Lib.hid h
  clear h hf he hn' hsm hN
  clear hc
  have HNM := Lib.hid hNm
  clear hNm
  go_enter Try.func6, Try.ntmps6
  go_wp2_with fail
  refine (awake_true _).mono ?_
  rintro e w1 ⟨rfl, hb⟩
  have K1 := Lib.hid (K0.out.call hb)
  obtain ⟨k1, k2, _⟩ := K1.out.box
  clear hb K0
  go_wp2_with fail
  refine (P1 _).out.mono ?_
  rintro e w2 ⟨rfl, hb⟩
  obtain ⟨V, hV⟩ : ∃ V, V = w2.alloc (.cells #[.slice A n c, .slice B m k, .int .i64 0, .bool false] 44) := ⟨_, rfl⟩
  have hb2 : Below w2.heap.size w2 V := by rw [hV]; exact one_below _ _ _
  have K2 := Lib.hid ((K1.out.call hb).call hb2)
  have hp1 : w.heap.size < w2.heap.size := (K1.out.call hb).box.2.2
  have hp2 : w2.heap.size < V.heap.size := by rw [hV]; simp
  have hc2 : Cnt V w2.heap.size A n c B m k 0 := by rw [hV]; exact cnt_new
  have P2 := P2 w2.heap.size V hp1 hp2 K2.out.rd.s ⟨K2.out.aft, K2.out.box, hc2⟩
  have HP := Lib.hid (And.intro hp1 hp2)
  have HV := Lib.hid hV
  clear k1 k2
  obtain ⟨k1, k2, _⟩ := (K1.out.call hb).box
  clear hb hb2 K1 hV hc2 hp1 hp2
  go_wp2_with fail
  rw [← HV.out]
  refine P2.out.mono ?_
  rintro e w3 ⟨gs, gd, rfl, h1, h2, hi, hsz⟩
  obtain ⟨W, hW⟩ : ∃ W, W = w3.alloc (.cells #[.slice (some ⟨gs, 0, none⟩) n n, .slice (some ⟨gd, 0, none⟩) N N] 25) := ⟨_, rfl⟩
  have hb3 : Below w3.heap.size w3 W := by rw [hW]; exact one_below _ _ _
  have M3 := Lib.hid (hi.below hb3 (show w2.heap.size < w3.heap.size from Nat.lt_of_lt_of_le HP.out.2 hsz) (Nat.lt_trans HP.out.1 (Nat.lt_of_lt_of_le HP.out.2 hsz)))
  have R3 := Lib.hid ((RdA.mk h1.rd h2.rd).below hb3)
  have X3 := Lib.hid (show Box2 W w3.heap.size (.slice (some ⟨gs, 0, none⟩) n n) (.slice (some ⟨gd, 0, none⟩) N N) by rw [hW]; exact box2_new _ _ _ _)
  have HW := Lib.hid hW
  have HA := Lib.hid (HX.out.below M3.out.aft)
  have HPW := Lib.hid (show w2.heap.size < W.heap.size from Nat.lt_of_lt_of_le HP.out.2 (Nat.le_trans hsz hb3.size))
  clear k1 k2
  obtain ⟨k1, k2, _⟩ := hi.box
  clear hb3 K2 hW h1 h2 hi hsz P2
  go_wp2_with fail
  have R4 := HA.out.s
  rw [HW.out] at R4
  refine (P3 _ R4).out.mono ?_
  rintro e w4 ⟨rfl, rfl⟩
  clear R4
  rw [← HW.out]
  clear k1 k2
  obtain ⟨k1, k2, _⟩ := M3.out.box
  go_wp2_with fail
  refine (P4 _ HA.out.s).out.mono ?_
  rintro e w4 ⟨rfl, rfl⟩
  go_wp2_with fail
  refine (P5 _ HA.out).out.mono ?_
  rintro e w5 ⟨rfl, hb⟩
  have B5 := Lib.hid hb
  have KC : ∀ V, Below W.heap.size W V → V.cell? ⟨w3.heap.size, 0, none⟩ = some (.slice (some ⟨gs, 0, none⟩) n n) ∧ V.cell? ⟨w3.heap.size, 1, none⟩ = some (.slice (some ⟨gd, 0, none⟩) N N) ∧ V.cell? ⟨w.heap.size, 0, none⟩ = some (.slice A n c) ∧ V.cell? ⟨w.heap.size, 1, none⟩ = some (.slice B m k) ∧ V.cell? ⟨w2.heap.size, 2, none⟩ = some (.int .i64 (N : Int)) ∧ V.cell? ⟨w2.heap.size, 3, none⟩ = some (.bool false) := fun V h =>
    ⟨(X3.out.below h).1, (X3.out.below h).2.1, (M3.out.box.below h).1, (M3.out.box.below h).2.1, (M3.out.cnt.below h HPW.out).c2, (M3.out.cnt.below h HPW.out).c3⟩
  have HKC := Lib.hid KC
  clear hb KC k1 k2
  obtain ⟨k1, k2, k3, k4, k5, k6⟩ := HKC.out _ B5.out
  have hNmi : ((N : Int) == (m : Int)) = true := by rw [HNM.out]; simp
  have hNmj : (N == m) = true := by simpa using HNM.out
  have hNmk : decide (N = m) = true := by simpa using HNM.out
  go_wp2_with fail
  go_region_held3 (fun w' => w'.cell? ⟨w3.heap.size, 0, none⟩ = some (.slice (some ⟨gs, 0, none⟩) n n) ∧ w'.cell? ⟨w3.heap.size, 1, none⟩ = some (.slice (some ⟨gd, 0, none⟩) N N) ∧ w'.cell? ⟨w.heap.size, 0, none⟩ = some (.slice A n c) ∧ w'.cell? ⟨w.heap.size, 1, none⟩ = some (.slice B m k) ∧ w'.cell? ⟨w2.heap.size, 2, none⟩ = some (.int .i64 (N : Int)) ∧ w'.cell? ⟨w2.heap.size, 3, none⟩ = some (.bool false)) (go_keep)
    (first
      | (go_at_call 13
         (have R5 := Lib.hid ((R3.out.below B5.out).below (Below.drew (Below.refl _ w5))))
         (have R6 := Lib.hid ((HA.out.below B5.out).below (Below.drew (Below.refl _ w5))))
         (have R5 := Lib.hid (HMG.out ▸ R5.out))
         (refine (P6 _ _ _ R5.out).out R6.out |>.mono ?_)
         rintro e w6 ⟨rfl, h3⟩
         have HK6 := Lib.hid (below_step (W := W) B5.out.drew h3)
         obtain ⟨r1, r2, r3, r4, r5, r6⟩ := HKC.out _ HK6.out
         clear h3))
  all_goals
    go_wp2_with fail
    go_ret
    exact ⟨rfl, M3.out.aft.call HK6.out⟩

theorem walk_ArrayTabulates (A B : Option Addr) (n c m k : Nat) (s d : List Int) (w : World) (hs : In w A n c s) (hd : In w B m k d) :
    Calls Try.prog 6 #[.agg #[.slice A n c, .slice B m k]] w (Holds w) := by
  have h : RdA w A n B m s d := ⟨hs.rd, hd.rd⟩
  cases hf : fewA n m 300
  · exact tab_few A B n c m k s d w hs.len hd.len h (.inl hf)
  · by_cases h6 : 6 < n
    · exact tab_few A B n c m k s d w hs.len hd.len h (.inr ⟨hf, h6⟩)
    · by_cases he : chkE s = 0
      · cases hsm : smlB s 300
        · exact tab_big A B n c m k s d w (by omega) hd.len h hf he hsm
        · by_cases hc : chkA s d = 0
          · exact tab_good A B n c m k s d w (by omega) hd.len h hf he hsm hc
          · exact tab_long A B n c m k s d w (by omega) hd.len h hf he hsm hc
      · exact tab_bad A B n c m k s d w (by omega) hd.len h hf he
end Go.Proofs.Ytbadbjcommdjgaa.laws
