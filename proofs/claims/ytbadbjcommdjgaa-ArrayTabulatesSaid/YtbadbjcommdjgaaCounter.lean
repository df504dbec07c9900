/- The law's counter of calls (ArrayTabulates): what each call answers and writes. -/
import Derived.Test.YtbadbjcommdjgaaLawCells5
namespace Go.Proofs.Ytbadbjcommdjgaa.laws
open Go.ChangeShapes Go.WideShapes Go.ChangeAt Go.RowKit Go.Proofs.Ytbadbjcommdjgaa.mem Go.Proofs.Ytbadbjcommdjgaa.shp Go.Proofs.Ytbadbjcommdjgaa.eql Go.Proofs.Ytbadbjcommdjgaa.gam Go.Proofs.Ytbadbjcommdjgaa.strd Go.Proofs.Ytbadbjcommdjgaa.arr
set_option linter.unusedVariables false

theorem rof_idx {s : List Int} {N k : Nat} (h0 : chkE s = 0) (hN : (N : Int) = celN s) (hk : k < N) : rofN s (idxN s k) = k ∧ (idxN s k).length = s.length := by
  have hi : inB s k = true := decide_eq_true ⟨by omega, by omega⟩
  obtain ⟨hp, h1, h2, h3⟩ := in_ones h0 hi
  have e : idxN s k = idxL s k := by unfold idxN; rw [if_pos hi]
  have hr := idx_right hp h1 h2
  rw [e]
  refine ⟨?_, idx_len _ _⟩
  unfold rofN
  rw [if_pos hr.1, hr.2]

/-- The counter's cells, when k calls were made. -/
structure Cnt (V : World) (p : Nat) (A : Option Addr) (n c : Nat) (B : Option Addr) (m e : Nat) (k : Nat) : Prop where
  c0 : V.cell? ⟨p, 0, none⟩ = some (.slice A n c)
  c1 : V.cell? ⟨p, 1, none⟩ = some (.slice B m e)
  c2 : V.cell? ⟨p, 2, none⟩ = some (.int .i64 (k : Int))
  c3 : V.cell? ⟨p, 3, none⟩ = some (.bool false)
  f2 : V.frozen? ⟨p, 2, none⟩ = false
theorem Cnt.below {V V' : World} {p n c m e k T : Nat} {A B : Option Addr} (h : Cnt V p A n c B m e k) (hb : Below T V V') (hp : p < T) : Cnt V' p A n c B m e k :=
  ⟨(hb.cell (p := ⟨p, 0, none⟩) hp).trans h.c0, (hb.cell (p := ⟨p, 1, none⟩) hp).trans h.c1, (hb.cell (p := ⟨p, 2, none⟩) hp).trans h.c2, (hb.cell (p := ⟨p, 3, none⟩) hp).trans h.c3, (hb.frozen (p := ⟨p, 2, none⟩) hp).trans h.f2⟩
theorem Cnt.next {V : World} {p n c m e k : Nat} {A B : Option Addr} (h : Cnt V p A n c B m e k) : Cnt (V.setCell ⟨p, 2, none⟩ (.int .i64 ((k : Int) + 1))) p A n c B m e (k + 1) := by
  obtain ⟨h0, h1, h2, h3, h4⟩ := h
  constructor <;> simp [go_sem, h0, h1, h2, h3, h4]

theorem counter_any (p : Nat) (A B Y : Option Addr) (n c m e l f k : Nat) (s d ys : List Int) (V : World) (hn : n ≤ maxLen) (hm : m ≤ maxLen) (hl : l ≤ maxLen) (hs : Rd V A n s) (hd : Rd V B m d) (hy : Rd V Y l ys) (h0 : chkE s = 0) (hr : rofN s ys = k) (hk : k ≤ 65536) (hc : Cnt V p A n c B m e k) (hp : 0 < m → ∀ ad, B = some ad → p ≠ ad.block) :
    Calls Try.prog 21 #[.pointer (some ⟨p, 0, none⟩), .slice Y l f] V fun e V' => e = .returned (.int .i64 (d.getD k 0)) ∧ ∃ q, V' = (V.drewN q).setCell ⟨p, 2, none⟩ (.int .i64 ((k : Int) + 1)) := by
  have P1 := fun c d => refOffset_any A Y n c l d s ys V hn hl hs hy h0
  rw [hr] at P1
  have P1 := fun c d => Lib.hid (P1 c d)
  obtain ⟨h0c, h1c, h2c, h3c, h4c⟩ := hc
  rename_i q1; clear q1 hs hy hr h0
  unfold maxLen at hm
  have hneg : decide ((k : Int) < 0) = false := by simp
  by_cases hlt : k < m
  · obtain ⟨ad, x, rfl, hx, hcx⟩ := hd.at_ hlt
    have HX := Lib.hid (show d.getD k 0 = x by rw [List.getD, hx]; rfl)
    have HC := Lib.hid (show ∀ q, ((V.drewN q).setCell ⟨p, 2, none⟩ (.int .i64 ((k : Int) + 1))).cell? (ad.add k) = some (.int .i64 x) from fun q => by
      rw [World.cell?_setCell_far _ _ _ _ (by rw [blk_add]; exact hp (by omega) ad rfl)]
      exact hcx)
    have hlt' : (k : Int) < (m : Int) := by omega
    have hge : decide ((m : Int) ≤ (k : Int)) = false := by simp; omega
    clear hx hd hp hcx
    go_enter Try.func21, Try.ntmps21
    go_wp2_with fail
    refine (P1 _ _).out.mono ?_
    rintro e w1 ⟨rfl, q, rfl⟩
    have hcq := HC.out q
    go_wp2_with fail
    go_ret
    exact ⟨ret_int HX.out.symm, q, rfl⟩
  · have HX := Lib.hid (show d.getD k 0 = 0 by rw [List.getD, List.getElem?_eq_none (by rw [hd.1]; omega)]; rfl)
    have hge : decide ((m : Int) ≤ (k : Int)) = true := by simp; omega
    clear hd
    go_enter Try.func21, Try.ntmps21
    go_wp2_with fail
    refine (P1 _ _).out.mono ?_
    rintro e w1 ⟨rfl, q, rfl⟩
    go_wp2_with fail
    go_ret
    exact ⟨ret_int HX.out.symm, q, rfl⟩
end Go.Proofs.Ytbadbjcommdjgaa.laws
