/- The reference's Strides: what it makes. -/
import Derived.Test.YtehpigijlgkokaaStrides
namespace Go.Proofs.Ytehpigijlgkokaa.strd
open Go.ChangeShapes Go.WideShapes Go.ChangeAt Go.RowKit Go.Proofs.Ytehpigijlgkokaa.mem Go.Proofs.Ytehpigijlgkokaa.mul Go.Proofs.Ytehpigijlgkokaa.prod Go.Proofs.Ytehpigijlgkokaa.shp
set_option linter.unusedVariables false

theorem take_repl {n k : Nat} (h : k < n) : (List.replicate n (0 : Int)).take (k + 1) = (List.replicate n (0 : Int)).take k ++ [0] := take_snoc (by simp [h])
theorem take_strF {xs : List Int} {k : Nat} (h : k < xs.length) : (strF xs).take (k + 1) = (strF xs).take k ++ [prodL (xs.drop (k + 1))] := take_snoc (strF_at h)

set_option maxHeartbeats 1000000 in
theorem refStrides_any (A : Option Addr) (n c : Nat) (xs : List Int) (w : World) (hn : n ≤ maxLen) (hx : Rd w A n xs) :
    Calls Try.prog 23 #[.slice A n c] w (Makes w (strL xs)) := by
  have hn' := hn
  have P1 := refCheck_any A n c xs w hn hx
  have HX := Lib.hid hx; clear hx
  unfold maxLen at hn
  obtain ⟨L, hL⟩ : ∃ L, L = strL xs := ⟨_, rfl⟩
  rw [← hL]
  by_cases h0 : chkE xs = 0
  · have hl16 : n ≤ 16 := by have := (chk_len h0).1; rw [HX.out.1] at this; exact this
    rw [h0] at P1
    have P1 := Lib.hid P1
    rename_i P0; clear P0
    have P2 := fun W h => refCells_any A n c xs W hn' h
    by_cases hc : celN xs = 0
    · have e : L = List.replicate n 0 := by rw [hL]; unfold strL; rw [if_pos h0, if_pos hc, HX.out.1]
      have HE := Lib.hid e; clear e hL
      rw [hc] at P2
      have P2 := Lib.hid P2
      rename_i P0; clear P0 h0 hc
      go_enter Try.func23, Try.ntmps23
      go_wp2_with fail
      refine P1.out.mono ?_
      rintro e w' ⟨rfl, rfl⟩
      go_wp2_with fail
      go_loopw [3, 4] (fun v i wr => ∃ k : Nat, k ≤ n ∧ i = .int .i64 k ∧ Own wr w.heap.size v ((List.replicate n 0).take k) ∧ Below w.heap.size w wr) (fun _ i _ => n - (intOf i).toNat)
      case atStart => exact ⟨0, Nat.zero_le _, rfl, by simpa using own_nil _ _, Below.refl _ _⟩
      case round =>
        obtain ⟨k, hk, rfl, hown, hbel⟩ := hrel
        by_cases hlt : k < n
        · have hlen : ((List.replicate n (0 : Int)).take k).length < 1099511627776 := by rw [List.length_take, List.length_replicate]; omega
          have HLn := Lib.hid hlen; clear hlen
          go_wp2_with fail
          refine (P2.out _ (HX.out.below hbel)).mono ?_
          rintro e w' ⟨rfl, rfl⟩
          go_wp2_with fail
          go_loop [5, 6] (fun s i => s = .int .i64 0 ∧ i = .int .i64 ((k : Int) + 1)) (fun _ _ => 0)
          case atStart => exact ⟨rfl, rfl⟩
          case round =>
            obtain ⟨rfl, rfl⟩ := hrel
            by_cases hk1 : (k : Int) + 1 < (n : Int)
            all_goals
              go_wp2_with (at_builtin; refine wpList_push rfl (.tmp 37) (.tmp 39) rfl _ _ rfl hown hbel _ _ rfl HLn.out ?_; intro v2 w2 hown2 hbel2)
              go_roundw
              case rel => exact ⟨k + 1, by omega, by go_num, by rw [take_repl hlt]; exact hown2, hbel2⟩
              case measure => first | (simp [intOf]; done) | (simp [intOf]; omega)
        · go_wp2_with fail
          go_ret
          exact ⟨_, rfl, by rw [HE.out]; rw [List.take_of_length_le (by rw [List.length_replicate]; omega)] at hown; exact hown, hbel⟩
    · have e : L = strF xs := by rw [hL]; unfold strL; rw [if_pos h0, if_neg hc]
      have HE := Lib.hid e; clear e hL
      obtain ⟨hp, hpl, hle⟩ := right_some h0 hc
      have hc1 : (celN xs == 0) = false := beq_eq_false_iff_ne.2 hc
      have HP := Lib.hid hp
      have HPL := Lib.hid hpl
      have HLE := Lib.hid hle
      clear hp hpl hle h0 hc
      generalize celN xs = N at *
      have P2 := Lib.hid P2
      rename_i P0; clear P0
      go_enter Try.func23, Try.ntmps23
      go_wp2_with fail
      refine P1.out.mono ?_
      rintro e w' ⟨rfl, rfl⟩
      go_wp2_with fail
      go_loopw [3, 4] (fun v i wr => ∃ k : Nat, k ≤ n ∧ i = .int .i64 k ∧ Own wr w.heap.size v ((strF xs).take k) ∧ Below w.heap.size w wr) (fun _ i _ => n - (intOf i).toNat)
      case atStart => exact ⟨0, Nat.zero_le _, rfl, by simpa using own_nil _ _, Below.refl _ _⟩
      case round =>
        obtain ⟨k, hk, rfl, hown, hbel⟩ := hrel
        by_cases hlt : k < n
        · have hlen : ((strF xs).take k).length < 1099511627776 := by rw [List.length_take, strF_len, HX.out.1]; omega
          have HLn := Lib.hid hlen; clear hlen
          have hpos : ∀ m, 1 ≤ prodL (xs.drop m) := fun m => prodL_pos fun y hy => (HP.out y (List.mem_of_mem_drop hy)).1
          have htop : prodL (xs.drop (k + 1)) ≤ 65536 := by
            have := prodL_drop_le (xs := xs) (k + 1) fun y hy => (HP.out y hy).1
            rw [HPL.out] at this
            have := HLE.out
            omega
          have HPos := Lib.hid hpos
          have HTop := Lib.hid htop
          clear hpos htop
          go_wp2_with fail
          refine (P2.out _ (HX.out.below hbel)).mono ?_
          rintro e w' ⟨rfl, rfl⟩
          go_wp2_with fail
          go_loop [5, 6] (fun s i => ∃ m : Nat, m ≤ n ∧ i = .int .i64 m ∧ ∃ q : Int, s = .int .i64 q ∧ 1 ≤ q ∧ q ≤ 65536 ∧ Hid (q * prodL (xs.drop m) = prodL (xs.drop (k + 1)))) (fun _ i => n - (intOf i).toNat)
          case atStart => exact ⟨k + 1, by omega, by go_num, 1, rfl, by omega, by omega, Lib.hid (by omega)⟩
          case round =>
            obtain ⟨m, hm, rfl, q, rfl, hq1, hq2, Hq⟩ := hrel
            by_cases hmn : m < n
            · obtain ⟨ad, x, rfl, hx, hcell⟩ := (HX.out.below hbel).at_ hmn
              have hst := prodL_step hx
              have hx1 := (HP.out x (mem_at hx)).1
              have heq : q * x * prodL (xs.drop (m + 1)) = prodL (xs.drop (k + 1)) := by
                rw [← Hq.out, hst, Int.mul_assoc, Int.mul_comm x]
              have h1 : 1 ≤ q * x := by
                have := Int.mul_le_mul hq1 hx1 (by omega) (by omega)
                omega
              have h2 : q * x ≤ 65536 := by
                have := Int.mul_le_mul_of_nonneg_left (HPos.out (m + 1)) (by omega : 0 ≤ q * x)
                rw [heq] at this
                have := HTop.out
                omega
              have h3 : 0 ≤ q * x := by omega
              have HEQ := Lib.hid heq
              clear heq hst hx
              have hq0 : 0 < q := by omega
              go_wp2_with fail
              go_round
              case rel => exact ⟨m + 1, by omega, by go_num, q * x, rfl, h1, h2, HEQ⟩
              case measure => first | (simp [intOf]; done) | (simp [intOf]; omega)
            · have hqe : q = prodL (xs.drop (k + 1)) := by
                rw [← Hq.out, List.drop_of_length_le (i := m) (by rw [HX.out.1]; omega)]
                show q = q * 1
                omega
              have HQE := Lib.hid hqe; clear hqe
              go_wp2_with (at_builtin; refine wpList_push rfl (.tmp 37) (.tmp 39) rfl _ _ rfl hown hbel _ _ rfl HLn.out ?_; intro v2 w2 hown2 hbel2)
              go_roundw
              case rel => exact ⟨k + 1, by omega, by go_num, by rw [take_strF (by rw [HX.out.1]; exact hlt), ← HQE.out]; exact hown2, hbel2⟩
              case measure => first | (simp [intOf]; done) | (simp [intOf]; omega)
        · go_wp2_with fail
          go_ret
          exact ⟨_, rfl, by rw [HE.out]; rw [List.take_of_length_le (by rw [strF_len, HX.out.1]; omega)] at hown; exact hown, hbel⟩
  · have e : L = [] := by rw [hL]; unfold strL; rw [if_neg h0]
    subst e
    clear hL
    have h01 : (chkE xs == 0) = false := beq_eq_false_iff_ne.2 h0
    have h02 : (chkE xs != 0) = true := by simpa using h0
    clear h0
    generalize chkE xs = E at *
    have P1 := Lib.hid P1
    rename_i P0; clear P0
    go_enter Try.func23, Try.ntmps23
    go_wp2_with fail
    refine P1.out.mono ?_
    rintro e w' ⟨rfl, rfl⟩
    go_wp2_with fail
    go_ret
    exact ⟨_, rfl, own_nil _ _, Below.refl _ _⟩
end Go.Proofs.Ytehpigijlgkokaa.strd
