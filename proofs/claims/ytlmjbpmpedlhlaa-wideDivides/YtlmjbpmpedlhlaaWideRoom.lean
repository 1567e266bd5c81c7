/- The contract of wide.room over this translation. -/
import Derived.Test.YtlmjbpmpedlhlaaWideMath2
namespace Go.Proofs.Ytlmjbpmpedlhlaa
open Go.RowKit Go.Lib
attribute [local go_sem] setCell_drewN alloc_drewN

/-- How far d can be shifted up. -/
structure Room (d : Int) (k b : Nat) : Prop where
  k3 : k ≤ 3
  b63 : b < 64
  ge : 57896044618658097711785492504343953926634992332820282019728792003956564819968 ≤ d * 18446744073709551616 ^ k * 2 ^ b
  lt : d * 18446744073709551616 ^ k * 2 ^ b < 115792089237316195423570985008687907853269984665640564039457584007913129639936
theorem room_of {d y T K P : Int} {L : Nat} {G : Int} (N : Norm y L P G) (hTK : T * K = 6277101735386680763835789423207666416102355444464034512896) (hK : 0 < K) (h1 : y * T ≤ d) (h2 : d < (y + 1) * T) :
    57896044618658097711785492504343953926634992332820282019728792003956564819968 ≤ d * K * P ∧ d * K * P < 115792089237316195423570985008687907853269984665640564039457584007913129639936 := by
  have p := N.p0
  have kp : 0 < K * P := Int.mul_pos hK p
  have y0 := N.y0
  have hG : y + 1 ≤ G := by
    have h := N.y1
    rw [← N.pg, Int.mul_comm y] at h
    have := Int.lt_of_mul_lt_mul_left h (Int.le_of_lt p)
    omega
  have c1 : (y + 1) * P ≤ 18446744073709551616 := by
    rw [← N.pg, Int.mul_comm P]
    exact Int.mul_le_mul_of_nonneg_right hG (Int.le_of_lt p)
  have e1 : y * T * (K * P) = 6277101735386680763835789423207666416102355444464034512896 * (y * P) := by
    rw [← hTK, Int.mul_assoc y T, ← Int.mul_assoc T K P, Int.mul_left_comm y]
  have e2 : (y + 1) * T * (K * P) = 6277101735386680763835789423207666416102355444464034512896 * ((y + 1) * P) := by
    rw [← hTK, Int.mul_assoc (y + 1) T, ← Int.mul_assoc T K P, Int.mul_left_comm (y + 1)]
  have a1 := Int.mul_le_mul_of_nonneg_right h1 (Int.le_of_lt kp)
  have a2 := Int.mul_lt_mul_of_pos_right h2 kp
  rw [e1] at a1
  rw [e2] at a2
  rw [Int.mul_assoc]
  generalize d * (K * P) = D at *
  generalize y * P = u at *
  generalize (y + 1) * P = v at *
  omega
theorem cell_zero {x : Int} (h : x = 0) : (x == 0) = true := by simp [h]
theorem cell_not {x : Int} (h : x ≠ 0) : (x == 0) = false := by simp [h]

set_option maxHeartbeats 1000000 in
theorem room_any (d : Int) (w : World) (hd : In d) (hp : d ≠ 0) :
    Calls Try.prog 27 #[big d] w fun e w' => ∃ k b : Nat, e = .returned (.tuple #[.int .i64 k, .int .i64 b]) ∧ Room d k b ∧ Below w.heap.size w w' := by
  have e := four_lm hd
  have b0 := lm_bd d 0; have b1 := lm_bd d 1; have b2 := lm_bd d 2; have b3 := lm_bd d 3
  have HD := hide hd
  clear hd
  by_cases h3 : lm d 3 = 0
  · by_cases h2 : lm d 2 = 0
    · by_cases h1 : lm d 1 = 0
      · have h0 : lm d 0 ≠ 0 := by intro h0; rw [h0, h1, h2, h3] at e; exact hp e.symm
        have N := norm_of (lm d 0) (by omega) b0.2
        have M := room_of (T := 1) (K := 6277101735386680763835789423207666416102355444464034512896) (d := d) N (by decide) (by decide) (by unfold four at e; omega) (by unfold four at e; omega)
        have l1 := N.l1; have l2 := N.l2
        have HM := hide M; have HE := hide e; have HP := hide hp
        have n0 := b0.1; have n1 : lm d 0 ≤ 18446744073709551615 := by omega
        clear N M e hp b0 b1 b2 b3
        replace h3 := cell_zero h3
        replace h2 := cell_zero h2
        replace h1 := cell_zero h1
        replace h0 := cell_not h0
        go_enter Try.func27, Try.ntmps27
        go_wp2
        refine wp_loop_rounds 5 ?_
        rw [rounds_succ]
        go_wp2
        rw [rounds_succ]
        go_wp2
        rw [rounds_succ]
        go_wp2
        rw [rounds_succ]
        go_wp2_with fail
        refine (limb_len_any _ n0 n1 _).mono ?_
        rintro e w1 ⟨rfl, rfl⟩
        generalize bitLen (lm d 0).toNat = L at *
        have e1 : (64 : Int) - L = ((64 - L : Nat) : Int) := by omega
        go_wp2
        go_ret2
        exact ⟨3, 64 - L, rfl, ⟨by omega, by omega, HM.out.1, HM.out.2⟩, bAl (bMe w)⟩
      · have N := norm_of (lm d 1) (by omega) b1.2
        have M := room_of (T := 18446744073709551616) (K := 340282366920938463463374607431768211456) (d := d) N (by decide) (by decide) (by unfold four at e; omega) (by unfold four at e; omega)
        have l1 := N.l1; have l2 := N.l2
        have HM := hide M; have HE := hide e; have HP := hide hp
        have n0 := b1.1; have n1 : lm d 1 ≤ 18446744073709551615 := by omega
        clear N M e hp b0 b1 b2 b3
        replace h3 := cell_zero h3
        replace h2 := cell_zero h2
        replace h1 := cell_not h1
        go_enter Try.func27, Try.ntmps27
        go_wp2
        refine wp_loop_rounds 5 ?_
        rw [rounds_succ]
        go_wp2
        rw [rounds_succ]
        go_wp2
        rw [rounds_succ]
        go_wp2_with fail
        refine (limb_len_any _ n0 n1 _).mono ?_
        rintro e w1 ⟨rfl, rfl⟩
        generalize bitLen (lm d 1).toNat = L at *
        have e1 : (64 : Int) - L = ((64 - L : Nat) : Int) := by omega
        go_wp2
        go_ret2
        exact ⟨2, 64 - L, rfl, ⟨by omega, by omega, HM.out.1, HM.out.2⟩, bAl (bMe w)⟩
    · have N := norm_of (lm d 2) (by omega) b2.2
      have M := room_of (T := 340282366920938463463374607431768211456) (K := 18446744073709551616) (d := d) N (by decide) (by decide) (by unfold four at e; omega) (by unfold four at e; omega)
      have l1 := N.l1; have l2 := N.l2
      have HM := hide M; have HE := hide e; have HP := hide hp
      have n0 := b2.1; have n1 : lm d 2 ≤ 18446744073709551615 := by omega
      clear N M e hp b0 b1 b2 b3
      replace h3 := cell_zero h3
      replace h2 := cell_not h2
      go_enter Try.func27, Try.ntmps27
      go_wp2
      refine wp_loop_rounds 5 ?_
      rw [rounds_succ]
      go_wp2
      rw [rounds_succ]
      go_wp2_with fail
      refine (limb_len_any _ n0 n1 _).mono ?_
      rintro e w1 ⟨rfl, rfl⟩
      generalize bitLen (lm d 2).toNat = L at *
      have e1 : (64 : Int) - L = ((64 - L : Nat) : Int) := by omega
      go_wp2
      go_ret2
      exact ⟨1, 64 - L, rfl, ⟨by omega, by omega, HM.out.1, HM.out.2⟩, bAl (bMe w)⟩
  · have N := norm_of (lm d 3) (by omega) b3.2
    have M := room_of (T := 6277101735386680763835789423207666416102355444464034512896) (K := 1) (d := d) N (by decide) (by decide) (by unfold four at e; omega) (by unfold four at e; omega)
    have l1 := N.l1; have l2 := N.l2
    have HM := hide M; have HE := hide e; have HP := hide hp
    have n0 := b3.1; have n1 : lm d 3 ≤ 18446744073709551615 := by omega
    clear N M e hp b0 b1 b2 b3
    replace h3 := cell_not h3
    go_enter Try.func27, Try.ntmps27
    go_wp2
    refine wp_loop_rounds 5 ?_
    rw [rounds_succ]
    go_wp2_with fail
    refine (limb_len_any _ n0 n1 _).mono ?_
    rintro e w1 ⟨rfl, rfl⟩
    generalize bitLen (lm d 3).toNat = L at *
    have e1 : (64 : Int) - L = ((64 - L : Nat) : Int) := by omega
    go_wp2
    go_ret2
    exact ⟨0, 64 - L, rfl, ⟨by omega, by omega, HM.out.1, HM.out.2⟩, bAl (bMe w)⟩
end Go.Proofs.Ytlmjbpmpedlhlaa
