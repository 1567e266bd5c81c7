/- Plain arithmetic of wide.Divide: what is shifted, and how it begins and ends. -/
import Derived.Test.YtlmjbpmpedlhlaaWideRoom
namespace Go.Proofs.Ytlmjbpmpedlhlaa
open Go.RowKit Go.Lib

theorem Room.pos {d : Int} {k b : Nat} (M : Room d k b) : 0 < d := by
  have h := M.ge
  have p : 0 < (18446744073709551616 : Int) ^ k * 2 ^ b := Int.mul_pos (bp k) (two_pos b)
  rw [Int.mul_assoc] at h
  rcases Int.lt_or_le 0 d with h1 | h1
  · exact h1
  · have := Int.mul_le_mul_of_nonneg_right h1 (Int.le_of_lt p)
    rw [Int.zero_mul] at this
    omega
theorem Room.inn {d : Int} {k b : Nat} (M : Room d k b) : In (d * 18446744073709551616 ^ k * 2 ^ b) := ⟨by have := M.ge; omega, M.lt⟩
theorem Room.top {d : Int} {k b : Nat} (M : Room d k b) : 0 < lm (d * 18446744073709551616 ^ k * 2 ^ b) 3 := by
  have h1 := M.ge; have h2 := M.lt
  rw [lm3]
  omega
theorem zero_lim : Lim (fun _ => 0) := by intro j; show (0 : Int) ≤ 0 ∧ (0 : Int) < 18446744073709551616; omega
/-- d, shifted. -/
theorem by_val {d : Int} {k b : Nat} (M : Room d k b) : vl (up (laid (fun _ => 0) (lm d) k 0 (4 - k)) b) 4 = d * 18446744073709551616 ^ k * 2 ^ b := by
  have k3 := M.k3
  have d0 := M.pos
  have p := two_pos b
  have h1 : vl (laid (fun _ => 0) (lm d) k 0 (4 - k)) 4 = d * 18446744073709551616 ^ k := by
    rw [vl_laid _ _ _ _ (by omega), vl_lm]
    congr 1
    refine Int.emod_eq_of_lt (by omega) ?_
    have h2 := M.lt
    have e : (115792089237316195423570985008687907853269984665640564039457584007913129639936 : Int) = 18446744073709551616 ^ (4 - k) * 18446744073709551616 ^ k := by
      rw [← Int.pow_add, show 4 - k + k = 4 by omega]; rfl
    have h3 : d * 18446744073709551616 ^ k * 1 ≤ d * 18446744073709551616 ^ k * 2 ^ b := Int.mul_le_mul_of_nonneg_left (by omega) (Int.mul_nonneg (by omega) (Int.le_of_lt (bp k)))
    rw [Int.mul_one] at h3
    have h4 : d * 18446744073709551616 ^ k < 18446744073709551616 ^ (4 - k) * 18446744073709551616 ^ k := by rw [← e]; omega
    exact Int.lt_of_mul_lt_mul_right h4 (Int.le_of_lt (bp k))
  rw [up_exact (zero_lim.laid (lm_lim d) k 0 (4 - k)) M.b63 (by rw [h1]; exact M.lt), h1]
/-- What is divided, shifted. -/
theorem rest_lt {N d : Int} {k b : Nat} (M : Room d k b) (hN : Wd N) : N * 18446744073709551616 ^ k * 2 ^ b < 18446744073709551616 ^ 8 * (d * 18446744073709551616 ^ k * 2 ^ b) := by
  have p : 0 < (18446744073709551616 : Int) ^ k * 2 ^ b := Int.mul_pos (bp k) (two_pos b)
  have d0 := M.pos
  rw [Int.mul_assoc, Int.mul_assoc d, ← Int.mul_assoc (18446744073709551616 ^ 8)]
  refine Int.mul_lt_mul_of_pos_right ?_ p
  have h := Int.mul_le_mul_of_nonneg_left (show 1 ≤ d by omega) (Int.le_of_lt (bp 8))
  rw [Int.mul_one] at h
  exact Int.lt_of_lt_of_le hN.2 h
theorem rest_val {N d : Int} {k b : Nat} (M : Room d k b) (hN : Wd N) : vl (up (laid (fun _ => 0) (lm N) k 0 8) b) 12 = N * 18446744073709551616 ^ k * 2 ^ b := by
  have k3 := M.k3
  have h1 : vl (laid (fun _ => 0) (lm N) k 0 8) 12 = N * 18446744073709551616 ^ k := by
    rw [vl_laid _ _ _ _ (by omega), vl_wd hN]
  rw [up_exact (zero_lim.laid (lm_lim N) k 0 8) M.b63 ?_, h1]
  rw [h1]
  have h2 := rest_lt M hN
  have h3 := Int.mul_lt_mul_of_pos_left M.lt (bp 8)
  refine Int.lt_trans h2 ?_
  have e : (18446744073709551616 : Int) ^ 8 * 115792089237316195423570985008687907853269984665640564039457584007913129639936 = 18446744073709551616 ^ (11 + 1) := by decide
  rw [← e]
  exact h3
theorem dv_start {N d : Int} {k b : Nat} (M : Room d k b) (hN : Wd N) : Dv (N * 18446744073709551616 ^ k * 2 ^ b) (d * 18446744073709551616 ^ k * 2 ^ b) 8 (fun _ => 0) (up (laid (fun _ => 0) (lm N) k 0 8) b) := by
  have L := up_lim (zero_lim.laid (lm_lim N) k 0 8) M.b63
  refine ⟨?_, fun _ _ => rfl, ?_⟩
  · rw [rest_val M hN, vl_zero (fun _ _ => rfl)]; simp
  · have e := vl_split (up (laid (fun _ => 0) (lm N) k 0 8) b) 8 4
    rw [rest_val M hN, vl_four] at e
    have l := (vl_bd L 8).1
    have h := rest_lt M hN
    rw [e] at h
    have h2 : 18446744073709551616 ^ 8 * four (up (laid (fun _ => 0) (lm N) k 0 8) b (8 + 0)) (up (laid (fun _ => 0) (lm N) k 0 8) b (8 + 1)) (up (laid (fun _ => 0) (lm N) k 0 8) b (8 + 2)) (up (laid (fun _ => 0) (lm N) k 0 8) b (8 + 3)) < 18446744073709551616 ^ 8 * (d * 18446744073709551616 ^ k * 2 ^ b) := by omega
    exact Int.lt_of_mul_lt_mul_left h2 (Int.le_of_lt (bp 8))
theorem dv_end {N d : Int} {k b : Nat} {q f : Nat → Int} (M : Room d k b) (L : Lim f) (h : Dv (N * 18446744073709551616 ^ k * 2 ^ b) (d * 18446744073709551616 ^ k * 2 ^ b) 0 q f) :
    vl q 8 = N / d ∧ vl (laid (fun _ => 0) (downto f b 3 4) 0 k (4 - k)) 4 = N % d := by
  have k3 := M.k3
  have p : 0 < (18446744073709551616 : Int) ^ k * 2 ^ b := Int.mul_pos (bp k) (two_pos b)
  have D0 : 0 < d * 18446744073709551616 ^ k * 2 ^ b := by have := M.ge; omega
  obtain ⟨h1, h2⟩ := h.done D0 L
  rw [Int.mul_assoc N, Int.mul_assoc d, Int.mul_ediv_mul_of_pos_left _ _ p] at h1
  rw [Int.mul_assoc N, Int.mul_assoc d, Int.mul_comm N, Int.mul_comm d, Int.mul_emod_mul_of_pos _ _ p] at h2
  refine ⟨h1, ?_⟩
  have e : vl f (3 + 1) = N % d * 18446744073709551616 ^ k * 2 ^ b := by rw [h2, Int.mul_comm, Int.mul_assoc]
  have e2 := down_exact M.b63 e
  rw [← downto_vl] at e2
  refine vl_taken _ (downto_lim L M.b63 4) k (4 - k) 4 (by omega) ?_
  rw [show k + (4 - k) = 3 + 1 by omega]
  exact e2
theorem min_low {k : Nat} : 4 - k = Nat.min 4 (4 - k) := (Nat.min_eq_right (by omega)).symm
theorem min_high {k : Nat} (h : k ≤ 3) : 8 = Nat.min 8 (12 - k) := (Nat.min_eq_left (by omega)).symm
theorem min_left {k : Nat} : 4 - k = Nat.min (4 - k) 4 := (Nat.min_eq_left (by omega)).symm
end Go.Proofs.Ytlmjbpmpedlhlaa
