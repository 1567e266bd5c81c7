/- Plain arithmetic of a number's 32 bytes, and back. -/
import Derived.Test.YtajkdbpojeaflaaHugeRd
namespace Go.Proofs.Ytajkdbpojeaflaa
open Go.RowKit Go.Lib

theorem mod_stepB (a P B : Int) (hP : 0 < P) (hB : 0 < B) : a % (P * B) = a % P + a / P % B * P := by
  have h1 := Int.emod_nonneg a (show P ≠ 0 by omega)
  have h2 := Int.emod_lt_of_pos a hP
  have h3 := Int.emod_nonneg (a / P) (show B ≠ 0 by omega)
  have h4 := Int.emod_lt_of_pos (a / P) hB
  have e1 := Int.mul_ediv_add_emod a P
  have e2 := Int.mul_ediv_add_emod (a / P) B
  have h5 : a / P % B * P ≤ (B - 1) * P := Int.mul_le_mul_of_nonneg_right (by omega) (by omega)
  have h6 : 0 ≤ a / P % B * P := Int.mul_nonneg h3 (by omega)
  have e3 : a = (a % P + a / P % B * P) + P * B * (a / P / B) := by
    have : P * (a / P) = P * (B * (a / P / B) + a / P % B) := by rw [e2]
    rw [Int.mul_add, ← Int.mul_assoc, Int.mul_comm P (a / P % B)] at this
    omega
  have h7 : (B - 1) * P = P * B - P := by rw [Int.sub_mul, Int.one_mul, Int.mul_comm]
  have e4 : a % (P * B) = ((a % P + a / P % B * P) + P * B * (a / P / B)) % (P * B) := by rw [← e3]
  rw [e4, Int.add_mul_emod_self_left, Int.emod_eq_of_lt (by omega) (by omega)]
theorem BSl.below {w w' : World} {ao : Option Addr} {n cap : Nat} {f : Nat → Int} (h : BSl w ao n cap f) (hb : Below w.heap.size w w') : BSl w' ao n cap f := by
  refine ⟨h.1, fun hn => ?_⟩
  obtain ⟨b, off, e, hl, hc⟩ := h.2 hn
  exact ⟨b, off, e, Nat.lt_of_lt_of_le hl hb.size, fun j hj => (hb.cell (p := ⟨b, off + j, none⟩) hl).trans (hc j hj)⟩
theorem rv_bt (a : Int) (k : Nat) (hk : k ≤ 32) : rv (bt a) k = a % 256 ^ k := by
  induction k with
  | zero => simp [rv, Int.emod_one]
  | succ k ih =>
    unfold rv
    rw [ih (by omega), Int.pow_succ, mod_stepB a (256 ^ k) 256 (Int.pow_pos (by decide)) (by decide)]
    unfold bt
    rw [show 31 - (31 - k) = k by omega]
theorem rv_bt_all {a : Int} (h : In a) : rv (bt a) 32 = a := by
  rw [rv_bt a 32 (by omega), show (256 : Int) ^ 32 = 115792089237316195423570985008687907853269984665640564039457584007913129639936 by decide]
  unfold In at h; omega
theorem rv_at {f : Nat → Int} (h : ∀ j, 0 ≤ f j ∧ f j < 256) (n k : Nat) (hk : k < n) : rv f n / 256 ^ k % 256 = f (31 - k) := by
  induction n with
  | zero => omega
  | succ n ih =>
    have hp : (0 : Int) < 256 ^ k := Int.pow_pos (by decide)
    unfold rv
    by_cases e : k = n
    · subst e
      have b := rv_bd h k
      have hx := h (31 - k)
      rw [Int.add_mul_ediv_right _ _ (by omega), Int.ediv_eq_zero_of_lt b.1 b.2]
      omega
    · have e2 : (256 : Int) ^ n = 256 ^ (n - k - 1) * 256 * 256 ^ k := by rw [← Int.pow_succ, ← Int.pow_add]; congr 1; omega
      rw [e2, ← Int.mul_assoc, Int.add_mul_ediv_right _ _ (by omega), ← Int.mul_assoc, Int.add_mul_emod_self_right]
      exact ih (by omega)
theorem bt_rv {f : Nat → Int} (h : ∀ j, 0 ≤ f j ∧ f j < 256) (j : Nat) (hj : j < 32) : bt (rv f 32) j = f j := by
  unfold bt
  rw [rv_at h 32 (31 - j) (by omega), show 31 - (31 - j) = j by omega]
end Go.Proofs.Ytajkdbpojeaflaa
