/- Plain arithmetic of rows of limbs: what they are together, shifted, divided limb by limb: no Go in sight. -/
import Derived.Test.YtlmjbpmpedlhlaaHugeMath
namespace Go.Proofs.Ytlmjbpmpedlhlaa

/-- So many limbs of a row, together. -/
def vl (f : Nat → Int) : Nat → Int
  | 0 => 0
  | n + 1 => vl f n + f n * 18446744073709551616 ^ n
theorem bp (n : Nat) : 0 < (18446744073709551616 : Int) ^ n := Int.pow_pos (by decide)
theorem bp_succ (n : Nat) : (18446744073709551616 : Int) ^ (n + 1) = 18446744073709551616 ^ n * 18446744073709551616 := Int.pow_succ _ _
theorem vl_congr {f g : Nat → Int} : ∀ {n : Nat}, (∀ j, j < n → f j = g j) → vl f n = vl g n
  | 0, _ => rfl
  | n + 1, h => by unfold vl; rw [vl_congr (fun j hj => h j (by omega)), h n (by omega)]
theorem vl_bd {f : Nat → Int} (L : ∀ j, 0 ≤ f j ∧ f j < 18446744073709551616) : ∀ n, 0 ≤ vl f n ∧ vl f n < 18446744073709551616 ^ n
  | 0 => by unfold vl; simp
  | n + 1 => by
    have h := vl_bd L n
    have l := L n
    have p := bp n
    unfold vl
    rw [bp_succ]
    have h1 : 0 ≤ f n * 18446744073709551616 ^ n := Int.mul_nonneg l.1 (Int.le_of_lt p)
    have h2 : (f n + 1) * 18446744073709551616 ^ n ≤ 18446744073709551616 * 18446744073709551616 ^ n := Int.mul_le_mul_of_nonneg_right (by omega) (Int.le_of_lt p)
    rw [Int.add_mul, Int.one_mul, Int.mul_comm 18446744073709551616] at h2
    omega
theorem vl_split (f : Nat → Int) (k : Nat) : ∀ m, vl f (k + m) = vl f k + 18446744073709551616 ^ k * vl (fun j => f (k + j)) m
  | 0 => by simp [vl]
  | m + 1 => by
    rw [← Nat.add_assoc, vl, vl_split f k m, vl, Int.mul_add, Int.pow_add, Int.add_assoc]
    congr 2
    rw [← Int.mul_assoc, Int.mul_comm (f (k + m)), Int.mul_assoc, Int.mul_comm (f (k + m))]
theorem vl_zero {f : Nat → Int} : ∀ {n : Nat}, (∀ j, j < n → f j = 0) → vl f n = 0
  | 0, _ => rfl
  | n + 1, h => by unfold vl; rw [vl_zero (fun j hj => h j (by omega)), h n (by omega)]; simp
/-- Above a place there is nothing. -/
theorem vl_cut {f : Nat → Int} {k n : Nat} (h : k ≤ n) (hz : ∀ j, k ≤ j → j < n → f j = 0) : vl f n = vl f k := by
  obtain ⟨m, rfl⟩ : ∃ m, n = k + m := ⟨n - k, by omega⟩
  rw [vl_split, vl_zero (fun j hj => hz (k + j) (by omega) (by omega))]
  simp
theorem vl_four (f : Nat → Int) : vl f 4 = four (f 0) (f 1) (f 2) (f 3) := by
  simp only [vl, four, Int.reducePow]
  omega
/-- A limb of a row is the number's own. -/
theorem lm_vl {f : Nat → Int} (L : ∀ j, 0 ≤ f j ∧ f j < 18446744073709551616) {n j : Nat} (h : j < n) : lm (vl f n) j = f j := by
  obtain ⟨m, rfl⟩ : ∃ m, n = j + (1 + m) := ⟨n - j - 1, by omega⟩
  unfold lm
  have b := vl_bd L j
  have p := bp j
  rw [vl_split, Int.add_mul_ediv_left _ _ (by omega), Int.ediv_eq_zero_of_lt b.1 b.2, vl_split]
  have l := L j
  simp only [vl, Int.pow_zero, Int.pow_one, Int.mul_one, Int.zero_add, Nat.add_zero]
  omega
theorem mod_next (a P B : Int) (hP : 0 < P) (hB : 0 < B) : a % (P * B) = a % P + a / P % B * P := by
  have h1 : a = (a / P / B) * (P * B) + (a / P % B * P + a % P) := by
    have e1 := Int.mul_ediv_add_emod a P
    have e2 := Int.mul_ediv_add_emod (a / P) B
    have e3 : P * (a / P) = P * (B * (a / P / B) + a / P % B) := by rw [e2]
    rw [Int.mul_add] at e3
    rw [show a / P / B * (P * B) = P * (B * (a / P / B)) by rw [Int.mul_comm, Int.mul_assoc], Int.mul_comm (a / P % B) P]
    omega
  have b1 := Int.emod_nonneg a (Int.ne_of_gt hP)
  have b2 := Int.emod_lt_of_pos a hP
  have b3 := Int.emod_nonneg (a / P) (Int.ne_of_gt hB)
  have b4 := Int.emod_lt_of_pos (a / P) hB
  have c1 : 0 ≤ a / P % B * P := Int.mul_nonneg b3 (Int.le_of_lt hP)
  have c2 : (a / P % B + 1) * P ≤ B * P := Int.mul_le_mul_of_nonneg_right (by omega) (Int.le_of_lt hP)
  rw [Int.add_mul, Int.one_mul, Int.mul_comm B] at c2
  have e : a % (P * B) = (a / P % B * P + a % P) % (P * B) := by
    conv => lhs; rw [h1]
    rw [Int.add_comm, Int.add_mul_emod_self_right]
  rw [e, Int.emod_eq_of_lt (by omega) (by omega), Int.add_comm]
theorem vl_lm (a : Int) : ∀ n, vl (lm a) n = a % 18446744073709551616 ^ n
  | 0 => by simp [vl]
  | n + 1 => by rw [vl, vl_lm a n, bp_succ, mod_next a _ _ (bp n) (by decide)]; rfl
/-- A number of at most 512 bits. -/
def Wd (n : Int) : Prop := 0 ≤ n ∧ n < 18446744073709551616 ^ 8
theorem vl_wd {n : Int} (h : Wd n) : vl (lm n) 8 = n := by rw [vl_lm]; exact Int.emod_eq_of_lt h.1 h.2
theorem vl_in {n : Int} (h : In n) : vl (lm n) 4 = n := by rw [vl_lm]; exact Int.emod_eq_of_lt h.1 (by have := h.2; simpa using this)
theorem lm_lim (n : Int) : ∀ j, 0 ≤ lm n j ∧ lm n j < 18446744073709551616 := fun j => lm_bd n j

end Go.Proofs.Ytlmjbpmpedlhlaa
