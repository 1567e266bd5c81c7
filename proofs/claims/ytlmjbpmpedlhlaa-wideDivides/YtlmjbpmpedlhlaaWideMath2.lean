/- Plain arithmetic of rows of limbs: shifted up and down, laid into others, divided limb by limb. -/
import Derived.Test.YtlmjbpmpedlhlaaWideShift
import Derived.Test.YtlmjbpmpedlhlaaWideSub
import Derived.Test.YtlmjbpmpedlhlaaWideMath
namespace Go.Proofs.Ytlmjbpmpedlhlaa
open Go.RowKit Go.Lib

theorem shl_parts (x : Int) {b : Nat} (hb : b ≤ 64) : x * 2 ^ b = x / 2 ^ (64 - b) * 18446744073709551616 + x * 2 ^ b % 18446744073709551616 := by
  have e1 := Int.mul_ediv_add_emod (x * 2 ^ b) 18446744073709551616
  have e2 : x * 2 ^ b / 18446744073709551616 = x / 2 ^ (64 - b) := by
    rw [← two_split hb, Int.mul_comm (2 ^ b) (2 ^ (64 - b)), Int.mul_ediv_mul_of_pos_left _ _ (two_pos b)]
  rw [e2] at e1
  omega
theorem vl_up (f : Nat → Int) {b : Nat} (hb : b ≤ 64) : ∀ n, vl (up f b) (n + 1) = vl f (n + 1) * 2 ^ b - f n / 2 ^ (64 - b) * 18446744073709551616 ^ (n + 1)
  | 0 => by
    have e := shl_parts (f 0) hb
    simp only [vl, up, if_true, Int.pow_zero, Int.mul_one, Int.zero_add, Int.add_zero]
    omega
  | n + 1 => by
    have e := shl_parts (f (n + 1)) hb
    have e1 : vl (up f b) (n + 1 + 1) = vl (up f b) (n + 1) + up f b (n + 1) * 18446744073709551616 ^ (n + 1) := rfl
    have e2 : vl f (n + 1 + 1) = vl f (n + 1) + f (n + 1) * 18446744073709551616 ^ (n + 1) := rfl
    rw [e1, e2, vl_up f hb n, bp_succ (n + 1)]
    simp only [up, if_neg (Nat.succ_ne_zero n), Nat.add_sub_cancel]
    clear e1 e2
    generalize (18446744073709551616 : Int) ^ (n + 1) = B at *
    generalize vl f (n + 1) = W at *
    generalize f (n + 1) * 2 ^ b % 18446744073709551616 = a at *
    have e3 : f (n + 1) * B * 2 ^ b = (f (n + 1) / 2 ^ (64 - b) * 18446744073709551616 + a) * B := by rw [← e, Int.mul_assoc, Int.mul_comm B, ← Int.mul_assoc]
    rw [Int.add_mul a, Int.add_mul W, e3, Int.add_mul, Int.mul_comm B 18446744073709551616, ← Int.mul_assoc]
    omega
theorem up_lim {f : Nat → Int} (L : Lim f) {b : Nat} (hb : b < 64) : Lim (up f b) := by
  intro j
  have hs := two_split (show b ≤ 64 by omega)
  have p := two_pos b
  have h1 : 0 ≤ f j * 2 ^ b % 18446744073709551616 ∧ f j * 2 ^ b % 18446744073709551616 + 2 ^ b ≤ 18446744073709551616 := by
    rw [← hs, Int.mul_comm (f j), Int.mul_emod_mul_of_pos _ _ p]
    have q := two_pos (64 - b)
    have c0 := Int.emod_nonneg (f j) (Int.ne_of_gt q)
    have c1 := Int.emod_lt_of_pos (f j) q
    refine ⟨Int.mul_nonneg (Int.le_of_lt p) c0, ?_⟩
    have := Int.mul_le_mul_of_nonneg_left (show f j % 2 ^ (64 - b) + 1 ≤ 2 ^ (64 - b) by omega) (Int.le_of_lt p)
    rw [Int.mul_add, Int.mul_one] at this
    exact this
  unfold up
  split
  · omega
  · have l := L (j - 1)
    have h2 := shr_lt (show b ≤ 64 by omega) l.2
    have h3 : 0 ≤ f (j - 1) / 2 ^ (64 - b) := Int.ediv_nonneg l.1 (Int.le_of_lt (two_pos _))
    omega
/-- Where nothing is shifted out, it is so many times as much. -/
theorem up_exact {f : Nat → Int} (L : Lim f) {b n : Nat} (hb : b < 64) (h : vl f (n + 1) * 2 ^ b < 18446744073709551616 ^ (n + 1)) : vl (up f b) (n + 1) = vl f (n + 1) * 2 ^ b := by
  have e := vl_up f (show b ≤ 64 by omega) n
  have u := vl_bd (up_lim L hb) (n + 1)
  have l := L n
  have h3 : 0 ≤ f n / 2 ^ (64 - b) := Int.ediv_nonneg l.1 (Int.le_of_lt (two_pos _))
  have p := bp (n + 1)
  generalize (18446744073709551616 : Int) ^ (n + 1) = B at *
  rcases Int.lt_or_eq_of_le h3 with h0 | h0
  · have := Int.mul_le_mul_of_nonneg_right (show 1 ≤ f n / 2 ^ (64 - b) by omega) (Int.le_of_lt p)
    rw [Int.one_mul] at this
    omega
  · rw [← h0, Int.zero_mul] at e
    omega
theorem shl_low (y : Int) {b : Nat} (hb : b ≤ 64) : y * 2 ^ (64 - b) % 18446744073709551616 = y % 2 ^ b * 2 ^ (64 - b) := by
  rw [← two_split hb, Int.mul_comm (2 ^ b), Int.mul_comm y, Int.mul_emod_mul_of_pos _ _ (two_pos _), Int.mul_comm]
theorem down_mid (f : Nat → Int) {b n : Nat} (hb : b ≤ 64) : ∀ m, m ≤ n → vl (down f b n) m * 2 ^ b = vl f m - f 0 % 2 ^ b + f m % 2 ^ b * 18446744073709551616 ^ m
  | 0, _ => by simp [vl]; omega
  | m + 1, h => by
    rw [vl, Int.add_mul, down_mid f hb m (by omega), vl, bp_succ]
    simp only [down, if_neg (show m ≠ n by omega)]
    rw [shl_low _ hb]
    have e := Int.mul_ediv_add_emod (f m) (2 ^ b)
    have s := two_split hb
    generalize (18446744073709551616 : Int) ^ m = B at *
    rw [Int.add_mul (f m / 2 ^ b), Int.add_mul (f m / 2 ^ b * B)]
    have e1 : f m / 2 ^ b * B * 2 ^ b = (f m - f m % 2 ^ b) * B := by
      rw [Int.mul_assoc, Int.mul_comm B, ← Int.mul_assoc, Int.mul_comm (f m / 2 ^ b)]
      congr 1
      omega
    have e2 : f (m + 1) % 2 ^ b * 2 ^ (64 - b) * B * 2 ^ b = f (m + 1) % 2 ^ b * (B * 18446744073709551616) := by
      rw [← s, Int.mul_assoc (f (m + 1) % 2 ^ b), Int.mul_assoc (f (m + 1) % 2 ^ b)]
      congr 1
      rw [Int.mul_comm (2 ^ (64 - b)) B, Int.mul_assoc, Int.mul_comm (2 ^ (64 - b))]
    rw [e1, e2, Int.sub_mul]
    omega
theorem down_all (f : Nat → Int) {b n : Nat} (hb : b ≤ 64) : vl (down f b n) (n + 1) * 2 ^ b = vl f (n + 1) - f 0 % 2 ^ b := by
  rw [vl, Int.add_mul, down_mid f hb n (Nat.le_refl _), vl]
  simp only [down, if_true, Int.add_zero]
  have e := Int.mul_ediv_add_emod (f n) (2 ^ b)
  generalize (18446744073709551616 : Int) ^ n = B at *
  have e1 : f n / 2 ^ b * B * 2 ^ b = (f n - f n % 2 ^ b) * B := by
    rw [Int.mul_assoc, Int.mul_comm B, ← Int.mul_assoc, Int.mul_comm (f n / 2 ^ b)]
    congr 1
    omega
  rw [e1, Int.sub_mul]
  omega
theorem down_exact {f : Nat → Int} {b n : Nat} (hb : b < 64) {X : Int} (h : vl f (n + 1) = X * 2 ^ b) : vl (down f b n) (n + 1) = X := by
  have e := down_all f (n := n) (show b ≤ 64 by omega)
  have p := two_pos b
  have c0 := Int.emod_nonneg (f 0) (Int.ne_of_gt p)
  have c1 := Int.emod_lt_of_pos (f 0) p
  rw [h] at e
  have e2 : (vl (down f b n) (n + 1) - X) * 2 ^ b = - (f 0 % 2 ^ b) := by rw [Int.sub_mul]; omega
  generalize vl (down f b n) (n + 1) = Y at *
  rcases Int.lt_trichotomy Y X with h1 | h1 | h1
  · have := Int.mul_le_mul_of_nonneg_right (show Y - X ≤ -1 by omega) (Int.le_of_lt p)
    rw [Int.neg_mul, Int.one_mul] at this
    omega
  · exact h1
  · have := Int.mul_le_mul_of_nonneg_right (show 1 ≤ Y - X by omega) (Int.le_of_lt p)
    rw [Int.one_mul] at this
    omega
theorem down_lim {f : Nat → Int} (L : Lim f) {b n : Nat} (hb : b < 64) : Lim (down f b n) := by
  intro j
  have s := two_split (show b ≤ 64 by omega)
  have p := two_pos b
  have l := L j
  have h0 : 0 ≤ f j / 2 ^ b := Int.ediv_nonneg l.1 (Int.le_of_lt p)
  have h1 := shr_lt (b := 64 - b) (by omega) l.2
  rw [show 64 - (64 - b) = b by omega] at h1
  have q := two_pos (64 - b)
  unfold down
  split
  · have := two_le (b := 64 - b) (by omega)
    omega
  · rw [shl_low _ (by omega)]
    have c0 := Int.emod_nonneg (f (j + 1)) (Int.ne_of_gt p)
    have c1 := Int.emod_lt_of_pos (f (j + 1)) p
    have d0 := Int.mul_nonneg c0 (Int.le_of_lt q)
    have d1 := Int.mul_le_mul_of_nonneg_right (show f (j + 1) % 2 ^ b + 1 ≤ 2 ^ b by omega) (Int.le_of_lt q)
    rw [Int.add_mul, Int.one_mul, s] at d1
    omega
theorem downto_lim {f : Nat → Int} (L : Lim f) {b n : Nat} (hb : b < 64) (i : Nat) : Lim (downto f b n i) := by
  intro j; unfold downto; split
  · exact down_lim L hb j
  · exact L j
theorem downto_vl (f : Nat → Int) (b n : Nat) : vl (downto f b n (n + 1)) (n + 1) = vl (down f b n) (n + 1) :=
  vl_congr fun j hj => by unfold downto; rw [if_pos hj]

/-- A row that was laid into noughts, from place k on. -/
theorem vl_laid (h : Nat → Int) (k m N : Nat) (hN : k + m ≤ N) : vl (laid (fun _ => 0) h k 0 m) N = vl h m * 18446744073709551616 ^ k := by
  rw [vl_cut (k := k + m) hN (fun j h1 _ => by unfold laid; rw [if_neg (by omega)]), vl_split, vl_zero (fun j hj => by unfold laid; rw [if_neg (by omega)]), Int.zero_add, Int.mul_comm]
  congr 1
  refine vl_congr fun j hj => ?_
  unfold laid
  rw [if_pos (by omega)]
  congr 1
  omega
/-- What lies from place k on, laid into noughts. -/
theorem vl_taken (h : Nat → Int) (L : Lim h) (k m N : Nat) (hN : m ≤ N) {X : Int} (e : vl h (k + m) = X * 18446744073709551616 ^ k) : vl (laid (fun _ => 0) h 0 k m) N = X := by
  rw [vl_cut (k := m) hN (fun j h1 _ => by unfold laid; rw [if_neg (by omega)])]
  rw [vl_congr (g := fun j => h (k + j)) (fun j hj => by unfold laid; rw [if_pos (by omega)]; rfl)]
  rw [vl_split] at e
  have b := vl_bd L k
  have p := bp k
  generalize vl (fun j => h (k + j)) m = Y at *
  generalize (18446744073709551616 : Int) ^ k = B at *
  generalize vl h k = Z at *
  have e2 : (X - Y) * B = Z := by rw [Int.sub_mul, Int.mul_comm Y]; omega
  rcases Int.lt_trichotomy Y X with h1 | h1 | h1
  · have := Int.mul_le_mul_of_nonneg_right (show 1 ≤ X - Y by omega) (Int.le_of_lt p)
    rw [Int.one_mul] at this
    omega
  · exact h1
  · have := Int.mul_le_mul_of_nonneg_right (show X - Y ≤ -1 by omega) (Int.le_of_lt p)
    rw [Int.neg_mul, Int.one_mul] at this
    omega

theorem five_vl (f : Nat → Int) (o : Nat) : five f o = vl (fun j => f (o + j)) 5 := by
  simp only [five, vl, four, Int.reducePow, Nat.add_zero]
  omega
/-- A division under way: k limbs of the quotient are still to come. -/
structure Dv (V D : Int) (k : Nat) (q f : Nat → Int) : Prop where
  eq : V = vl q 8 * D + vl f (k + 4)
  qz : ∀ j, j < k → q j = 0
  lt : four (f k) (f (k + 1)) (f (k + 2)) (f (k + 3)) < D
theorem vl_put {q : Nat → Int} {k : Nat} (v : Int) (hk : q k = 0) : ∀ n, k < n → vl (put q k v) n = vl q n + v * 18446744073709551616 ^ k
  | 0, h => by omega
  | n + 1, h => by
    by_cases e : k = n
    · subst e
      rw [vl, vl, put_same, hk, vl_congr (g := q) (fun j hj => put_other _ _ (by omega)), Int.zero_mul, Int.add_zero]
    · rw [vl, vl, vl_put v hk n (by omega), put_other _ _ (by omega)]
      omega
theorem Dv.next {V D : Int} {k : Nat} {q f f' : Nat → Int} {x : Int} (h : Dv V D (k + 1) q f) (hk : k < 8) (hD : In D) (L : Lim f') (hout : ∀ j, j < k ∨ k + 5 ≤ j → f' j = f j)
    (he : five f k = x * D + five f' k ∧ five f' k < D) : Dv V D k (put q k x) f' := by
  obtain ⟨e1, e2⟩ := he
  have l0 := L k; have l1 := L (k + 1); have l2 := L (k + 2); have l3 := L (k + 3); have l4 := L (k + 4)
  have z : f' (k + 4) = 0 := by
    unfold five four at e2
    unfold In at hD
    omega
  have e3 : vl f (k + 5) = vl f k + 18446744073709551616 ^ k * five f k := by rw [vl_split, five_vl]
  have e4 : vl f' (k + 5) = vl f' k + 18446744073709551616 ^ k * five f' k := by rw [vl_split, five_vl]
  have e5 : vl f' (k + 4) = vl f' (k + 5) := by rw [vl_cut (f := f') (k := k + 4) (n := k + 5) (by omega) (fun j h1 h2 => by rw [show j = k + 4 by omega]; exact z)]
  have e6 : vl f' k = vl f k := vl_congr fun j hj => hout j (.inl hj)
  have e7 : vl (put q k x) 8 = vl q 8 + x * 18446744073709551616 ^ k := vl_put x (h.qz k (by omega)) 8 hk
  refine ⟨?_, fun j hj => ?_, ?_⟩
  · have e := h.eq
    rw [show k + 1 + 4 = k + 5 by omega, e3, e1] at e
    rw [e5, e4, e6, e7, e]
    generalize (18446744073709551616 : Int) ^ k = B at *
    rw [Int.add_mul, Int.mul_add, Int.mul_assoc x, Int.mul_comm B (x * D), Int.mul_assoc x D B, Int.mul_comm D B]
    omega
  · rw [put_other _ _ (by omega)]; exact h.qz j (by omega)
  · unfold five at e2
    rw [z] at e2
    omega
theorem Dv.done {V D : Int} {q f : Nat → Int} (h : Dv V D 0 q f) (hD : 0 < D) (L : Lim f) : vl q 8 = V / D ∧ vl f 4 = V % D := by
  have e := h.eq
  have l := h.lt
  rw [← vl_four] at l
  have b := vl_bd L 4
  simp only [Nat.zero_add] at e
  have e2 : V = vl f 4 + vl q 8 * D := by omega
  have h1 : V / D = vl q 8 := by
    rw [e2, Int.add_mul_ediv_right _ _ (by omega), Int.ediv_eq_zero_of_lt b.1 l, Int.zero_add]
  have h2 : V % D = vl f 4 := by
    rw [e2, Int.add_mul_emod_self_right, Int.emod_eq_of_lt b.1 l]
  exact ⟨h1.symm, h2.symm⟩
end Go.Proofs.Ytlmjbpmpedlhlaa
