/- Plain arithmetic under limb.digit and limb.Div: a guess of a digit is mended at most twice; no Go in sight. -/
import Derived.Laws.Bits64b
import Derived.Laws.MathBits
namespace Go.Proofs.Ytncnilplmklccaa
open Go

/-- A number whose low bits are noughts, with a small one set in: the sum. -/
theorem or_low (k : Nat) (a b : Int) (ha : 0 ≤ a) (hb : 0 ≤ b) (hk : a % 2 ^ k = 0) (hbk : b < 2 ^ k) (ha' : a < 18446744073709551616) (hb' : b < 18446744073709551616) :
    bits .or .u64 a b = a + b := by
  obtain ⟨A, rfl⟩ := Int.eq_ofNat_of_zero_le ha
  obtain ⟨B, rfl⟩ := Int.eq_ofNat_of_zero_le hb
  rw [bits_or_u64_nat A B (by omega) (by omega)]
  have hB : B < 2 ^ k := by
    have : ((2 ^ k : Nat) : Int) = (2 : Int) ^ k := by simp
    omega
  have hA : A % 2 ^ k = 0 := by
    have e : (((A % 2 ^ k : Nat)) : Int) = (A : Int) % (2 : Int) ^ k := by simp
    omega
  have hA2 : A = 2 ^ k * (A / 2 ^ k) := by have := Nat.div_add_mod A (2 ^ k); omega
  have : A ||| B = A + B := by
    rw [hA2, Nat.two_pow_add_eq_or_of_lt hB]
  rw [this]; simp

theorem or32 (a b : Int) (ha : 0 ≤ a) (ha' : a ≤ 4294967295) (hb : 0 ≤ b) (hb' : b < 4294967296) :
    bits .or .u64 (a * 4294967296 % 18446744073709551616) b = a * 4294967296 + b := by
  have e : a * 4294967296 % 18446744073709551616 = a * 4294967296 := by omega
  rw [e]
  exact or_low 32 _ _ (by omega) hb (by omega) (by simpa using hb') (by omega) (by omega)

/-- What holds whenever a digit is held against: the guess q, and what is over. -/
structure Inv (rest next y q over : Int) : Prop where
  q0 : 0 ≤ q
  q1 : q ≤ 4294967297
  o0 : 0 ≤ over
  o1 : over ≤ 4294967295
  eq : q * (y / 4294967296) + over = rest
  ge : (rest * 4294967296 + next) / y ≤ q

structure Range (rest next y : Int) : Prop where
  r0 : 0 ≤ rest
  r1 : rest < y
  n0 : 0 ≤ next
  n1 : next < 4294967296
  y0 : 9223372036854775808 ≤ y
  y1 : y < 18446744073709551616

theorem mul_y (y q rest over : Int) (h : q * (y / 4294967296) + over = rest) : q * y = (rest - over) * 4294967296 + q * (y % 4294967296) := by
  have e : y = y / 4294967296 * 4294967296 + y % 4294967296 := by omega
  have : q * y = q * (y / 4294967296 * 4294967296 + y % 4294967296) := by rw [← e]
  rw [this, Int.mul_add, ← Int.mul_assoc]
  have e2 : q * (y / 4294967296) = rest - over := by omega
  rw [e2]

theorem mul_b (q b : Int) (hq : 0 ≤ q) (hq1 : q ≤ 4294967297) (hb : 0 ≤ b) (hb1 : b ≤ 4294967295) : 0 ≤ q * b ∧ q * b ≤ 18446744073709551615 := by
  refine ⟨Int.mul_nonneg hq hb, ?_⟩
  have := Int.mul_le_mul hq1 hb1 hb (by omega : (0 : Int) ≤ 4294967297)
  simpa using this

theorem lt_q {N y q : Int} (hy : 0 < y) (h : N < q * y) : N / y ≤ q - 1 := by
  have := Int.ediv_lt_of_lt_mul hy h
  omega
theorem eq_q {N y q : Int} (hy : 0 < y) (h : q * y ≤ N) (h2 : N / y ≤ q) : q = N / y := by
  have := (Int.le_ediv_iff_mul_le hy).2 h
  omega

theorem inv_start {rest next y : Int} (R : Range rest next y) : Inv rest next y (rest / (y / 4294967296)) (rest % (y / 4294967296)) := by
  obtain ⟨r0, r1, n0, n1, y0, y1⟩ := R
  have hT : 0 < y / 4294967296 := by omega
  have e : rest / (y / 4294967296) * (y / 4294967296) + rest % (y / 4294967296) = rest := by
    have := Int.mul_ediv_add_emod rest (y / 4294967296)
    rw [Int.mul_comm]; exact this
  have o1 := Int.emod_lt_of_pos rest hT
  have o0 := Int.emod_nonneg rest (by omega : y / 4294967296 ≠ 0)
  refine ⟨Int.ediv_nonneg r0 (by omega), ?_, o0, by omega, e, ?_⟩
  · have : rest / (y / 4294967296) < 4294967298 := by
      apply Int.ediv_lt_of_lt_mul hT
      omega
    omega
  · have hq := mul_y y (rest / (y / 4294967296) + 1) rest (rest % (y / 4294967296) - y / 4294967296) (by rw [Int.add_mul]; omega)
    have q0 : 0 ≤ rest / (y / 4294967296) := Int.ediv_nonneg r0 (by omega)
    have b0 : 0 ≤ (rest / (y / 4294967296) + 1) * (y % 4294967296) := Int.mul_nonneg (by omega) (by omega)
    have := lt_q (N := rest * 4294967296 + next) (y := y) (q := rest / (y / 4294967296) + 1) (by omega) (by rw [hq]; omega)
    omega

/-- The test, in whole numbers. -/
theorem test_iff {rest next y q over : Int} (R : Range rest next y) (I : Inv rest next y q over) :
    (bits .or .u64 (over * 4294967296 % 18446744073709551616) next < q * (y % 4294967296) % 18446744073709551616) ↔ over * 4294967296 + next < q * (y % 4294967296) := by
  obtain ⟨r0, r1, n0, n1, y0, y1⟩ := R
  have hb := mul_b q (y % 4294967296) I.q0 I.q1 (by omega) (by omega)
  rw [or32 over next I.o0 I.o1 n0 n1, Int.emod_eq_of_lt hb.1 (by omega)]

theorem too_great {rest next y q over : Int} (R : Range rest next y) (I : Inv rest next y q over) (h : over * 4294967296 + next < q * (y % 4294967296)) :
    1 ≤ q ∧ (rest * 4294967296 + next) / y ≤ q - 1 := by
  obtain ⟨r0, r1, n0, n1, y0, y1⟩ := R
  have hy := mul_y y q rest over I.eq
  refine ⟨?_, lt_q (by omega) (by rw [hy]; omega)⟩
  by_cases hq : q = 0
  · subst hq; simp at h; have := I.o0; omega
  · have := I.q0; omega

theorem inv_next {rest next y q over : Int} (R : Range rest next y) (I : Inv rest next y q over) (h : over * 4294967296 + next < q * (y % 4294967296)) (ho : over + y / 4294967296 ≤ 4294967295) :
    Inv rest next y (q - 1) (over + y / 4294967296) := by
  obtain ⟨h1, h2⟩ := too_great R I h
  have := I.q1; have := I.o0
  have := R.y0
  refine ⟨by omega, by omega, by omega, ho, ?_, h2⟩
  rw [Int.sub_mul]; have := I.eq; omega

theorem done_over {rest next y q over : Int} (R : Range rest next y) (I : Inv rest next y q over) (h : over * 4294967296 + next < q * (y % 4294967296)) (ho : ¬ over + y / 4294967296 ≤ 4294967295) :
    q - 1 = (rest * 4294967296 + next) / y := by
  obtain ⟨h1, h2⟩ := too_great R I h
  obtain ⟨r0, r1, n0, n1, y0, y1⟩ := R
  have := I.q1
  have hb := mul_b (q - 1) (y % 4294967296) (by omega) (by omega) (by omega) (by omega)
  have hy := mul_y y (q - 1) rest (over + y / 4294967296) (by rw [Int.sub_mul]; have := I.eq; omega)
  exact eq_q (by omega) (by rw [hy]; omega) h2

theorem done_not {rest next y q over : Int} (R : Range rest next y) (I : Inv rest next y q over) (h : ¬ over * 4294967296 + next < q * (y % 4294967296)) :
    q = (rest * 4294967296 + next) / y := by
  have hy := mul_y y q rest over I.eq
  obtain ⟨r0, r1, n0, n1, y0, y1⟩ := R
  exact eq_q (by omega) (by rw [hy]; omega) I.ge

/-- What is left, modulo 2^64. -/
theorem left_over {rest next y : Int} (R : Range rest next y) :
    ((rest * 4294967296 % 18446744073709551616 + next) % 18446744073709551616 - (rest * 4294967296 + next) / y * y % 18446744073709551616) % 18446744073709551616 = (rest * 4294967296 + next) % y := by
  obtain ⟨r0, r1, n0, n1, y0, y1⟩ := R
  have h1 := Int.emod_lt_of_pos (rest * 4294967296 + next) (by omega : 0 < y)
  have h0 := Int.emod_nonneg (rest * 4294967296 + next) (by omega : y ≠ 0)
  have e := Int.mul_ediv_add_emod (rest * 4294967296 + next) y
  rw [Int.mul_comm y] at e
  generalize (rest * 4294967296 + next) / y * y = Z at *
  generalize (rest * 4294967296 + next) % y = r at *
  omega

/-- Shifting by what y lacks of 64 bits. -/
structure Norm (y : Int) (L : Nat) (P G : Int) : Prop where
  l1 : 1 ≤ L
  l2 : L ≤ 64
  p0 : 0 < P
  g0 : 0 < G
  pg : P * G = 18446744073709551616
  pe : P = 2 ^ (64 - L)
  ge : G = 2 ^ L
  y0 : 9223372036854775808 ≤ y * P
  y1 : y * P < 18446744073709551616

theorem norm_of (y : Int) (hy : 0 < y) (hy1 : y < 18446744073709551616) : Norm y (bitLen y.toNat) (2 ^ (64 - bitLen y.toNat)) (2 ^ bitLen y.toNat) := by
  obtain ⟨n, rfl⟩ := Int.eq_ofNat_of_zero_le (Int.le_of_lt hy)
  simp only [Int.toNat_natCast]
  have hs := bitLen_spec n
  have hn : n ≠ 0 := by omega
  have h2 := hs.2 hn
  have h1 := hs.1
  have hL0 : 1 ≤ bitLen n := by
    rcases Nat.eq_zero_or_pos (bitLen n) with h | h
    · rw [h] at h1; omega
    · exact h
  have hL : bitLen n ≤ 64 := by
    have : 2 ^ (bitLen n - 1) < 2 ^ 64 := by omega
    have := (Nat.pow_lt_pow_iff_right (by omega : 1 < 2)).1 this
    omega
  clear hs
  generalize bitLen n = L at *
  have e1 : 2 ^ (64 - L) * 2 ^ L = 18446744073709551616 := by rw [← Nat.pow_add, show 64 - L + L = 64 by omega]
  have e2 : 2 ^ (64 - L) * 2 ^ (L - 1) = 9223372036854775808 := by rw [← Nat.pow_add, show 64 - L + (L - 1) = 63 by omega]
  have p0 : 0 < 2 ^ (64 - L) := Nat.two_pow_pos _
  have g0 : 0 < 2 ^ L := Nat.two_pow_pos _
  have a1 : n * 2 ^ (64 - L) < 18446744073709551616 := by rw [← e1, Nat.mul_comm]; exact (Nat.mul_lt_mul_left p0).2 h1
  have a2 : 9223372036854775808 ≤ n * 2 ^ (64 - L) := by rw [← e2, Nat.mul_comm n]; exact Nat.mul_le_mul_left _ h2
  have cp : ((2 ^ (64 - L) : Nat) : Int) = 2 ^ (64 - L) := by simp
  have cg : ((2 ^ L : Nat) : Int) = 2 ^ L := by simp
  have b1 : ((n * 2 ^ (64 - L) : Nat) : Int) = (n : Int) * 2 ^ (64 - L) := by rw [Int.natCast_mul, cp]
  have b2 : ((2 ^ (64 - L) * 2 ^ L : Nat) : Int) = (2 : Int) ^ (64 - L) * 2 ^ L := by rw [Int.natCast_mul, cp, cg]
  refine ⟨hL0, hL, by omega, by omega, by rw [← b2, e1]; rfl, rfl, rfl, by omega, by omega⟩

/-- The first rest, and what comes behind it. -/
theorem first_rest {y : Int} {L : Nat} {P G : Int} (N : Norm y L P G) (hi lo : Int) (hh : 0 ≤ hi) (hl : 0 ≤ lo) (hl1 : lo < 18446744073709551616) (hy : hi < y) :
    bits .or .u64 (IntKind.u64.wrap (hi * P)) (lo / G) = hi * P + lo / G ∧ 0 ≤ hi * P + lo / G ∧ hi * P + lo / G < y * P ∧
      (hi * P + lo / G) * 18446744073709551616 + IntKind.u64.wrap (lo * P) = (hi * 18446744073709551616 + lo) * P := by
  obtain ⟨l1, l2, p0, g0, pg, pe, ge, y0, y1⟩ := N
  have a1 : (hi + 1) * P ≤ y * P := Int.mul_le_mul_of_nonneg_right (by omega) (by omega)
  rw [Int.add_mul] at a1
  have a0 : 0 ≤ hi * P := Int.mul_nonneg hh (by omega)
  have b1 : lo / G < P := Int.ediv_lt_of_lt_mul g0 (by omega)
  have b0 : 0 ≤ lo / G := Int.ediv_nonneg hl (by omega)
  have c := Int.mul_ediv_add_emod lo G
  have c0 := Int.emod_nonneg lo (by omega : G ≠ 0)
  have c1 := Int.emod_lt_of_pos lo g0
  have d : lo * P = lo / G * 18446744073709551616 + lo % G * P := by
    have : lo * P = (G * (lo / G) + lo % G) * P := by rw [c]
    rw [this, Int.add_mul, Int.mul_right_comm, Int.mul_comm G P, pg, Int.mul_comm]
  have d0 : 0 ≤ lo % G * P := Int.mul_nonneg c0 (by omega)
  have d1 : lo % G * P < 18446744073709551616 := by
    rw [← pg, Int.mul_comm]
    exact Int.mul_lt_mul_of_pos_left c1 p0
  have w1 : IntKind.u64.wrap (hi * P) = hi * P := by rw [IntKind.wrap_u64]; omega
  have w2 : IntKind.u64.wrap (lo * P) = lo % G * P := by rw [IntKind.wrap_u64]; omega
  have m : hi * P % 2 ^ (64 - L) = 0 := by rw [← pe]; exact Int.mul_emod_left hi P
  refine ⟨?_, by omega, by omega, ?_⟩
  · rw [w1]
    exact or_low (64 - L) _ _ a0 b0 m (by rw [← pe]; exact b1) (by omega) (by omega)
  · rw [w2, Int.add_mul _ _ P, Int.mul_right_comm hi, d]
    omega

/-- Two digits, one behind the other. -/
theorem two_digits (Y M P y : Int) (R0 low : Int) (hY : Y = y * P) (hP : 0 < P) (hR0 : 0 ≤ R0) (hR : R0 < Y) (hl0 : 0 ≤ low) (hl1 : low < 18446744073709551616) (hY0 : 9223372036854775808 ≤ Y) (hY1 : Y < 18446744073709551616)
    (e : R0 * 18446744073709551616 + low = M * P) :
    let q1 := (R0 * 4294967296 + low / 4294967296) / Y
    let r1 := (R0 * 4294967296 + low / 4294967296) % Y
    let q0 := (r1 * 4294967296 + low % 4294967296) / Y
    let r0 := (r1 * 4294967296 + low % 4294967296) % Y
    Range R0 (low / 4294967296) Y ∧ Range r1 (low % 4294967296) Y ∧ bits .or .u64 (IntKind.u64.wrap (q1 * 4294967296)) q0 = M / y ∧ r0 / P = M % y := by
  intro q1 r1 q0 r0
  have yp : 0 < Y := by omega
  have e1 : Y * q1 + r1 = R0 * 4294967296 + low / 4294967296 := Int.mul_ediv_add_emod _ _
  have e0 : Y * q0 + r0 = r1 * 4294967296 + low % 4294967296 := Int.mul_ediv_add_emod _ _
  have r10 : 0 ≤ r1 := Int.emod_nonneg _ (by omega)
  have r11 : r1 < Y := Int.emod_lt_of_pos _ yp
  have r00 : 0 ≤ r0 := Int.emod_nonneg _ (by omega)
  have r01 : r0 < Y := Int.emod_lt_of_pos _ yp
  have q10 : 0 ≤ q1 := Int.ediv_nonneg (by omega) (by omega)
  have q11 : q1 < 4294967296 := Int.ediv_lt_of_lt_mul yp (by omega)
  have q00 : 0 ≤ q0 := Int.ediv_nonneg (by omega) (by omega)
  have q01 : q0 < 4294967296 := Int.ediv_lt_of_lt_mul yp (by omega)
  have w : bits .or .u64 (IntKind.u64.wrap (q1 * 4294967296)) q0 = q1 * 4294967296 + q0 := by
    rw [IntKind.wrap_u64]; exact or32 q1 q0 q10 (by omega) q00 q01
  refine ⟨⟨hR0, hR, by omega, by omega, hY0, hY1⟩, ⟨r10, r11, by omega, by omega, hY0, hY1⟩, ?_, ?_⟩
  all_goals
    have t : M * P = Y * (q1 * 4294967296 + q0) + r0 := by
      rw [Int.mul_add, ← Int.mul_assoc]
      omega
  · rw [w]
    have t1 : M * P / Y = q1 * 4294967296 + q0 := by
      rw [t, Int.add_comm, Int.add_mul_ediv_left _ _ (by omega : Y ≠ 0), Int.ediv_eq_zero_of_lt r00 r01, Int.zero_add]
    rw [← t1, hY, Int.mul_ediv_mul_of_pos_left _ _ hP]
  · have t2 : M * P % Y = r0 := by
      rw [t, Int.mul_add_emod_self_left, Int.emod_eq_of_lt r00 r01]
    rw [← t2, hY, Int.mul_comm M, Int.mul_comm y, Int.mul_emod_mul_of_pos _ _ hP, Int.mul_ediv_cancel_left _ (by omega : P ≠ 0)]
end Go.Proofs.Ytncnilplmklccaa
