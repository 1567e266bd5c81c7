/- The contract of huge.addRow over this translation. -/
import Derived.Test.YtlmjbpmpedlhlaaHugeBase
namespace Go.Proofs.Ytlmjbpmpedlhlaa
open Go.RowKit Go.Lib
attribute [local go_sem] setCell_drewN alloc_drewN idx0 idx1 idx2 idx3

theorem mul_x (x y : Int) (hx0 : 0 ≤ x) (hx : x < 18446744073709551616) (hy0 : 0 ≤ y) (hy : y < 18446744073709551616) (w : World) :
    Calls Try.prog 43 #[.int .u64 x, .int .u64 y] w fun e w' => ∃ hi lo, e = .returned (.tuple #[.int .u64 hi, .int .u64 lo]) ∧ (0 ≤ hi ∧ hi < 18446744073709551616) ∧ (0 ≤ lo ∧ lo < 18446744073709551616) ∧ Hid (x * y = 18446744073709551616 * hi + lo) ∧ w' = w := by
  refine (limb_mul_any x y hx0 hx hy0 hy w).mono ?_
  rintro e w' ⟨rfl, rfl⟩
  have p0 : 0 ≤ x * y := Int.mul_nonneg hx0 hy0
  have p1 : x * y ≤ 18446744073709551615 * 18446744073709551615 := Int.mul_le_mul (by omega) (by omega) hy0 (by omega)
  exact ⟨_, _, rfl, by omega, by omega, (show x * y = _ by omega), rfl⟩
theorem add_x (x y : Int) (hx0 : 0 ≤ x) (hx : x < 18446744073709551616) (hy0 : 0 ≤ y) (hy : y < 18446744073709551616) (w : World) :
    Calls Try.prog 36 #[.int .u64 x, .int .u64 y, .int .u64 0] w fun e w' => ∃ s o, e = .returned (.tuple #[.int .u64 s, .int .u64 o]) ∧ (0 ≤ s ∧ s < 18446744073709551616) ∧ (0 ≤ o ∧ o ≤ 1) ∧ Hid (x + y = 18446744073709551616 * o + s) ∧ w' = w := by
  refine (limb_add_any x y 0 hx0 hy0 w).mono ?_
  rintro e w' ⟨rfl, rfl⟩
  have o0 : one 0 = 0 := rfl
  rw [o0]
  exact ⟨_, _, rfl, by omega, by omega, (show x + y = _ by omega), rfl⟩
theorem row_hi {x y h l o : Int} (hx0 : 0 ≤ x) (hx : x < 18446744073709551616) (hy0 : 0 ≤ y) (hy : y < 18446744073709551616) (E : x * y = 18446744073709551616 * h + l) (bl : 0 ≤ l ∧ l < 18446744073709551616) (bo : 0 ≤ o ∧ o ≤ 1) : 0 ≤ h + o ∧ h + o < 18446744073709551616 := by
  have p0 : 0 ≤ x * y := Int.mul_nonneg hx0 hy0
  have p1 : x * y ≤ 18446744073709551615 * 18446744073709551615 := Int.mul_le_mul (by omega) (by omega) hy0 (by omega)
  omega
theorem row_carry {x y h l o c s p t q : Int} (hx0 : 0 ≤ x) (hx : x < 18446744073709551616) (hy0 : 0 ≤ y) (hy : y < 18446744073709551616) (E : x * y = 18446744073709551616 * h + l) (F : l + c = 18446744073709551616 * o + s) (G : p + s = 18446744073709551616 * t + q)
    (hc : 0 ≤ c ∧ c < 18446744073709551616) (hp : 0 ≤ p ∧ p < 18446744073709551616) (_bl : 0 ≤ l ∧ l < 18446744073709551616) (bs : 0 ≤ s ∧ s < 18446744073709551616) (bq : 0 ≤ q ∧ q < 18446744073709551616) (_bo : 0 ≤ o ∧ o ≤ 1) (_bt : 0 ≤ t ∧ t ≤ 1) :
    0 ≤ h + o + t ∧ h + o + t < 18446744073709551616 := by
  have p0 : 0 ≤ x * y := Int.mul_nonneg hx0 hy0
  have p1 : x * y ≤ 18446744073709551615 * 18446744073709551615 := Int.mul_le_mul (by omega) (by omega) hy0 (by omega)
  omega
theorem mul_four (x a b c d : Int) : x * four a b c d = x * a + 18446744073709551616 * (x * b) + 340282366920938463463374607431768211456 * (x * c) + 6277101735386680763835789423207666416102355444464034512896 * (x * d) := by
  unfold four
  rw [Int.mul_add, Int.mul_add, Int.mul_add, Int.mul_left_comm x 18446744073709551616, Int.mul_left_comm x 340282366920938463463374607431768211456, Int.mul_left_comm x 6277101735386680763835789423207666416102355444464034512896]

theorem row_sum {x b b0 b1 b2 b3 p0 p1 p2 p3 h0 h1 h2 h3 l0 l1 l2 l3 o0 o1 o2 o3 s0 s1 s2 s3 t0 t1 t2 t3 q0 q1 q2 q3 c1 c2 c3 c4 : Int} (hb : four b0 b1 b2 b3 = b)
    (E0 : x * b0 = 18446744073709551616 * h0 + l0) (E1 : x * b1 = 18446744073709551616 * h1 + l1) (E2 : x * b2 = 18446744073709551616 * h2 + l2) (E3 : x * b3 = 18446744073709551616 * h3 + l3)
    (F0 : l0 + 0 = 18446744073709551616 * o0 + s0) (F1 : l1 + c1 = 18446744073709551616 * o1 + s1) (F2 : l2 + c2 = 18446744073709551616 * o2 + s2) (F3 : l3 + c3 = 18446744073709551616 * o3 + s3)
    (G0 : p0 + s0 = 18446744073709551616 * t0 + q0) (G1 : p1 + s1 = 18446744073709551616 * t1 + q1) (G2 : p2 + s2 = 18446744073709551616 * t2 + q2) (G3 : p3 + s3 = 18446744073709551616 * t3 + q3)
    (k1 : c1 = h0 + o0 + t0) (k2 : c2 = h1 + o1 + t1) (k3 : c3 = h2 + o2 + t2) (k4 : c4 = h3 + o3 + t3) :
    four q0 q1 q2 q3 + 115792089237316195423570985008687907853269984665640564039457584007913129639936 * c4 = four p0 p1 p2 p3 + x * b := by
  rw [← hb, mul_four, E0, E1, E2, E3]
  unfold four
  omega

set_option maxHeartbeats 4000000 in
theorem row_any (g off cap : Nat) (x : Int) (b : Int) (p0 p1 p2 p3 p4 : Int) (w : World) (hb : In b) (hx0 : 0 ≤ x) (hx : x < 18446744073709551616) (hg : g < w.heap.size)
    (k0 : 0 ≤ p0 ∧ p0 < 18446744073709551616) (k1 : 0 ≤ p1 ∧ p1 < 18446744073709551616) (k2 : 0 ≤ p2 ∧ p2 < 18446744073709551616) (k3 : 0 ≤ p3 ∧ p3 < 18446744073709551616)
    (d0 : w.cell? ⟨g, off, none⟩ = some (.int .u64 p0)) (d1 : w.cell? ⟨g, off + 1, none⟩ = some (.int .u64 p1)) (d2 : w.cell? ⟨g, off + 2, none⟩ = some (.int .u64 p2)) (d3 : w.cell? ⟨g, off + 3, none⟩ = some (.int .u64 p3)) (d4 : w.cell? ⟨g, off + 4, none⟩ = some (.int .u64 p4))
    (f : ∀ o, w.frozen? ⟨g, o, none⟩ = false) :
    Calls Try.prog 34 #[.slice (some ⟨g, off, none⟩) 5 cap, .int .u64 x, big b] w fun e w' => ∃ q0 q1 q2 q3 q4, e = .returned (.tuple #[]) ∧ (0 ≤ q0 ∧ q0 < 18446744073709551616) ∧ (0 ≤ q1 ∧ q1 < 18446744073709551616) ∧ (0 ≤ q2 ∧ q2 < 18446744073709551616) ∧ (0 ≤ q3 ∧ q3 < 18446744073709551616) ∧ (0 ≤ q4 ∧ q4 < 18446744073709551616) ∧
      Hid (four q0 q1 q2 q3 + 115792089237316195423570985008687907853269984665640564039457584007913129639936 * q4 = four p0 p1 p2 p3 + x * b) ∧
      w' = (((((w.setCell ⟨g, off, none⟩ (.int .u64 q0)).setCell ⟨g, off + 1, none⟩ (.int .u64 q1)).setCell ⟨g, off + 2, none⟩ (.int .u64 q2)).setCell ⟨g, off + 3, none⟩ (.int .u64 q3)).setCell ⟨g, off + 4, none⟩ (.int .u64 q4)).alloc (.cells #[.int .u64 (lm b 0), .int .u64 (lm b 1), .int .u64 (lm b 2), .int .u64 (lm b 3)] 24) := by
  have b0 := lm_bd b 0; have b1 := lm_bd b 1; have b2 := lm_bd b 2; have b3 := lm_bd b 3
  have HB := hide hb
  clear hb
  go_enter Try.func34, Try.ntmps34
  go_wp2
  refine wp_loop_rounds 5 ?_
  rw [rounds_succ]
  go_wp2_with fail
  refine (mul_x _ _ hx0 hx b0.1 b0.2 _).mono ?_
  rintro e w1 ⟨h0, l0, rfl, bh0, bl0, E0, rfl⟩
  go_wp2_with fail
  refine (add_x _ _ (by omega) (by omega) (by omega) (by omega) _).mono ?_
  rintro e w1 ⟨s0, o0, rfl, bs0, bo0, F0, rfl⟩
  have z0 : 0 ≤ h0 + o0 ∧ h0 + o0 < 18446744073709551616 := row_hi hx0 hx b0.1 b0.2 E0.out bl0 bo0
  obtain ⟨z0a, z0b⟩ := z0
  go_wp2_with fail
  refine (add_x _ _ (by omega) (by omega) (by omega) (by omega) _).mono ?_
  rintro e w1 ⟨q0, t0, rfl, bq0, bt0, G0, rfl⟩
  have y0 : 0 ≤ h0 + o0 + t0 ∧ h0 + o0 + t0 < 18446744073709551616 := row_carry hx0 hx b0.1 b0.2 E0.out F0.out G0.out (by omega) (by omega) bl0 bs0 bq0 bo0 bt0
  obtain ⟨c1, hc1⟩ : ∃ c, Hid (c = h0 + o0 + t0) := ⟨_, rfl⟩
  have y0' : 0 ≤ c1 ∧ c1 < 18446744073709551616 := by rw [hc1.out]; exact y0
  obtain ⟨y0a, y0b⟩ := y0
  go_wp2_with fail
  rw [← hc1.out]
  clear y0a y0b z0a z0b
  rw [rounds_succ]
  go_wp2_with fail
  refine (mul_x _ _ hx0 hx b1.1 b1.2 _).mono ?_
  rintro e w1 ⟨h1, l1, rfl, bh1, bl1, E1, rfl⟩
  go_wp2_with fail
  refine (add_x _ _ (by omega) (by omega) (by omega) (by omega) _).mono ?_
  rintro e w1 ⟨s1, o1, rfl, bs1, bo1, F1, rfl⟩
  have z1 : 0 ≤ h1 + o1 ∧ h1 + o1 < 18446744073709551616 := row_hi hx0 hx b1.1 b1.2 E1.out bl1 bo1
  obtain ⟨z1a, z1b⟩ := z1
  go_wp2_with fail
  refine (add_x _ _ (by omega) (by omega) (by omega) (by omega) _).mono ?_
  rintro e w1 ⟨q1, t1, rfl, bq1, bt1, G1, rfl⟩
  have y1 : 0 ≤ h1 + o1 + t1 ∧ h1 + o1 + t1 < 18446744073709551616 := row_carry hx0 hx b1.1 b1.2 E1.out F1.out G1.out (by omega) (by omega) bl1 bs1 bq1 bo1 bt1
  obtain ⟨c2, hc2⟩ : ∃ c, Hid (c = h1 + o1 + t1) := ⟨_, rfl⟩
  have y1' : 0 ≤ c2 ∧ c2 < 18446744073709551616 := by rw [hc2.out]; exact y1
  obtain ⟨y1a, y1b⟩ := y1
  go_wp2_with fail
  rw [← hc2.out]
  clear y1a y1b z1a z1b
  rw [rounds_succ]
  go_wp2_with fail
  refine (mul_x _ _ hx0 hx b2.1 b2.2 _).mono ?_
  rintro e w1 ⟨h2, l2, rfl, bh2, bl2, E2, rfl⟩
  go_wp2_with fail
  refine (add_x _ _ (by omega) (by omega) (by omega) (by omega) _).mono ?_
  rintro e w1 ⟨s2, o2, rfl, bs2, bo2, F2, rfl⟩
  have z2 : 0 ≤ h2 + o2 ∧ h2 + o2 < 18446744073709551616 := row_hi hx0 hx b2.1 b2.2 E2.out bl2 bo2
  obtain ⟨z2a, z2b⟩ := z2
  go_wp2_with fail
  refine (add_x _ _ (by omega) (by omega) (by omega) (by omega) _).mono ?_
  rintro e w1 ⟨q2, t2, rfl, bq2, bt2, G2, rfl⟩
  have y2 : 0 ≤ h2 + o2 + t2 ∧ h2 + o2 + t2 < 18446744073709551616 := row_carry hx0 hx b2.1 b2.2 E2.out F2.out G2.out (by omega) (by omega) bl2 bs2 bq2 bo2 bt2
  obtain ⟨c3, hc3⟩ : ∃ c, Hid (c = h2 + o2 + t2) := ⟨_, rfl⟩
  have y2' : 0 ≤ c3 ∧ c3 < 18446744073709551616 := by rw [hc3.out]; exact y2
  obtain ⟨y2a, y2b⟩ := y2
  go_wp2_with fail
  rw [← hc3.out]
  clear y2a y2b z2a z2b
  rw [rounds_succ]
  go_wp2_with fail
  refine (mul_x _ _ hx0 hx b3.1 b3.2 _).mono ?_
  rintro e w1 ⟨h3, l3, rfl, bh3, bl3, E3, rfl⟩
  go_wp2_with fail
  refine (add_x _ _ (by omega) (by omega) (by omega) (by omega) _).mono ?_
  rintro e w1 ⟨s3, o3, rfl, bs3, bo3, F3, rfl⟩
  have z3 : 0 ≤ h3 + o3 ∧ h3 + o3 < 18446744073709551616 := row_hi hx0 hx b3.1 b3.2 E3.out bl3 bo3
  obtain ⟨z3a, z3b⟩ := z3
  go_wp2_with fail
  refine (add_x _ _ (by omega) (by omega) (by omega) (by omega) _).mono ?_
  rintro e w1 ⟨q3, t3, rfl, bq3, bt3, G3, rfl⟩
  have y3 : 0 ≤ h3 + o3 + t3 ∧ h3 + o3 + t3 < 18446744073709551616 := row_carry hx0 hx b3.1 b3.2 E3.out F3.out G3.out (by omega) (by omega) bl3 bs3 bq3 bo3 bt3
  obtain ⟨c4, hc4⟩ : ∃ c, Hid (c = h3 + o3 + t3) := ⟨_, rfl⟩
  have y3' : 0 ≤ c4 ∧ c4 < 18446744073709551616 := by rw [hc4.out]; exact y3
  obtain ⟨y3a, y3b⟩ := y3
  go_wp2_with fail
  rw [← hc4.out]
  clear y3a y3b z3a z3b
  rw [rounds_succ]
  go_wp2
  go_end0
  exact ⟨q0, q1, q2, q3, c4, rfl, bq0, bq1, bq2, bq3, y3', row_sum (four_lm HB.out) E0.out E1.out E2.out E3.out F0.out F1.out F2.out F3.out G0.out G1.out G2.out G3.out hc1.out hc2.out hc3.out hc4.out, rfl⟩
end Go.Proofs.Ytlmjbpmpedlhlaa
