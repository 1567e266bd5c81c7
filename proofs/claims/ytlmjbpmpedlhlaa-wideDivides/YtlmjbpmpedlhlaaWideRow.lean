/- The contracts of wide.mulAdd and wide.addRow over this translation. -/
import Derived.Test.YtlmjbpmpedlhlaaHugeRow
namespace Go.Proofs.Ytlmjbpmpedlhlaa
open Go.RowKit Go.Lib
attribute [local go_sem] setCell_drewN alloc_drewN idx0 idx1 idx2 idx3

theorem mul_add_hi {x y h l c o s : Int} (hx0 : 0 ≤ x) (hx : x < 18446744073709551616) (hy0 : 0 ≤ y) (hy : y < 18446744073709551616) (E : x * y = 18446744073709551616 * h + l) (F : l + c = 18446744073709551616 * o + s) (hc : 0 ≤ c ∧ c < 18446744073709551616) (bl : 0 ≤ l ∧ l < 18446744073709551616) (bs : 0 ≤ s ∧ s < 18446744073709551616) (_bo : 0 ≤ o ∧ o ≤ 1) :
    0 ≤ h + o ∧ h + o < 18446744073709551616 ∧ x * y + c = 18446744073709551616 * (h + o) + s := by
  have p0 : 0 ≤ x * y := Int.mul_nonneg hx0 hy0
  have p1 : x * y ≤ 18446744073709551615 * 18446744073709551615 := Int.mul_le_mul (by omega) (by omega) hy0 (by omega)
  omega
theorem mul_add_any (x y c : Int) (hx0 : 0 ≤ x) (hx : x < 18446744073709551616) (hy0 : 0 ≤ y) (hy : y < 18446744073709551616) (hc0 : 0 ≤ c) (hc : c < 18446744073709551616) (w : World) :
    Calls Try.prog 38 #[.int .u64 x, .int .u64 y, .int .u64 c] w fun e w' => ∃ lo hi, e = .returned (.tuple #[.int .u64 lo, .int .u64 hi]) ∧ (0 ≤ lo ∧ lo < 18446744073709551616) ∧ (0 ≤ hi ∧ hi < 18446744073709551616) ∧ Hid (x * y + c = 18446744073709551616 * hi + lo) ∧ w' = w := by
  go_enter Try.func38, Try.ntmps38
  go_wp2_with fail
  refine (mul_x _ _ hx0 hx hy0 hy _).mono ?_
  rintro e w1 ⟨h, l, rfl, bh, bl, E, rfl⟩
  go_wp2_with fail
  refine (add_x _ _ (by omega) (by omega) (by omega) (by omega) _).mono ?_
  rintro e w1 ⟨s, o, rfl, bs, bo, F, rfl⟩
  obtain ⟨z0, z1, z2⟩ := mul_add_hi hx0 hx hy0 hy E.out F.out ⟨hc0, hc⟩ bl bs bo
  have Z := hide z2
  clear z2
  go_wp2
  go_ret2
  exact ⟨s, h + o, rfl, bs, ⟨z0, z1⟩, Z.out, rfl⟩
theorem wrow_carry {x y h l c p t q : Int} (hx0 : 0 ≤ x) (hx : x < 18446744073709551616) (hy0 : 0 ≤ y) (hy : y < 18446744073709551616) (E : x * y + c = 18446744073709551616 * h + l) (G : p + l = 18446744073709551616 * t + q)
    (hc : 0 ≤ c ∧ c < 18446744073709551616) (hp : 0 ≤ p ∧ p < 18446744073709551616) (bq : 0 ≤ q ∧ q < 18446744073709551616) (bh : 0 ≤ h ∧ h < 18446744073709551616) (bt : 0 ≤ t ∧ t ≤ 1) :
    0 ≤ h + t ∧ h + t < 18446744073709551616 := by
  have p0 : 0 ≤ x * y := Int.mul_nonneg hx0 hy0
  have p1 : x * y ≤ 18446744073709551615 * 18446744073709551615 := Int.mul_le_mul (by omega) (by omega) hy0 (by omega)
  omega
theorem wrow_sum {x b b0 b1 b2 b3 p0 p1 p2 p3 h0 h1 h2 h3 l0 l1 l2 l3 t0 t1 t2 t3 q0 q1 q2 q3 c1 c2 c3 c4 : Int} (hb : four b0 b1 b2 b3 = b)
    (E0 : x * b0 + 0 = 18446744073709551616 * h0 + l0) (E1 : x * b1 + c1 = 18446744073709551616 * h1 + l1) (E2 : x * b2 + c2 = 18446744073709551616 * h2 + l2) (E3 : x * b3 + c3 = 18446744073709551616 * h3 + l3)
    (G0 : p0 + l0 = 18446744073709551616 * t0 + q0) (G1 : p1 + l1 = 18446744073709551616 * t1 + q1) (G2 : p2 + l2 = 18446744073709551616 * t2 + q2) (G3 : p3 + l3 = 18446744073709551616 * t3 + q3)
    (k1 : c1 = h0 + t0) (k2 : c2 = h1 + t1) (k3 : c3 = h2 + t2) (k4 : c4 = h3 + t3) :
    four q0 q1 q2 q3 + 115792089237316195423570985008687907853269984665640564039457584007913129639936 * c4 = four p0 p1 p2 p3 + x * b := by
  rw [← hb, mul_four]
  generalize x * b0 = y0 at *
  generalize x * b1 = y1 at *
  generalize x * b2 = y2 at *
  generalize x * b3 = y3 at *
  unfold four
  omega

set_option maxHeartbeats 4000000 in
theorem wrow_any (g off cap : Nat) (x : Int) (b : Int) (p0 p1 p2 p3 p4 : Int) (w : World) (hb : In b) (hx0 : 0 ≤ x) (hx : x < 18446744073709551616) (hg : g < w.heap.size)
    (k0 : 0 ≤ p0 ∧ p0 < 18446744073709551616) (k1 : 0 ≤ p1 ∧ p1 < 18446744073709551616) (k2 : 0 ≤ p2 ∧ p2 < 18446744073709551616) (k3 : 0 ≤ p3 ∧ p3 < 18446744073709551616)
    (d0 : w.cell? ⟨g, off, none⟩ = some (.int .u64 p0)) (d1 : w.cell? ⟨g, off + 1, none⟩ = some (.int .u64 p1)) (d2 : w.cell? ⟨g, off + 2, none⟩ = some (.int .u64 p2)) (d3 : w.cell? ⟨g, off + 3, none⟩ = some (.int .u64 p3)) (d4 : w.cell? ⟨g, off + 4, none⟩ = some (.int .u64 p4))
    (f : ∀ o, w.frozen? ⟨g, o, none⟩ = false) :
    Calls Try.prog 23 #[.slice (some ⟨g, off, none⟩) 5 cap, .int .u64 x, big b] w fun e w' => ∃ q0 q1 q2 q3 q4, e = .returned (.tuple #[]) ∧ (0 ≤ q0 ∧ q0 < 18446744073709551616) ∧ (0 ≤ q1 ∧ q1 < 18446744073709551616) ∧ (0 ≤ q2 ∧ q2 < 18446744073709551616) ∧ (0 ≤ q3 ∧ q3 < 18446744073709551616) ∧ (0 ≤ q4 ∧ q4 < 18446744073709551616) ∧
      Hid (four q0 q1 q2 q3 + 115792089237316195423570985008687907853269984665640564039457584007913129639936 * q4 = four p0 p1 p2 p3 + x * b) ∧
      w' = (((((w.setCell ⟨g, off, none⟩ (.int .u64 q0)).setCell ⟨g, off + 1, none⟩ (.int .u64 q1)).setCell ⟨g, off + 2, none⟩ (.int .u64 q2)).setCell ⟨g, off + 3, none⟩ (.int .u64 q3)).setCell ⟨g, off + 4, none⟩ (.int .u64 q4)).alloc (.cells #[.int .u64 (lm b 0), .int .u64 (lm b 1), .int .u64 (lm b 2), .int .u64 (lm b 3)] 24) := by
  have b0 := lm_bd b 0; have b1 := lm_bd b 1; have b2 := lm_bd b 2; have b3 := lm_bd b 3
  have HB := hide hb
  clear hb
  go_enter Try.func23, Try.ntmps23
  go_wp2
  refine wp_loop_rounds 5 ?_
  rw [rounds_succ]
  go_wp2_with fail
  refine (mul_add_any _ _ _ hx0 hx b0.1 b0.2 (by omega) (by omega) _).mono ?_
  rintro e w1 ⟨l0, h0, rfl, bl0, bh0, E0, rfl⟩
  go_wp2_with fail
  refine (add_x _ _ (by omega) (by omega) (by omega) (by omega) _).mono ?_
  rintro e w1 ⟨q0, t0, rfl, bq0, bt0, G0, rfl⟩
  have y0 : 0 ≤ h0 + t0 ∧ h0 + t0 < 18446744073709551616 := wrow_carry hx0 hx b0.1 b0.2 E0.out G0.out (by omega) (by omega) bq0 bh0 bt0
  obtain ⟨c1, hc1⟩ : ∃ c, Hid (c = h0 + t0) := ⟨_, rfl⟩
  have y0' : 0 ≤ c1 ∧ c1 < 18446744073709551616 := by rw [hc1.out]; exact y0
  obtain ⟨y0a, y0b⟩ := y0
  go_wp2_with fail
  rw [← hc1.out]
  clear y0a y0b
  rw [rounds_succ]
  go_wp2_with fail
  refine (mul_add_any _ _ _ hx0 hx b1.1 b1.2 (by omega) (by omega) _).mono ?_
  rintro e w1 ⟨l1, h1, rfl, bl1, bh1, E1, rfl⟩
  go_wp2_with fail
  refine (add_x _ _ (by omega) (by omega) (by omega) (by omega) _).mono ?_
  rintro e w1 ⟨q1, t1, rfl, bq1, bt1, G1, rfl⟩
  have y1 : 0 ≤ h1 + t1 ∧ h1 + t1 < 18446744073709551616 := wrow_carry hx0 hx b1.1 b1.2 E1.out G1.out (by omega) (by omega) bq1 bh1 bt1
  obtain ⟨c2, hc2⟩ : ∃ c, Hid (c = h1 + t1) := ⟨_, rfl⟩
  have y1' : 0 ≤ c2 ∧ c2 < 18446744073709551616 := by rw [hc2.out]; exact y1
  obtain ⟨y1a, y1b⟩ := y1
  go_wp2_with fail
  rw [← hc2.out]
  clear y1a y1b
  rw [rounds_succ]
  go_wp2_with fail
  refine (mul_add_any _ _ _ hx0 hx b2.1 b2.2 (by omega) (by omega) _).mono ?_
  rintro e w1 ⟨l2, h2, rfl, bl2, bh2, E2, rfl⟩
  go_wp2_with fail
  refine (add_x _ _ (by omega) (by omega) (by omega) (by omega) _).mono ?_
  rintro e w1 ⟨q2, t2, rfl, bq2, bt2, G2, rfl⟩
  have y2 : 0 ≤ h2 + t2 ∧ h2 + t2 < 18446744073709551616 := wrow_carry hx0 hx b2.1 b2.2 E2.out G2.out (by omega) (by omega) bq2 bh2 bt2
  obtain ⟨c3, hc3⟩ : ∃ c, Hid (c = h2 + t2) := ⟨_, rfl⟩
  have y2' : 0 ≤ c3 ∧ c3 < 18446744073709551616 := by rw [hc3.out]; exact y2
  obtain ⟨y2a, y2b⟩ := y2
  go_wp2_with fail
  rw [← hc3.out]
  clear y2a y2b
  rw [rounds_succ]
  go_wp2_with fail
  refine (mul_add_any _ _ _ hx0 hx b3.1 b3.2 (by omega) (by omega) _).mono ?_
  rintro e w1 ⟨l3, h3, rfl, bl3, bh3, E3, rfl⟩
  go_wp2_with fail
  refine (add_x _ _ (by omega) (by omega) (by omega) (by omega) _).mono ?_
  rintro e w1 ⟨q3, t3, rfl, bq3, bt3, G3, rfl⟩
  have y3 : 0 ≤ h3 + t3 ∧ h3 + t3 < 18446744073709551616 := wrow_carry hx0 hx b3.1 b3.2 E3.out G3.out (by omega) (by omega) bq3 bh3 bt3
  obtain ⟨c4, hc4⟩ : ∃ c, Hid (c = h3 + t3) := ⟨_, rfl⟩
  have y3' : 0 ≤ c4 ∧ c4 < 18446744073709551616 := by rw [hc4.out]; exact y3
  obtain ⟨y3a, y3b⟩ := y3
  go_wp2_with fail
  rw [← hc4.out]
  clear y3a y3b
  rw [rounds_succ]
  go_wp2
  go_end0
  exact ⟨q0, q1, q2, q3, c4, rfl, bq0, bq1, bq2, bq3, y3', wrow_sum (four_lm HB.out) E0.out E1.out E2.out E3.out G0.out G1.out G2.out G3.out hc1.out hc2.out hc3.out hc4.out, rfl⟩
end Go.Proofs.Ytlmjbpmpedlhlaa
