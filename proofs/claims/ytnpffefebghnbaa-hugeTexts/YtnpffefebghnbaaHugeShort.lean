/- The contract of huge.Short over this translation. -/
import Derived.Test.YtnpffefebghnbaaOwn
namespace Go.Proofs.Ytnpffefebghnbaa
open Go.RowKit Go.Lib
attribute [local go_sem] setCell_drewN alloc_drewN

theorem div_x (hi lo y : Int) (hh : 0 ≤ hi) (hl : 0 ≤ lo) (hl1 : lo < 18446744073709551616) (hy : hi < y) (hy1 : y < 18446744073709551616) (w : World) :
    Calls Try.prog 40 #[.int .u64 hi, .int .u64 lo, .int .u64 y] w fun e w' => ∃ q r, e = .returned (.tuple #[.int .u64 q, .int .u64 r, .int .i64 0]) ∧ (0 ≤ q ∧ q < 18446744073709551616) ∧ (0 ≤ r ∧ r < y) ∧ Hid (hi * 18446744073709551616 + lo = y * q + r) ∧ ∃ n, w' = w.drewN n := by
  refine (div_ok hi lo y hh hl hl1 hy hy1 w).mono ?_
  rintro e w' ⟨rfl, n, rfl⟩
  have e := Int.mul_ediv_add_emod (hi * 18446744073709551616 + lo) y
  have m0 := Int.emod_nonneg (hi * 18446744073709551616 + lo) (show y ≠ 0 by omega)
  have m1 := Int.emod_lt_of_pos (hi * 18446744073709551616 + lo) (show 0 < y by omega)
  have q0 := Int.ediv_nonneg (show 0 ≤ hi * 18446744073709551616 + lo by omega) (show 0 ≤ y by omega)
  have q1 : (hi * 18446744073709551616 + lo) / y < 18446744073709551616 := Int.ediv_lt_of_lt_mul (by omega) (by omega)
  exact ⟨_, _, rfl, ⟨q0, q1⟩, ⟨m0, m1⟩, e.symm, n, rfl⟩
theorem short_sum {a y a0 a1 a2 a3 q0 q1 q2 q3 r0 r1 r2 r3 : Int} (ha : four a0 a1 a2 a3 = a) (E3 : 0 * 18446744073709551616 + a3 = y * q3 + r3) (E2 : r3 * 18446744073709551616 + a2 = y * q2 + r2) (E1 : r2 * 18446744073709551616 + a1 = y * q1 + r1) (E0 : r1 * 18446744073709551616 + a0 = y * q0 + r0) :
    a = y * four q0 q1 q2 q3 + r0 := by
  rw [← ha]
  unfold four
  rw [Int.mul_add, Int.mul_add, Int.mul_add, Int.mul_left_comm y 18446744073709551616, Int.mul_left_comm y 340282366920938463463374607431768211456, Int.mul_left_comm y 6277101735386680763835789423207666416102355444464034512896]
  omega
theorem quot_of {a y q r : Int} (h : a = y * q + r) (h0 : 0 ≤ r) (h1 : r < y) : q = a / y ∧ r = a % y := by
  subst h
  rw [Int.add_comm, Int.add_mul_ediv_left _ _ (by omega), Int.ediv_eq_zero_of_lt h0 h1, Int.add_mul_emod_self_left, Int.emod_eq_of_lt h0 h1]
  omega
theorem ret_short {n r r' : Int} {k : Int} {a b c d : Int} (h0 : a = lm n 0) (h1 : b = lm n 1) (h2 : c = lm n 2) (h3 : d = lm n 3) (h4 : r = r') : Ending.returned (.tuple #[.agg #[.int .u64 a, .int .u64 b, .int .u64 c, .int .u64 d], .int .u64 r, .int .i64 k]) = .returned (.tuple #[big n, .int .u64 r', .int .i64 k]) := by rw [h0, h1, h2, h3, h4]

set_option maxHeartbeats 2000000 in
theorem short_zero (a : Int) (w : World) :
    Calls Try.prog 19 #[big a, .int .u64 0] w fun e w' => e = .returned (.tuple #[big 0, .int .u64 0, .int .i64 3]) ∧ Below w.heap.size w w' := by
  go_enter Try.func19, Try.ntmps19
  go_wp2
  refine wp_loop_rounds 1 ?_
  rw [rounds_succ]
  go_wp2_with fail
  refine (div_zero _ _ _).mono ?_
  rintro e w1 ⟨rfl, rfl⟩
  go_wp2
  refine bodyPost_ret (v := .tuple #[.agg #[.int .u64 0, .int .u64 0, .int .u64 0, .int .u64 0], .int .u64 0, .int .i64 3]) ?_ rfl ⟨ret_short (lm_zero 0).symm (lm_zero 1).symm (lm_zero 2).symm (lm_zero 3).symm rfl, bAl (bAl (bMe w))⟩
  simp [results, Try.results19, go_sem]
set_option maxHeartbeats 4000000 in
theorem short_any (a y : Int) (w : World) (ha : In a) (hy0 : 0 < y) (hy1 : y < 18446744073709551616) :
    Calls Try.prog 19 #[big a, .int .u64 y] w fun e w' => e = .returned (.tuple #[big (a / y), .int .u64 (a % y), .int .i64 0]) ∧ Below w.heap.size w w' := by
  have HA := hide (four_lm ha)
  have a0 := lm_bd a 0; have a1 := lm_bd a 1; have a2 := lm_bd a 2; have a3 := lm_bd a 3
  clear ha
  go_enter Try.func19, Try.ntmps19
  go_wp2
  refine wp_loop_rounds 5 ?_
  rw [rounds_succ]
  go_wp2_with fail
  refine (div_x _ _ _ (by omega) a3.1 a3.2 hy0 hy1 _).mono ?_
  rintro e w1 ⟨q3, r3, rfl, bq3, br3, E3, n3, rfl⟩
  go_wp2_with fail
  rw [rounds_succ]
  go_wp2_with fail
  refine (div_x _ _ _ br3.1 a2.1 a2.2 br3.2 hy1 _).mono ?_
  rintro e w1 ⟨q2, r2, rfl, bq2, br2, E2, n2, rfl⟩
  go_wp2_with fail
  rw [rounds_succ]
  go_wp2_with fail
  refine (div_x _ _ _ br2.1 a1.1 a1.2 br2.2 hy1 _).mono ?_
  rintro e w1 ⟨q1, r1, rfl, bq1, br1, E1, n1, rfl⟩
  go_wp2_with fail
  rw [rounds_succ]
  go_wp2_with fail
  refine (div_x _ _ _ br1.1 a0.1 a0.2 br1.2 hy1 _).mono ?_
  rintro e w1 ⟨q0, r0, rfl, bq0, br0, E0, n0, rfl⟩
  go_wp2_with fail
  rw [rounds_succ]
  go_wp2
  have hs := short_sum HA.out E3.out E2.out E1.out E0.out
  obtain ⟨e1, e2⟩ := quot_of hs br0.1 br0.2
  obtain ⟨f0, f1, f2, f3⟩ := lm_of (n := a / y) e1.symm bq0 bq1 bq2 bq3
  refine bodyPost_ret (v := .tuple #[.agg #[.int .u64 q0, .int .u64 q1, .int .u64 q2, .int .u64 q3], .int .u64 r0, .int .i64 0]) ?_ rfl ⟨ret_short f0 f1 f2 f3 e2, bDn (bAl (bAl (bMe w)))⟩
  simp [results, Try.results19, go_sem]
end Go.Proofs.Ytnpffefebghnbaa
