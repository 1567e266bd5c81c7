/- What the statements of layer 1 that are held against rows of digits do over this translation: by the contracts of limb and of sponsionref01. -/
import Derived.Test.YtihfhjngajdnfaaLimbLaw
import Derived.Test.YtihfhjngajdnfaaRef1Div
namespace Go.Proofs.Ytihfhjngajdnfaa
open Go.RowKit

theorem same_any {ao bo : Option Addr} {n m cap cap' : Nat} {A B : Int} {L M : Nat} {w : World} (hx : Num w ao n cap A L) (hy : Num w bo m cap' B M) (h : A = B) :
    Calls Try.prog 12 #[.slice ao n cap, .slice bo m cap'] w fun e w' => e = .returned (.bool true) ∧ w' = w := by
  go_enter Try.func12, Try.ntmps12
  have HX := hide hx; have HY := hide hy; have H := hide h
  clear hx hy h
  go_wp2_with fail
  refine (cmp_num HX.out HY.out).mono ?_
  rintro e w1 ⟨⟨c, rfl, hc⟩, rfl⟩
  obtain rfl : c = 0 := by have := H.out; omega
  clear hc
  go_wp2
  go_ret
  exact ⟨rfl, rfl⟩

set_option maxHeartbeats 1000000 in
theorem limbMuls_walk (a0 : Int) (a1 : Int) (w0 : (Lit.int .u64 a0).wf = true) (w1 : (Lit.int .u64 a1).wf = true) (w : World) :
    Calls Try.prog 4 #[.int .u64 a0, .int .u64 a1] w fun e w' => e = .returned (.bool true) ∧ Below w.heap.size w w' := by
  obtain ⟨ha, ha1⟩ := bounds_u64 w0
  obtain ⟨hb, hb1⟩ := bounds_u64 w1
  clear w0 w1
  have p0 : 0 ≤ a0 * a1 := Int.mul_nonneg ha hb
  have p1 : a0 * a1 ≤ 18446744073709551615 * 18446744073709551615 := Int.mul_le_mul ha1 hb1 hb (by omega)
  have h1 : 0 ≤ a0 * a1 / 18446744073709551616 := by omega
  have h2 : a0 * a1 / 18446744073709551616 < 18446744073709551616 := by omega
  go_enter Try.func4, Try.ntmps4
  go_wp2_with fail
  refine (lives_any _).mono ?_
  rintro e w1 ⟨rfl, q, hq⟩
  have B1 : Below w.heap.size w w1 := by rw [hq]; exact below_draws _ _
  clear hq
  go_wp2_with fail
  refine (limb_mul_any _ _ ha (by omega) hb (by omega) _).mono ?_
  rintro e w2 ⟨rfl, rfl⟩
  go_wp2_with fail
  refine (pair_any _ _ _ h1 h2 (by omega) (by omega)).mono ?_
  rintro e w3 ⟨a3, n3, k3, rfl, N3, B3⟩
  have B3' := Below.on B1 B3
  go_wp2_with fail
  refine (of_any a0 _ ha (by omega)).mono ?_
  rintro e w4 ⟨a4, n4, k4, rfl, N4, B4⟩
  have B4' := Below.on B3' B4
  go_wp2_with fail
  refine (of_any a1 _ hb (by omega)).mono ?_
  rintro e w5 ⟨a5, n5, k5, rfl, N5, B5⟩
  have B5' := Below.on B4' B5
  go_wp2_with fail
  refine (mul_any (N4.below B5) N5 (by omega)).mono ?_
  rintro e w6 ⟨a6, n6, k6, rfl, N6, B6⟩
  have B6' := Below.on B5' B6
  go_wp2_with fail
  refine (same_any (N3.below (Below.on (Below.on B4 B5) B6)) N6 (by omega)).mono ?_
  rintro e w7 ⟨rfl, rfl⟩
  go_wp2
  go_ret
  exact ⟨rfl, B6'⟩

theorem add_facts (a b c : Int) (ha : 0 ≤ a) (ha1 : a ≤ 18446744073709551615) (hb : 0 ≤ b) (hb1 : b ≤ 18446744073709551615) (hc : 0 ≤ c ∧ c ≤ 1) :
    0 ≤ (a + b + c) / 18446744073709551616 ∧ (a + b + c) / 18446744073709551616 ≤ 1 ∧ (a + b + c) / 18446744073709551616 * 18446744073709551616 + (a + b + c) % 18446744073709551616 = a + (b + c) ∧
      0 ≤ bor a (b + c) ∧ bor a (b + c) ≤ 1 ∧ (a - b - c) % 18446744073709551616 + (b + c) = bor a (b + c) * 18446744073709551616 + a := by
  unfold bor
  refine ⟨by omega, by omega, by omega, ?_, ?_, ?_⟩ <;> split <;> omega

set_option maxHeartbeats 2000000 in
theorem limbAdds_walk (a0 : Int) (a1 : Int) (a2 : Int) (w0 : (Lit.int .u64 a0).wf = true) (w1 : (Lit.int .u64 a1).wf = true) (_w2 : (Lit.int .u64 a2).wf = true) (w : World) :
    Calls Try.prog 3 #[.int .u64 a0, .int .u64 a1, .int .u64 a2] w fun e w' => e = .returned (.bool true) ∧ Below w.heap.size w w' := by
  obtain ⟨ha, ha1⟩ := bounds_u64 w0
  obtain ⟨hb, hb1⟩ := bounds_u64 w1
  clear w0 w1
  have ho := one_bd a2
  obtain ⟨f1, f2, f3, f4, f5, f6⟩ := add_facts a0 a1 (one a2) ha ha1 hb hb1 ho
  have F3 := hide f3; have F6 := hide f6
  clear f3 f6
  have hcase : Hid (((a2 != 0) = false ∧ one a2 = 0) ∨ ((a2 != 0) = true ∧ one a2 = 1)) := by
    by_cases hz : a2 = 0
    · left; rw [hz]; exact ⟨rfl, rfl⟩
    · right; exact ⟨by simp [hz], by unfold one; rw [if_neg hz]⟩
  rcases hcase.out with ⟨hz', e0⟩ | ⟨hz', e0⟩
  all_goals
    have E0 := hide e0
    clear e0 hcase
    go_enter Try.func3, Try.ntmps3
    go_wp2_with fail
    refine (lives_any _).mono ?_
    rintro e w1 ⟨rfl, q, hq⟩
    have B1 : Below w.heap.size w w1 := by rw [hq]; exact below_draws _ _
    clear hq
    go_wp2_with fail
  focus
    obtain ⟨wA, hA⟩ : ∃ wA, wA = w1.alloc (.cells #[] 3) := ⟨_, rfl⟩
    have B2 : Below w.heap.size w wA := by rw [hA]; exact Below.on B1 (below_lit _ _)
    have N0 : Num wA (some ⟨w1.heap.size, 0, none⟩) 0 0 (one a2) 1 := by rw [hA, E0.out]; exact (lit0 w1).mono (by omega)
    rw [← hA]
    clear hA B1
  rotate_left
  focus
    obtain ⟨wA, hA⟩ : ∃ wA, wA = (w1.alloc (.cells #[] 3)).alloc (.cells #[.int .i64 1] 3) := ⟨_, rfl⟩
    have B2 : Below w.heap.size w wA := by rw [hA]; exact Below.on (Below.on B1 (below_lit _ _)) (below_lit _ _)
    have N0 : Num wA (some ⟨w1.heap.size + 1, 0, none⟩) 1 1 (one a2) 1 := by
      rw [hA, E0.out]
      have := lit1 (w1.alloc (.cells #[] 3))
      rw [World.size_alloc] at this
      exact this
    rw [← hA]
    clear hA B1
  all_goals
    refine (limb_add_any _ _ _ ha hb _).mono ?_
    rintro e w2 ⟨rfl, rfl⟩
    go_wp2_with fail
    refine (of_any a0 _ ha (by omega)).mono ?_
    rintro e w3 ⟨a3, n3, k3, rfl, N3, B3⟩
    have B3' := Below.on B2 B3
    go_wp2_with fail
    refine (of_any a1 _ hb (by omega)).mono ?_
    rintro e w4 ⟨a4, n4, k4, rfl, N4, B4⟩
    have B4' := Below.on B3' B4
    go_wp2_with fail
    refine (add_any N4 ((N0.below (Below.on B3 B4)).mono (by omega)) (by omega)).mono ?_
    rintro e w5 ⟨a5, n5, k5, rfl, N5, B5⟩
    have B5' := Below.on B4' B5
    have X5 := (N3.below B4).below B5
    clear N0 N4 N3 B3 B3' B4 B4' B5 B2
    go_wp2_with fail
    refine (pair_any _ _ _ f1 (by omega) (by omega) (by omega)).mono ?_
    rintro e w6 ⟨a6, n6, k6, rfl, N6, B6⟩
    have B6' := Below.on B5' B6
    go_wp2_with fail
    refine (add_any ((X5.below B6).mono (by omega)) (N5.below B6) (by omega)).mono ?_
    rintro e w7 ⟨a7, n7, k7, rfl, N7, B7⟩
    have B7' := Below.on B6' B7
    have Y7 := (N5.below B6).below B7
    go_wp2_with fail
    refine (same_any (N6.below B7) N7 F3.out).mono ?_
    rintro e w8 ⟨rfl, rfl⟩
    clear N6 N7 X5 N5 B6 B6' B7 B5'
    go_wp2_with fail
    refine (limb_sub_any _ _ _ ha hb (by omega) _).mono ?_
    rintro e w9 ⟨rfl, rfl⟩
    go_wp2_with fail
    refine (of_any _ _ (by omega) (by omega)).mono ?_
    rintro e w10 ⟨a10, n10, k10, rfl, N10, B10⟩
    have B10' := Below.on B7' B10
    go_wp2_with fail
    refine (add_any (N10.mono (by omega)) (Y7.below B10) (by omega)).mono ?_
    rintro e w11 ⟨a11, n11, k11, rfl, N11, B11⟩
    have B11' := Below.on B10' B11
    go_wp2_with fail
    refine (pair_any _ _ _ f4 (by omega) ha (by omega)).mono ?_
    rintro e w12 ⟨a12, n12, k12, rfl, N12, B12⟩
    have B12' := Below.on B11' B12
    go_wp2_with fail
    refine (same_any (N11.below B12) N12 F6.out).mono ?_
    rintro e w13 ⟨rfl, rfl⟩
    go_wp2
    go_ret
    exact ⟨rfl, B12'⟩

set_option maxHeartbeats 2000000 in
theorem limbDivs_walk (a0 : Int) (a1 : Int) (a2 : Int) (w0 : (Lit.int .u64 a0).wf = true) (w1 : (Lit.int .u64 a1).wf = true) (w2 : (Lit.int .u64 a2).wf = true) (w : World) :
    Calls Try.prog 5 #[.int .u64 a0, .int .u64 a1, .int .u64 a2] w fun e w' => e = .returned (.bool true) ∧ Below w.heap.size w w' := by
  obtain ⟨ha, ha1⟩ := bounds_u64 w0
  obtain ⟨hb, hb1⟩ := bounds_u64 w1
  obtain ⟨hc, hc1⟩ := bounds_u64 w2
  clear w0 w1 w2
  have p4 : pw 4 = 18446744073709551616 := by decide
  have P4 := hide p4
  clear p4
  by_cases hz : a2 = 0
  · subst hz
    go_enter Try.func5, Try.ntmps5
    go_wp2_with fail
    refine (lives_any _).mono ?_
    rintro e w1 ⟨rfl, q, hq⟩
    have B1 : Below w.heap.size w w1 := by rw [hq]; exact below_draws _ _
    clear hq
    go_wp2_with fail
    refine (div_zero _ _ _).mono ?_
    rintro e w2 ⟨rfl, rfl⟩
    go_wp2
    go_ret
    exact ⟨rfl, B1⟩
  · have hz' : (a2 == 0) = false := by rw [beq_eq_false_iff_ne]; exact hz
    have hpos : 0 < a2 := by omega
    clear hz
    by_cases hov : a2 ≤ a0
    · have big : Hid (18446744073709551616 ≤ (a0 * 18446744073709551616 + a1) / a2) := (Int.le_ediv_iff_mul_le hpos).2 (by omega)
      go_enter Try.func5, Try.ntmps5
      go_wp2_with fail
      refine (lives_any _).mono ?_
      rintro e w1 ⟨rfl, q, hq⟩
      have B1 : Below w.heap.size w w1 := by rw [hq]; exact below_draws _ _
      clear hq
      go_wp2_with fail
      refine (div_over _ _ _ hpos hov _).mono ?_
      rintro e w2 ⟨rfl, rfl⟩
      go_wp2_with fail
      refine (pair_any _ _ _ ha (by omega) hb (by omega)).mono ?_
      rintro e w3 ⟨a3, n3, k3, rfl, N3, B3⟩
      have B3' := Below.on B1 B3
      go_wp2_with fail
      refine (of_any a2 _ hc (by omega)).mono ?_
      rintro e w4 ⟨a4, n4, k4, rfl, N4, B4⟩
      have B4' := Below.on B3' B4
      go_wp2_with fail
      refine (div_any (N3.below B4) N4 hpos (by omega) (by omega)).mono ?_
      rintro e w5 ⟨q5, n5, k5, l5, m5, j5, rfl, N5, M5, B5⟩
      have B5' := Below.on B4' B5
      have hlen : 4 < n5 := N5.len_gt 4 (by rw [P4.out]; exact big.out)
      clear N3 N4 N5 M5 B3 B4 B5 B3' B4' B1
      go_wp2
      go_ret
      exact ⟨rfl, B5'⟩
    · have small : Hid ((a0 * 18446744073709551616 + a1) / a2 < 18446744073709551616) := Int.ediv_lt_of_lt_mul hpos (by omega)
      have q0 : 0 ≤ (a0 * 18446744073709551616 + a1) / a2 := Int.ediv_nonneg (by omega) (by omega)
      have r0 : 0 ≤ (a0 * 18446744073709551616 + a1) % a2 := Int.emod_nonneg _ (by omega)
      have r1 : (a0 * 18446744073709551616 + a1) % a2 < a2 := Int.emod_lt_of_pos _ hpos
      go_enter Try.func5, Try.ntmps5
      go_wp2_with fail
      refine (lives_any _).mono ?_
      rintro e w1 ⟨rfl, q, hq⟩
      have B1 : Below w.heap.size w w1 := by rw [hq]; exact below_draws _ _
      clear hq
      go_wp2_with fail
      refine (div_ok _ _ _ ha hb (by omega) (by omega) (by omega) _).mono ?_
      rintro e w2 ⟨rfl, q', hq'⟩
      have B2 : Below w.heap.size w w2 := by rw [hq']; exact Below.on B1 (below_draws _ _)
      clear hq' B1
      generalize hQ : (a0 * 18446744073709551616 + a1) / a2 = Q at *
      generalize hR : (a0 * 18446744073709551616 + a1) % a2 = R at *
      have HQ := hide hQ; have HR := hide hR
      clear hQ hR
      go_wp2_with fail
      refine (pair_any _ _ _ ha (by omega) hb (by omega)).mono ?_
      rintro e w3 ⟨a3, n3, k3, rfl, N3, B3⟩
      have B3' := Below.on B2 B3
      go_wp2_with fail
      refine (of_any a2 _ hc (by omega)).mono ?_
      rintro e w4 ⟨a4, n4, k4, rfl, N4, B4⟩
      have B4' := Below.on B3' B4
      go_wp2_with fail
      refine (div_any (N3.below B4) N4 hpos (by omega) (by omega)).mono ?_
      rintro e w5 ⟨q5, n5, k5, l5, m5, j5, rfl, N5, M5, B5⟩
      rw [HQ.out] at N5
      rw [HR.out] at M5
      have B5' := Below.on B4' B5
      have hlen : n5 ≤ 4 := N5.len_le 4 (by rw [P4.out]; exact small.out)
      clear N3 N4 B3 B4 B5 B3' B4' B2
      go_wp2_with fail
      refine (of_any Q _ q0 small.out).mono ?_
      rintro e w6 ⟨a6, n6, k6, rfl, N6, B6⟩
      have B6' := Below.on B5' B6
      go_wp2_with fail
      refine (same_any N6 (N5.below B6) rfl).mono ?_
      rintro e w7 ⟨rfl, rfl⟩
      go_wp2_with fail
      refine (of_any R _ r0 (by omega)).mono ?_
      rintro e w8 ⟨a8, n8, k8, rfl, N8, B8⟩
      have B8' := Below.on B6' B8
      go_wp2_with fail
      refine (same_any N8 ((M5.below B6).below B8) rfl).mono ?_
      rintro e w9 ⟨rfl, rfl⟩
      go_wp2
      go_ret
      exact ⟨rfl, B8'⟩
end Go.Proofs.Ytihfhjngajdnfaa
