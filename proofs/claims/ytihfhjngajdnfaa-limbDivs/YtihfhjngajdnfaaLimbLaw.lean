/- What layer 1's statements do over this translation, by the contracts of package limb: the walks of the laws that need no other numbers. -/
import Derived.Test.YtihfhjngajdnfaaLimb
import Derived.OpenShut
namespace Go.Proofs.Ytihfhjngajdnfaa
open Go.RowKit Go.Lib

theorem lives_any (w : World) : Calls Try.prog 8 #[] w fun e w' => e = .returned (.bool true) ∧ ∃ n, w' = w.drewN n := by
  go_enter Try.func8, Try.ntmps8
  go_wp2_with fail
  refine (add_live _).mono ?_
  rintro e w1 ⟨rfl, rfl⟩
  go_wp2_with fail
  refine (div_live _).mono ?_
  rintro e w2 ⟨rfl, n, rfl⟩
  go_wp2
  go_ret
  exact ⟨rfl, n, rfl⟩

theorem bit_top (y : Int) (hy : 0 < y) : y / 2 ^ (bitLen y.toNat - 1) = 1 := by
  obtain ⟨n, rfl⟩ := Int.eq_ofNat_of_zero_le (Int.le_of_lt hy)
  simp only [Int.toNat_natCast]
  obtain ⟨h1, h2⟩ := bitLen_spec n
  have h2 := h2 (by omega)
  have hL : 1 ≤ bitLen n := by
    rcases Nat.eq_zero_or_pos (bitLen n) with h | h
    · rw [h] at h1; omega
    · exact h
  have e : 2 ^ bitLen n = 2 ^ (bitLen n - 1) * 2 := by rw [← Nat.pow_succ]; congr 1; omega
  have p0 : 0 < 2 ^ (bitLen n - 1) := Nat.two_pow_pos _
  have : n / 2 ^ (bitLen n - 1) = 1 := Nat.div_eq_of_lt_le (by omega) (by omega)
  have c : ((n / 2 ^ (bitLen n - 1) : Nat) : Int) = (n : Int) / 2 ^ (bitLen n - 1) := by simp
  rw [← c, this]; rfl

theorem limbLens_walk (a0 : Int) (w0 : (Lit.int .u64 a0).wf = true) (w : World) :
    Calls Try.prog 7 #[.int .u64 a0] w fun e w' => e = .returned (.bool true) ∧ Below w.heap.size w w' := by
  obtain ⟨h0, h1⟩ := bounds_u64 w0
  by_cases hz : a0 = 0
  · subst hz
    have e : bitLen (0 : Int).toNat = 0 := rfl
    go_enter Try.func7, Try.ntmps7
    go_wp2_with fail
    refine (lives_any _).mono ?_
    rintro e w1 ⟨rfl, n, rfl⟩
    go_wp2_with fail
    refine (limb_len_any 0 (by omega) (by omega) _).mono ?_
    rintro e w1 ⟨rfl, rfl⟩
    go_wp2
    go_ret
    exact ⟨rfl, below_draws _ _⟩
  · have N := norm_of a0 (by omega) (by omega)
    have t := bit_top a0 (by omega)
    have l1 := N.l1
    have l2 := N.l2
    clear N
    go_enter Try.func7, Try.ntmps7
    go_wp2_with fail
    refine (lives_any _).mono ?_
    rintro e w1 ⟨rfl, n, rfl⟩
    go_wp2_with fail
    refine (limb_len_any a0 (by omega) (by omega) _).mono ?_
    rintro e w1 ⟨rfl, rfl⟩
    generalize bitLen a0.toNat = L at *
    have q1 : ((L : Int) == 0) = false := by rw [beq_eq_false_iff_ne]; omega
    go_wp2
    go_ret

    exact ⟨rfl, below_draws _ _⟩

theorem back_add (a b c : Int) (ha : 0 ≤ a) (ha1 : a < 18446744073709551616) (hb : 0 ≤ b) (hb1 : b < 18446744073709551616) (hc : 0 ≤ c) (hc1 : c ≤ 1) :
    ((a + b + c) % 18446744073709551616 - b - c) % 18446744073709551616 = a ∧ bor ((a + b + c) % 18446744073709551616) (b + c) = (a + b + c) / 18446744073709551616 := by
  unfold bor
  refine ⟨by omega, ?_⟩
  split <;> omega

/-- A product and what is left, as a pair, by one of its numbers. -/
theorem back_mul (a b l : Int) (ha : 0 ≤ a) (ha1 : a < 18446744073709551616) (hb1 : b < 18446744073709551616) (hl : 0 ≤ l) (hl1 : l < b) :
    let hi := a * b / 18446744073709551616 + (a * b % 18446744073709551616 + l) / 18446744073709551616
    let lo := (a * b + l) % 18446744073709551616
    0 ≤ hi ∧ hi < b ∧ (hi * 18446744073709551616 + lo) / b = a ∧ (hi * 18446744073709551616 + lo) % b = l := by
  intro hi lo
  have e : hi * 18446744073709551616 + lo = l + b * a := by
    rw [Int.mul_comm b a]; omega
  have p0 : 0 ≤ a * b := Int.mul_nonneg ha (by omega)
  have p1 : a * b ≤ 18446744073709551615 * b := Int.mul_le_mul_of_nonneg_right (by omega) (by omega)
  refine ⟨by omega, by omega, ?_, ?_⟩
  · rw [e, Int.add_mul_ediv_left _ _ (by omega), Int.ediv_eq_zero_of_lt hl hl1, Int.zero_add]
  · rw [e, Int.add_mul_emod_self_left, Int.emod_eq_of_lt hl hl1]

set_option maxHeartbeats 1000000 in
theorem limbBack_walk (a0 : Int) (a1 : Int) (a2 : Int) (w0 : (Lit.int .u64 a0).wf = true) (w1 : (Lit.int .u64 a1).wf = true) (w2 : (Lit.int .u64 a2).wf = true) (w : World) :
    Calls Try.prog 6 #[.int .u64 a0, .int .u64 a1, .int .u64 a2] w fun e w' => e = .returned (.bool true) ∧ Below w.heap.size w w' := by
  obtain ⟨ha, ha1⟩ := bounds_u64 w0
  obtain ⟨hb, hb1⟩ := bounds_u64 w1
  obtain ⟨hc, hc1⟩ := bounds_u64 w2
  obtain ⟨k0, k1⟩ := one_bd a2
  obtain ⟨e1, e2⟩ := back_add a0 a1 (one a2) ha (by omega) hb (by omega) k0 k1
  clear w0 w1 w2
  have H1 := hide e1; have H2 := hide e2
  clear e1 e2
  by_cases hz : a1 = 0
  · have HZ := hide hz
    have hz' : (a1 == 0) = true := by rw [beq_iff_eq]; exact hz
    clear hz
    go_enter Try.func6, Try.ntmps6
    go_wp2_with fail
    refine (lives_any _).mono ?_
    rintro e w1 ⟨rfl, n, rfl⟩
    go_wp2_with fail
    refine (limb_add_any _ _ _ ha hb _).mono ?_
    rintro e w1 ⟨rfl, rfl⟩
    go_wp2_with fail
    refine (limb_sub_any _ _ _ (by omega) hb (by omega) _).mono ?_
    rintro e w1 ⟨rfl, rfl⟩
    rw [H1.out, H2.out]
    go_wp2
    go_ret
    exact ⟨rfl, below_draws _ _⟩
  · have hz' : (a1 == 0) = false := by rw [beq_eq_false_iff_ne]; exact hz
    have hl0 := Int.emod_nonneg a2 hz
    have hl1 := Int.emod_lt_of_pos a2 (by omega : 0 < a1)
    have B := back_mul a0 a1 (a2 % a1) ha (by omega) (by omega) hl0 hl1
    obtain ⟨b1, b2, b3, b4⟩ := B
    have H3 := hide b3; have H4 := hide b4; have H5 := hide b1; have H6 := hide b2
    clear b1 b2 b3 b4 hz
    go_enter Try.func6, Try.ntmps6
    go_wp2_with fail
    refine (lives_any _).mono ?_
    rintro e w1 ⟨rfl, n, rfl⟩
    go_wp2_with fail
    refine (limb_add_any _ _ _ ha hb _).mono ?_
    rintro e w1 ⟨rfl, rfl⟩
    go_wp2_with fail
    refine (limb_sub_any _ _ _ (by omega) hb (by omega) _).mono ?_
    rintro e w1 ⟨rfl, rfl⟩
    rw [H1.out, H2.out]
    go_wp2_with fail
    refine (limb_mul_any _ _ ha (by omega) hb (by omega) _).mono ?_
    rintro e w1 ⟨rfl, rfl⟩
    go_wp2_with fail
    refine (limb_add_any _ _ _ (by omega) hl0 _).mono ?_
    rintro e w1 ⟨rfl, rfl⟩
    have o0 : one 0 = 0 := rfl
    rw [o0, Int.add_zero]
    have o1 := H5.out
    have o2 := H6.out
    go_wp2_with fail
    refine (div_ok _ _ _ o1 (by omega) (by omega) o2 (by omega) _).mono ?_
    rintro e w1 ⟨rfl, m, rfl⟩
    rw [H3.out, H4.out, World.drewN_drewN]
    clear o1 o2
    go_wp2
    go_ret
    exact ⟨rfl, below_draws _ _⟩
end Go.Proofs.Ytihfhjngajdnfaa
