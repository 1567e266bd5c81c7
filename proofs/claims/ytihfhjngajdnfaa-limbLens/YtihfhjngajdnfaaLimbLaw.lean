/- What layer 1's statements do over this translation, by the contracts of package limb: the walks of the laws that need no other numbers. -/
import Derived.Test.YtihfhjngajdnfaaLimb
import Derived.OpenShut
namespace Go.Proofs.Ytihfhjngajdnfaa
open Go.RowKit Go.Lib

theorem lives_any (w : World) : Calls Try.prog 8 #[] w fun e w' => e = .returned (.bool true) ∧ ∃ n, w' = w.drewN n := by
  go_enter Try.func8, Try.ntmps8
  go_wp2_with fail
  refine (add_live _).mono ?_
  rintro e w1 ⟨rfl, rfl⟩
  go_wp2_with fail
  refine (div_live _).mono ?_
  rintro e w2 ⟨rfl, n, rfl⟩
  go_wp2
  go_ret
  exact ⟨rfl, n, rfl⟩

theorem bit_top (y : Int) (hy : 0 < y) : y / 2 ^ (bitLen y.toNat - 1) = 1 := by
  obtain ⟨n, rfl⟩ := Int.eq_ofNat_of_zero_le (Int.le_of_lt hy)
  simp only [Int.toNat_natCast]
  obtain ⟨h1, h2⟩ := bitLen_spec n
  have h2 := h2 (by omega)
  have hL : 1 ≤ bitLen n := by
    rcases Nat.eq_zero_or_pos (bitLen n) with h | h
    · rw [h] at h1; omega
    · exact h
  have e : 2 ^ bitLen n = 2 ^ (bitLen n - 1) * 2 := by rw [← Nat.pow_succ]; congr 1; omega
  have p0 : 0 < 2 ^ (bitLen n - 1) := Nat.two_pow_pos _
  have : n / 2 ^ (bitLen n - 1) = 1 := Nat.div_eq_of_lt_le (by omega) (by omega)
  have c : ((n / 2 ^ (bitLen n - 1) : Nat) : Int) = (n : Int) / 2 ^ (bitLen n - 1) := by simp
  rw [← c, this]; rfl

theorem limbLens_walk (a0 : Int) (w0 : (Lit.int .u64 a0).wf = true) (w : World) :
    Calls Try.prog 7 #[.int .u64 a0] w fun e w' => e = .returned (.bool true) ∧ Below w.heap.size w w' := by
  obtain ⟨h0, h1⟩ := bounds_u64 w0
  by_cases hz : a0 = 0
  · subst hz
    have e : bitLen (0 : Int).toNat = 0 := rfl
    go_enter Try.func7, Try.ntmps7
    go_wp2_with fail
    refine (lives_any _).mono ?_
    rintro e w1 ⟨rfl, n, rfl⟩
    go_wp2_with fail
    refine (limb_len_any 0 (by omega) (by omega) _).mono ?_
    rintro e w1 ⟨rfl, rfl⟩
    go_wp2
    go_ret
    exact ⟨rfl, below_draws _ _⟩
  · have N := norm_of a0 (by omega) (by omega)
    have t := bit_top a0 (by omega)
    have l1 := N.l1
    have l2 := N.l2
    clear N
    go_enter Try.func7, Try.ntmps7
    go_wp2_with fail
    refine (lives_any _).mono ?_
    rintro e w1 ⟨rfl, n, rfl⟩
    go_wp2_with fail
    refine (limb_len_any a0 (by omega) (by omega) _).mono ?_
    rintro e w1 ⟨rfl, rfl⟩
    generalize bitLen a0.toNat = L at *
    have q1 : ((L : Int) == 0) = false := by rw [beq_eq_false_iff_ne]; omega
    go_wp2
    go_ret

    exact ⟨rfl, below_draws _ _⟩
end Go.Proofs.Ytihfhjngajdnfaa
