/- The walk of HugeLows over this translation. -/
import Derived.Test.YtnpffefebghnbaaHugeLaw
import Derived.Laws.BitsAllLaws
namespace Go.Proofs.Ytnpffefebghnbaa
open Go.RowKit Go.Lib
attribute [local go_sem] setCell_drewN alloc_drewN eqInt

theorem or_bd (a b : Int) (h1 : 0 ≤ a) (h2 : a < 18446744073709551616) (h3 : 0 ≤ b) (h4 : b < 18446744073709551616) : (0 ≤ bits .or .u64 a b ∧ bits .or .u64 a b < 18446744073709551616) ∧ (bits .or .u64 a b = 0 ↔ a = 0 ∧ b = 0) := by
  rw [u64_or a b h1 h2 h3 h4]
  have := Nat.or_lt_two_pow (x := a.toNat) (y := b.toNat) (n := 64) (by omega) (by omega)
  have e : a.toNat ||| b.toNat = 0 ↔ a.toNat = 0 ∧ b.toNat = 0 := Nat.or_eq_zero_iff
  refine ⟨by omega, ?_⟩
  constructor
  · intro h
    have := e.1 (by omega)
    omega
  · rintro ⟨rfl, rfl⟩; rfl
theorem more_is {a : Int} (ha : In a) : (bits .or .u64 (bits .or .u64 (lm a 1) (lm a 2)) (lm a 3) = 0) ↔ a < 18446744073709551616 := by
  obtain ⟨b1, e1⟩ := or_bd (lm a 1) (lm a 2) (lm_bd a 1).1 (lm_bd a 1).2 (lm_bd a 2).1 (lm_bd a 2).2
  obtain ⟨b2, e2⟩ := or_bd _ (lm a 3) b1.1 b1.2 (lm_bd a 3).1 (lm_bd a 3).2
  rw [e2, e1]
  have e := four_lm ha
  have a0 := lm_bd a 0; have a1 := lm_bd a 1; have a2 := lm_bd a 2; have a3 := lm_bd a 3
  unfold four at e
  omega

set_option maxHeartbeats 2000000 in
theorem hugeLows_big (x a : Int) (w : World) (hx0 : 0 ≤ x) (hx1 : x < 18446744073709551616) (ha : In a) :
    Calls Try.prog 8 #[.int .u64 x, big a] w fun e w' => e = .returned (.bool true) ∧ Below w.heap.size w w' := by
  have HA := hide ha
  have E0 := hide (lm_lim hx0 hx1)
  have hsx : same4 (lm x 0) (lm x 1) (lm x 2) (lm x 3) x 0 0 0 = true := by
    obtain ⟨e0, e1, e2, e3⟩ := lm_of (n := x) (a := x) (b := 0) (c := 0) (d := 0) (by unfold four; omega) ⟨hx0, hx1⟩ (by omega) (by omega) (by omega)
    unfold same4; rw [← e0, ← e1, ← e2, ← e3]; simp
  by_cases hc : a < 18446744073709551616
  · have hm : (bits .or .u64 (bits .or .u64 (lm a 1) (lm a 2)) (lm a 3) != 0) = false := by simp [(more_is ha).2 hc]
    have hl : Hid (a = lm a 0) := (lm_lim ha.1 hc).symm
    have HC := hide hc
    clear hc ha
    go_enter Try.func8, Try.ntmps8
    go_wp2_with fail
    refine (lives2_any _).mono ?_
    rintro e w1 ⟨rfl, hb1⟩
    have O1 := hide ((Own.new w (lm a 0) (lm a 1) (lm a 2) (lm a 3) 24).after hb1 rfl)
    have B1 := hide (bOn (bAl (bMe w)) hb1)
    clear hb1
    go_wp2_with fail
    refine (hof_any _ _ hx0 hx1).mono ?_
    rintro e w2 ⟨rfl, hb2⟩
    have O2 := hide (O1.out.after hb2 rfl); have B2 := hide (bOn B1.out hb2)
    clear hb2
    go_wp2_with fail
    refine (low_yes _ _ hx0 hx1).mono ?_
    rintro e w3 ⟨rfl, hb3⟩
    have O3 := hide (O2.out.after hb3 rfl); have B3 := hide (bOn B2.out hb3)
    obtain ⟨_, x0, x1, x2, x3, _⟩ := O3.out
    clear hb3
    go_wp2_with fail
    refine (low_yes _ _ HA.out.1 HC.out).mono ?_
    rintro e w4 ⟨rfl, hb4⟩
    have O4 := hide (O3.out.after hb4 rfl); have B4 := hide (bOn B3.out hb4)
    obtain ⟨_, y0, y1, y2, y3, _⟩ := O4.out
    rw [← hl.out] at y0
    clear hb4
    go_wp2_with fail
    refine (hof_any _ _ hx0 hx1).mono ?_
    rintro e w5 ⟨rfl, hb5⟩
    have O5 := hide (O4.out.after hb5 rfl); have B5 := hide (bOn B4.out hb5)
    obtain ⟨_, z0, z1, z2, z3, _⟩ := O5.out
    rw [← hl.out] at z0
    clear hb5
    go_wp2
    go_ret
    exact ⟨rfl, B5.out⟩
  · have hm : (bits .or .u64 (bits .or .u64 (lm a 1) (lm a 2)) (lm a 3) != 0) = true := by
      rw [bne_iff_ne]; intro e; exact hc ((more_is ha).1 e)
    have HC := hide hc
    clear hc ha
    go_enter Try.func8, Try.ntmps8
    go_wp2_with fail
    refine (lives2_any _).mono ?_
    rintro e w1 ⟨rfl, hb1⟩
    have O1 := hide ((Own.new w (lm a 0) (lm a 1) (lm a 2) (lm a 3) 24).after hb1 rfl)
    have B1 := hide (bOn (bAl (bMe w)) hb1)
    clear hb1
    go_wp2_with fail
    refine (hof_any _ _ hx0 hx1).mono ?_
    rintro e w2 ⟨rfl, hb2⟩
    have O2 := hide (O1.out.after hb2 rfl); have B2 := hide (bOn B1.out hb2)
    clear hb2
    go_wp2_with fail
    refine (low_yes _ _ hx0 hx1).mono ?_
    rintro e w3 ⟨rfl, hb3⟩
    have O3 := hide (O2.out.after hb3 rfl); have B3 := hide (bOn B2.out hb3)
    obtain ⟨_, x0, x1, x2, x3, _⟩ := O3.out
    clear hb3
    go_wp2_with fail
    refine (low_no _ _ HA.out (Int.not_lt.2 HC.out)).mono ?_
    rintro e w4 ⟨rfl, hb4⟩
    have O4 := hide (O3.out.after hb4 rfl); have B4 := hide (bOn B3.out hb4)
    obtain ⟨_, y0, y1, y2, y3, _⟩ := O4.out
    clear hb4
    go_wp2_with fail
    refine (hof_any _ _ hx0 hx1).mono ?_
    rintro e w5 ⟨rfl, hb5⟩
    have B5 := hide (bOn B4.out hb5)
    clear hb5
    go_wp2
    go_ret
    exact ⟨rfl, B5.out⟩
theorem hugeLows_walk (a0 : Int) (b0 b1 b2 b3 : Int) (w0 : (Lit.int .u64 a0).wf = true) (v0 : (Lit.int .u64 b0).wf = true) (v1 : (Lit.int .u64 b1).wf = true) (v2 : (Lit.int .u64 b2).wf = true) (v3 : (Lit.int .u64 b3).wf = true) (w : World) :
    Calls Try.prog 8 #[.int .u64 a0, .agg #[.int .u64 b0, .int .u64 b1, .int .u64 b2, .int .u64 b3]] w fun e w' => e = .returned (.bool true) ∧ Below w.heap.size w w' := by
  obtain ⟨h0, h1⟩ := bounds_u64 w0
  rw [big_four v0 v1 v2 v3]
  exact hugeLows_big _ _ w h0 (by omega) (in_four v0 v1 v2 v3)
end Go.Proofs.Ytnpffefebghnbaa
