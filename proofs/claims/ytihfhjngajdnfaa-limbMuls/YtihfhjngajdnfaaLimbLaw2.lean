/- What the statements of layer 1 that are held against rows of digits do over this translation: by the contracts of limb and of sponsionref01. -/
import Derived.Test.YtihfhjngajdnfaaLimbLaw
import Derived.Test.YtihfhjngajdnfaaRef1
namespace Go.Proofs.Ytihfhjngajdnfaa
open Go.RowKit

theorem same_any {ao bo : Option Addr} {n m cap cap' : Nat} {A B : Int} {L M : Nat} {w : World} (hx : Num w ao n cap A L) (hy : Num w bo m cap' B M) (h : A = B) :
    Calls Try.prog 12 #[.slice ao n cap, .slice bo m cap'] w fun e w' => e = .returned (.bool true) ∧ w' = w := by
  go_enter Try.func12, Try.ntmps12
  have HX := hide hx; have HY := hide hy; have H := hide h
  clear hx hy h
  go_wp2_with fail
  refine (cmp_num HX.out HY.out).mono ?_
  rintro e w1 ⟨⟨c, rfl, hc⟩, rfl⟩
  obtain rfl : c = 0 := by have := H.out; omega
  clear hc
  go_wp2
  go_ret
  exact ⟨rfl, rfl⟩

set_option maxHeartbeats 1000000 in
theorem limbMuls_walk (a0 : Int) (a1 : Int) (w0 : (Lit.int .u64 a0).wf = true) (w1 : (Lit.int .u64 a1).wf = true) (w : World) :
    Calls Try.prog 4 #[.int .u64 a0, .int .u64 a1] w fun e w' => e = .returned (.bool true) ∧ Below w.heap.size w w' := by
  obtain ⟨ha, ha1⟩ := bounds_u64 w0
  obtain ⟨hb, hb1⟩ := bounds_u64 w1
  clear w0 w1
  have p0 : 0 ≤ a0 * a1 := Int.mul_nonneg ha hb
  have p1 : a0 * a1 ≤ 18446744073709551615 * 18446744073709551615 := Int.mul_le_mul ha1 hb1 hb (by omega)
  have h1 : 0 ≤ a0 * a1 / 18446744073709551616 := by omega
  have h2 : a0 * a1 / 18446744073709551616 < 18446744073709551616 := by omega
  go_enter Try.func4, Try.ntmps4
  go_wp2_with fail
  refine (lives_any _).mono ?_
  rintro e w1 ⟨rfl, q, hq⟩
  have B1 : Below w.heap.size w w1 := by rw [hq]; exact below_draws _ _
  clear hq
  go_wp2_with fail
  refine (limb_mul_any _ _ ha (by omega) hb (by omega) _).mono ?_
  rintro e w2 ⟨rfl, rfl⟩
  go_wp2_with fail
  refine (pair_any _ _ _ h1 h2 (by omega) (by omega)).mono ?_
  rintro e w3 ⟨a3, n3, k3, rfl, N3, B3⟩
  have B3' := Below.on B1 B3
  go_wp2_with fail
  refine (of_any a0 _ ha (by omega)).mono ?_
  rintro e w4 ⟨a4, n4, k4, rfl, N4, B4⟩
  have B4' := Below.on B3' B4
  go_wp2_with fail
  refine (of_any a1 _ hb (by omega)).mono ?_
  rintro e w5 ⟨a5, n5, k5, rfl, N5, B5⟩
  have B5' := Below.on B4' B5
  go_wp2_with fail
  refine (mul_any (N4.below B5) N5 (by omega)).mono ?_
  rintro e w6 ⟨a6, n6, k6, rfl, N6, B6⟩
  have B6' := Below.on B5' B6
  go_wp2_with fail
  refine (same_any (N3.below (Below.on (Below.on B4 B5) B6)) N6 (by omega)).mono ?_
  rintro e w7 ⟨rfl, rfl⟩
  go_wp2
  go_ret
  exact ⟨rfl, B6'⟩
end Go.Proofs.Ytihfhjngajdnfaa
