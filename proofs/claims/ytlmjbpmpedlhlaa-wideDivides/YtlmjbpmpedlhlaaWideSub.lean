/- The contracts of wide.subRow and wide.giveBack over this translation. -/
import Derived.Test.YtlmjbpmpedlhlaaWideRow
import Derived.Test.YtlmjbpmpedlhlaaWideBase
namespace Go.Proofs.Ytlmjbpmpedlhlaa
open Go.RowKit Go.Lib
attribute [local go_sem] setCell_drewN alloc_drewN idx0 idx1 idx2 idx3

theorem one_of' {c : Int} (h : 0 ≤ c ∧ c ≤ 1) : one c = c := by unfold one; split <;> omega
theorem sub_xc (a b c : Int) (ha : 0 ≤ a ∧ a < 18446744073709551616) (hb : 0 ≤ b ∧ b < 18446744073709551616) (hc : 0 ≤ c ∧ c ≤ 1) (w : World) :
    Calls Try.prog 49 #[.int .u64 a, .int .u64 b, .int .u64 c] w fun e w' => ∃ s o, e = .returned (.tuple #[.int .u64 s, .int .u64 o]) ∧ (0 ≤ s ∧ s < 18446744073709551616) ∧ (0 ≤ o ∧ o ≤ 1) ∧ Hid (a - b - c = s - 18446744073709551616 * o) ∧ w' = w := by
  refine (limb_sub_any a b c ha.1 hb.1 hb.2 w).mono ?_
  rintro e w' ⟨rfl, rfl⟩
  rw [one_of' hc]
  have h := bor_bd a (b + c)
  refine ⟨_, _, rfl, by omega, h, ?_, rfl⟩
  show a - b - c = _
  unfold bor
  split <;> omega
theorem add_xc (a b c : Int) (ha : 0 ≤ a ∧ a < 18446744073709551616) (hb : 0 ≤ b ∧ b < 18446744073709551616) (hc : 0 ≤ c ∧ c ≤ 1) (w : World) :
    Calls Try.prog 36 #[.int .u64 a, .int .u64 b, .int .u64 c] w fun e w' => ∃ s o, e = .returned (.tuple #[.int .u64 s, .int .u64 o]) ∧ (0 ≤ s ∧ s < 18446744073709551616) ∧ (0 ≤ o ∧ o ≤ 1) ∧ Hid (a + b + c = s + 18446744073709551616 * o) ∧ w' = w := by
  refine (limb_add_any a b c ha.1 hb.1 w).mono ?_
  rintro e w' ⟨rfl, rfl⟩
  rw [one_of' hc]
  exact ⟨_, _, rfl, by omega, by omega, (show a + b + c = _ by omega), rfl⟩
theorem sub_sum {x d d0 d1 d2 d3 p0 p1 p2 p3 p4 l0 l1 l2 l3 q0 q1 q2 q3 q4 c1 c2 c3 c4 b1 b2 b3 b4 b5 : Int} (hd : four d0 d1 d2 d3 = d)
    (E0 : x * d0 + 0 = 18446744073709551616 * c1 + l0) (E1 : x * d1 + c1 = 18446744073709551616 * c2 + l1) (E2 : x * d2 + c2 = 18446744073709551616 * c3 + l2) (E3 : x * d3 + c3 = 18446744073709551616 * c4 + l3)
    (S0 : p0 - l0 - 0 = q0 - 18446744073709551616 * b1) (S1 : p1 - l1 - b1 = q1 - 18446744073709551616 * b2) (S2 : p2 - l2 - b2 = q2 - 18446744073709551616 * b3) (S3 : p3 - l3 - b3 = q3 - 18446744073709551616 * b4) (S4 : p4 - c4 - b4 = q4 - 18446744073709551616 * b5) :
    four p0 p1 p2 p3 + 115792089237316195423570985008687907853269984665640564039457584007913129639936 * p4 - x * d = four q0 q1 q2 q3 + 115792089237316195423570985008687907853269984665640564039457584007913129639936 * q4 - 2135987035920910082395021706169552114602704522356652769947041607822219725780640550022962086936576 * b5 := by
  rw [← hd, mul_four]
  generalize x * d0 = y0 at *
  generalize x * d1 = y1 at *
  generalize x * d2 = y2 at *
  generalize x * d3 = y3 at *
  unfold four
  omega
theorem give_sum {d d0 d1 d2 d3 p0 p1 p2 p3 p4 q0 q1 q2 q3 q4 b1 b2 b3 b4 b5 : Int} (hd : four d0 d1 d2 d3 = d)
    (S0 : p0 + d0 + 0 = q0 + 18446744073709551616 * b1) (S1 : p1 + d1 + b1 = q1 + 18446744073709551616 * b2) (S2 : p2 + d2 + b2 = q2 + 18446744073709551616 * b3) (S3 : p3 + d3 + b3 = q3 + 18446744073709551616 * b4) (S4 : p4 + 0 + b4 = q4 + 18446744073709551616 * b5) :
    four p0 p1 p2 p3 + 115792089237316195423570985008687907853269984665640564039457584007913129639936 * p4 + d = four q0 q1 q2 q3 + 115792089237316195423570985008687907853269984665640564039457584007913129639936 * q4 + 2135987035920910082395021706169552114602704522356652769947041607822219725780640550022962086936576 * b5 := by
  rw [← hd]
  unfold four
  omega
/-- Five limbs of a row, together. -/
def five (f : Nat → Int) (o : Nat) : Int := four (f o) (f (o + 1)) (f (o + 2)) (f (o + 3)) + 115792089237316195423570985008687907853269984665640564039457584007913129639936 * f (o + 4)
/-- Five limbs of a row are others. -/
def put5 (f : Nat → Int) (o : Nat) (q0 q1 q2 q3 q4 : Int) : Nat → Int := put (put (put (put (put f o q0) (o + 1) q1) (o + 2) q2) (o + 3) q3) (o + 4) q4
theorem put5_at (f : Nat → Int) (o : Nat) (q0 q1 q2 q3 q4 : Int) : put5 f o q0 q1 q2 q3 q4 o = q0 ∧ put5 f o q0 q1 q2 q3 q4 (o + 1) = q1 ∧ put5 f o q0 q1 q2 q3 q4 (o + 2) = q2 ∧ put5 f o q0 q1 q2 q3 q4 (o + 3) = q3 ∧ put5 f o q0 q1 q2 q3 q4 (o + 4) = q4 := by
  unfold put5 put; simp
theorem put5_out (f : Nat → Int) (o : Nat) (q0 q1 q2 q3 q4 : Int) (j : Nat) (h : j < o ∨ o + 5 ≤ j) : put5 f o q0 q1 q2 q3 q4 j = f j := by
  unfold put5
  rw [put_other _ _ (by omega), put_other _ _ (by omega), put_other _ _ (by omega), put_other _ _ (by omega), put_other _ _ (by omega)]
theorem five_put5 (f : Nat → Int) (o : Nat) (q0 q1 q2 q3 q4 : Int) : five (put5 f o q0 q1 q2 q3 q4) o = four q0 q1 q2 q3 + 115792089237316195423570985008687907853269984665640564039457584007913129639936 * q4 := by
  obtain ⟨h0, h1, h2, h3, h4⟩ := put5_at f o q0 q1 q2 q3 q4
  unfold five
  rw [h0, h1, h2, h3, h4]

set_option maxHeartbeats 4000000 in
theorem sub_row_raw (g off cap : Nat) (x d : Int) (p0 p1 p2 p3 p4 : Int) (w : World) (hd : In d) (hx0 : 0 ≤ x) (hx : x < 18446744073709551616) (hg : g < w.heap.size)
    (k0 : 0 ≤ p0 ∧ p0 < 18446744073709551616) (k1 : 0 ≤ p1 ∧ p1 < 18446744073709551616) (k2 : 0 ≤ p2 ∧ p2 < 18446744073709551616) (k3 : 0 ≤ p3 ∧ p3 < 18446744073709551616) (k4 : 0 ≤ p4 ∧ p4 < 18446744073709551616)
    (d0 : w.cell? ⟨g, off, none⟩ = some (.int .u64 p0)) (d1 : w.cell? ⟨g, off + 1, none⟩ = some (.int .u64 p1)) (d2 : w.cell? ⟨g, off + 2, none⟩ = some (.int .u64 p2)) (d3 : w.cell? ⟨g, off + 3, none⟩ = some (.int .u64 p3)) (d4 : w.cell? ⟨g, off + 4, none⟩ = some (.int .u64 p4))
    (fr : ∀ o, w.frozen? ⟨g, o, none⟩ = false) :
    Calls Try.prog 41 #[.slice (some ⟨g, off, none⟩) 5 cap, .int .u64 x, big d] w fun e w' => ∃ q0 q1 q2 q3 q4 b5, e = .returned (.int .u64 b5) ∧ (0 ≤ q0 ∧ q0 < 18446744073709551616) ∧ (0 ≤ q1 ∧ q1 < 18446744073709551616) ∧ (0 ≤ q2 ∧ q2 < 18446744073709551616) ∧ (0 ≤ q3 ∧ q3 < 18446744073709551616) ∧ (0 ≤ q4 ∧ q4 < 18446744073709551616) ∧ (0 ≤ b5 ∧ b5 ≤ 1) ∧
      Hid (four p0 p1 p2 p3 + 115792089237316195423570985008687907853269984665640564039457584007913129639936 * p4 - x * d = four q0 q1 q2 q3 + 115792089237316195423570985008687907853269984665640564039457584007913129639936 * q4 - 2135987035920910082395021706169552114602704522356652769947041607822219725780640550022962086936576 * b5) ∧
      w' = (((((w.setCell ⟨g, off, none⟩ (.int .u64 q0)).setCell ⟨g, off + 1, none⟩ (.int .u64 q1)).setCell ⟨g, off + 2, none⟩ (.int .u64 q2)).setCell ⟨g, off + 3, none⟩ (.int .u64 q3)).setCell ⟨g, off + 4, none⟩ (.int .u64 q4)).alloc (.cells #[.int .u64 (lm d 0), .int .u64 (lm d 1), .int .u64 (lm d 2), .int .u64 (lm d 3)] 24) := by
  have e0 := lm_bd d 0; have e1 := lm_bd d 1; have e2 := lm_bd d 2; have e3 := lm_bd d 3
  have HB := hide hd
  clear hd
  go_enter Try.func41, Try.ntmps41
  go_wp2
  refine wp_loop_rounds 5 ?_
  rw [rounds_succ]
  go_wp2_with fail
  refine (mul_add_any _ _ _ hx0 hx e0.1 e0.2 (by omega) (by omega) _).mono ?_
  rintro e w1 ⟨l0, c1, rfl, bl0, bc1, E0, rfl⟩
  go_wp2_with fail
  refine (sub_xc _ _ _ k0 bl0 (by omega) _).mono ?_
  rintro e w1 ⟨q0, b1, rfl, bq0, bb1, S0, rfl⟩
  go_wp2_with fail
  rw [rounds_succ]
  go_wp2_with fail
  refine (mul_add_any _ _ _ hx0 hx e1.1 e1.2 (by omega) (by omega) _).mono ?_
  rintro e w1 ⟨l1, c2, rfl, bl1, bc2, E1, rfl⟩
  go_wp2_with fail
  refine (sub_xc _ _ _ k1 bl1 (by omega) _).mono ?_
  rintro e w1 ⟨q1, b2, rfl, bq1, bb2, S1, rfl⟩
  go_wp2_with fail
  rw [rounds_succ]
  go_wp2_with fail
  refine (mul_add_any _ _ _ hx0 hx e2.1 e2.2 (by omega) (by omega) _).mono ?_
  rintro e w1 ⟨l2, c3, rfl, bl2, bc3, E2, rfl⟩
  go_wp2_with fail
  refine (sub_xc _ _ _ k2 bl2 (by omega) _).mono ?_
  rintro e w1 ⟨q2, b3, rfl, bq2, bb3, S2, rfl⟩
  go_wp2_with fail
  rw [rounds_succ]
  go_wp2_with fail
  refine (mul_add_any _ _ _ hx0 hx e3.1 e3.2 (by omega) (by omega) _).mono ?_
  rintro e w1 ⟨l3, c4, rfl, bl3, bc4, E3, rfl⟩
  go_wp2_with fail
  refine (sub_xc _ _ _ k3 bl3 (by omega) _).mono ?_
  rintro e w1 ⟨q3, b4, rfl, bq3, bb4, S3, rfl⟩
  go_wp2_with fail
  rw [rounds_succ]
  go_wp2_with fail
  refine (sub_xc _ _ _ k4 bc4 bb4 _).mono ?_
  rintro e w1 ⟨q4, b5, rfl, bq4, bb5, S4, rfl⟩
  go_wp2
  go_ret
  exact ⟨q0, q1, q2, q3, q4, b5, rfl, bq0, bq1, bq2, bq3, bq4, bb5, sub_sum (four_lm HB.out) E0.out E1.out E2.out E3.out S0.out S1.out S2.out S3.out S4.out, rfl⟩
theorem sub_row_any {g n off cap : Nat} {x d : Int} {f : Nat → Int} {w : World} (R : LRow w g n f) (L : Lim f) (hn : off + 5 ≤ n) (hd : In d) (hx0 : 0 ≤ x) (hx : x < 18446744073709551616) :
    Calls Try.prog 41 #[.slice (some ⟨g, off, none⟩) 5 cap, .int .u64 x, big d] w fun e w' => ∃ (br : Int) (f' : Nat → Int), e = .returned (.int .u64 br) ∧ (0 ≤ br ∧ br ≤ 1) ∧ LRow w' g n f' ∧ Lim f' ∧ Hid (∀ j, j < off ∨ off + 5 ≤ j → f' j = f j) ∧
      Hid (five f off - x * d = five f' off - 2135987035920910082395021706169552114602704522356652769947041607822219725780640550022962086936576 * br) ∧ Bar g w w' := by
  refine (sub_row_raw g off cap x d _ _ _ _ _ w hd hx0 hx R.lt (L off) (L (off + 1)) (L (off + 2)) (L (off + 3)) (L (off + 4)) (R.cell off (by omega)) (R.cell (off + 1) (by omega)) (R.cell (off + 2) (by omega)) (R.cell (off + 3) (by omega)) (R.cell (off + 4) (by omega)) R.fr).mono ?_
  rintro e w' ⟨q0, q1, q2, q3, q4, b5, rfl, bq0, bq1, bq2, bq3, bq4, bb5, E, rfl⟩
  refine ⟨b5, put5 f off q0 q1 q2 q3 q4, rfl, bb5, ?_, ?_, put5_out f off q0 q1 q2 q3 q4, ?_, ?_⟩
  · exact (((((R.set off (by omega) q0).set (off + 1) (by omega) q1).set (off + 2) (by omega) q2).set (off + 3) (by omega) q3).set (off + 4) (by omega) q4).past _
  · exact ((((L.put off bq0).put (off + 1) bq1).put (off + 2) bq2).put (off + 3) bq3).put (off + 4) bq4
  · rw [five_put5]
    exact E
  · exact ((((((Bar.refl g w).set off _).set (off + 1) _).set (off + 2) _).set (off + 3) _).set (off + 4) _).al _
set_option maxHeartbeats 4000000 in
theorem give_back_raw (g off cap : Nat) (d : Int) (p0 p1 p2 p3 p4 : Int) (w : World) (hd : In d) (hg : g < w.heap.size)
    (k0 : 0 ≤ p0 ∧ p0 < 18446744073709551616) (k1 : 0 ≤ p1 ∧ p1 < 18446744073709551616) (k2 : 0 ≤ p2 ∧ p2 < 18446744073709551616) (k3 : 0 ≤ p3 ∧ p3 < 18446744073709551616) (k4 : 0 ≤ p4 ∧ p4 < 18446744073709551616)
    (d0 : w.cell? ⟨g, off, none⟩ = some (.int .u64 p0)) (d1 : w.cell? ⟨g, off + 1, none⟩ = some (.int .u64 p1)) (d2 : w.cell? ⟨g, off + 2, none⟩ = some (.int .u64 p2)) (d3 : w.cell? ⟨g, off + 3, none⟩ = some (.int .u64 p3)) (d4 : w.cell? ⟨g, off + 4, none⟩ = some (.int .u64 p4))
    (fr : ∀ o, w.frozen? ⟨g, o, none⟩ = false) :
    Calls Try.prog 42 #[.slice (some ⟨g, off, none⟩) 5 cap, big d] w fun e w' => ∃ q0 q1 q2 q3 q4 b5, e = .returned (.int .u64 b5) ∧ (0 ≤ q0 ∧ q0 < 18446744073709551616) ∧ (0 ≤ q1 ∧ q1 < 18446744073709551616) ∧ (0 ≤ q2 ∧ q2 < 18446744073709551616) ∧ (0 ≤ q3 ∧ q3 < 18446744073709551616) ∧ (0 ≤ q4 ∧ q4 < 18446744073709551616) ∧ (0 ≤ b5 ∧ b5 ≤ 1) ∧
      Hid (four p0 p1 p2 p3 + 115792089237316195423570985008687907853269984665640564039457584007913129639936 * p4 + d = four q0 q1 q2 q3 + 115792089237316195423570985008687907853269984665640564039457584007913129639936 * q4 + 2135987035920910082395021706169552114602704522356652769947041607822219725780640550022962086936576 * b5) ∧
      w' = (((((w.setCell ⟨g, off, none⟩ (.int .u64 q0)).setCell ⟨g, off + 1, none⟩ (.int .u64 q1)).setCell ⟨g, off + 2, none⟩ (.int .u64 q2)).setCell ⟨g, off + 3, none⟩ (.int .u64 q3)).setCell ⟨g, off + 4, none⟩ (.int .u64 q4)).alloc (.cells #[.int .u64 (lm d 0), .int .u64 (lm d 1), .int .u64 (lm d 2), .int .u64 (lm d 3)] 24) := by
  have e0 := lm_bd d 0; have e1 := lm_bd d 1; have e2 := lm_bd d 2; have e3 := lm_bd d 3
  have HB := hide hd
  clear hd
  go_enter Try.func42, Try.ntmps42
  go_wp2
  refine wp_loop_rounds 5 ?_
  rw [rounds_succ]
  go_wp2_with fail
  refine (add_xc _ _ _ k0 e0 (by omega) _).mono ?_
  rintro e w1 ⟨q0, b1, rfl, bq0, bb1, S0, rfl⟩
  go_wp2_with fail
  rw [rounds_succ]
  go_wp2_with fail
  refine (add_xc _ _ _ k1 e1 (by omega) _).mono ?_
  rintro e w1 ⟨q1, b2, rfl, bq1, bb2, S1, rfl⟩
  go_wp2_with fail
  rw [rounds_succ]
  go_wp2_with fail
  refine (add_xc _ _ _ k2 e2 (by omega) _).mono ?_
  rintro e w1 ⟨q2, b3, rfl, bq2, bb3, S2, rfl⟩
  go_wp2_with fail
  rw [rounds_succ]
  go_wp2_with fail
  refine (add_xc _ _ _ k3 e3 (by omega) _).mono ?_
  rintro e w1 ⟨q3, b4, rfl, bq3, bb4, S3, rfl⟩
  go_wp2_with fail
  rw [rounds_succ]
  go_wp2_with fail
  refine (add_xc _ _ _ k4 (by omega) bb4 _).mono ?_
  rintro e w1 ⟨q4, b5, rfl, bq4, bb5, S4, rfl⟩
  go_wp2
  go_ret
  exact ⟨q0, q1, q2, q3, q4, b5, rfl, bq0, bq1, bq2, bq3, bq4, bb5, give_sum (four_lm HB.out) S0.out S1.out S2.out S3.out S4.out, rfl⟩
theorem give_back_any {g n off cap : Nat} {d : Int} {f : Nat → Int} {w : World} (R : LRow w g n f) (L : Lim f) (hn : off + 5 ≤ n) (hd : In d) :
    Calls Try.prog 42 #[.slice (some ⟨g, off, none⟩) 5 cap, big d] w fun e w' => ∃ (br : Int) (f' : Nat → Int), e = .returned (.int .u64 br) ∧ (0 ≤ br ∧ br ≤ 1) ∧ LRow w' g n f' ∧ Lim f' ∧ Hid (∀ j, j < off ∨ off + 5 ≤ j → f' j = f j) ∧
      Hid (five f off + d = five f' off + 2135987035920910082395021706169552114602704522356652769947041607822219725780640550022962086936576 * br) ∧ Bar g w w' := by
  refine (give_back_raw g off cap d _ _ _ _ _ w hd R.lt (L off) (L (off + 1)) (L (off + 2)) (L (off + 3)) (L (off + 4)) (R.cell off (by omega)) (R.cell (off + 1) (by omega)) (R.cell (off + 2) (by omega)) (R.cell (off + 3) (by omega)) (R.cell (off + 4) (by omega)) R.fr).mono ?_
  rintro e w' ⟨q0, q1, q2, q3, q4, b5, rfl, bq0, bq1, bq2, bq3, bq4, bb5, E, rfl⟩
  refine ⟨b5, put5 f off q0 q1 q2 q3 q4, rfl, bb5, ?_, ?_, put5_out f off q0 q1 q2 q3 q4, ?_, ?_⟩
  · exact (((((R.set off (by omega) q0).set (off + 1) (by omega) q1).set (off + 2) (by omega) q2).set (off + 3) (by omega) q3).set (off + 4) (by omega) q4).past _
  · exact ((((L.put off bq0).put (off + 1) bq1).put (off + 2) bq2).put (off + 3) bq3).put (off + 4) bq4
  · rw [five_put5]
    exact E
  · exact ((((((Bar.refl g w).set off _).set (off + 1) _).set (off + 2) _).set (off + 3) _).set (off + 4) _).al _
end Go.Proofs.Ytlmjbpmpedlhlaa
