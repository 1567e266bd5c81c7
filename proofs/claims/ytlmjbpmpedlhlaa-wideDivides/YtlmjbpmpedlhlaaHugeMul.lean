/- The contract of huge.Mul over this translation. -/
import Derived.Test.YtlmjbpmpedlhlaaHugeRow
import Derived.Deep.RegionHeld3
namespace Go.Proofs.Ytlmjbpmpedlhlaa
open Go.RowKit Go.Lib
theorem wi4 : IntKind.i64.wrap 4 = 4 := by decide
theorem wi5 : IntKind.i64.wrap 5 = 5 := by decide
theorem wi6 : IntKind.i64.wrap 6 = 6 := by decide
theorem wi7 : IntKind.i64.wrap 7 = 7 := by decide
theorem wi8 : IntKind.i64.wrap 8 = 8 := by decide
attribute [local go_sem] setCell_drewN alloc_drewN eqInt idx0 idx1 idx2 idx3 wi4 wi5 wi6 wi7 wi8

/-- A world with so many rows of limbs on top. -/
def mw (W : World) (b : Int) : Nat → World
  | 0 => W
  | 1 => W.alloc (.cells #[.int .u64 (lm b 0), .int .u64 (lm b 1), .int .u64 (lm b 2), .int .u64 (lm b 3)] 24)
  | 2 => (W.alloc (.cells #[.int .u64 (lm b 0), .int .u64 (lm b 1), .int .u64 (lm b 2), .int .u64 (lm b 3)] 24)).alloc (.cells #[.int .u64 (lm b 0), .int .u64 (lm b 1), .int .u64 (lm b 2), .int .u64 (lm b 3)] 24)
  | 3 => ((W.alloc (.cells #[.int .u64 (lm b 0), .int .u64 (lm b 1), .int .u64 (lm b 2), .int .u64 (lm b 3)] 24)).alloc (.cells #[.int .u64 (lm b 0), .int .u64 (lm b 1), .int .u64 (lm b 2), .int .u64 (lm b 3)] 24)).alloc (.cells #[.int .u64 (lm b 0), .int .u64 (lm b 1), .int .u64 (lm b 2), .int .u64 (lm b 3)] 24)
  | _ => (((W.alloc (.cells #[.int .u64 (lm b 0), .int .u64 (lm b 1), .int .u64 (lm b 2), .int .u64 (lm b 3)] 24)).alloc (.cells #[.int .u64 (lm b 0), .int .u64 (lm b 1), .int .u64 (lm b 2), .int .u64 (lm b 3)] 24)).alloc (.cells #[.int .u64 (lm b 0), .int .u64 (lm b 1), .int .u64 (lm b 2), .int .u64 (lm b 3)] 24)).alloc (.cells #[.int .u64 (lm b 0), .int .u64 (lm b 1), .int .u64 (lm b 2), .int .u64 (lm b 3)] 24)
/-- The lowest limbs of a number. -/
def lo (a : Int) : Nat → Int
  | 0 => 0
  | 1 => four (lm a 0) 0 0 0
  | 2 => four (lm a 0) (lm a 1) 0 0
  | 3 => four (lm a 0) (lm a 1) (lm a 2) 0
  | _ => four (lm a 0) (lm a 1) (lm a 2) (lm a 3)
/-- Eight limbs that hold the product of the lowest limbs. -/
structure Prod (a b : Int) (k : Nat) (q0 q1 q2 q3 q4 q5 q6 q7 : Int) : Prop where
  b0 : 0 ≤ q0 ∧ q0 < 18446744073709551616
  b1 : 0 ≤ q1 ∧ q1 < 18446744073709551616
  b2 : 0 ≤ q2 ∧ q2 < 18446744073709551616
  b3 : 0 ≤ q3 ∧ q3 < 18446744073709551616
  b4 : 0 ≤ q4 ∧ q4 < 18446744073709551616
  b5 : 0 ≤ q5 ∧ q5 < 18446744073709551616
  b6 : 0 ≤ q6 ∧ q6 < 18446744073709551616
  b7 : 0 ≤ q7 ∧ q7 < 18446744073709551616
  sum : four q0 q1 q2 q3 + 115792089237316195423570985008687907853269984665640564039457584007913129639936 * four q4 q5 q6 q7 = lo a k * b
  z4 : k + 4 ≤ 4 → q4 = 0
  z5 : k + 4 ≤ 5 → q5 = 0
  z6 : k + 4 ≤ 6 → q6 = 0
  z7 : k + 4 ≤ 7 → q7 = 0
theorem Prod.row0 {a b q0 q1 q2 q3 q4 q5 q6 q7 r0 r1 r2 r3 r4 : Int} (h : Prod a b 0 q0 q1 q2 q3 q4 q5 q6 q7) (c0 : 0 ≤ r0 ∧ r0 < 18446744073709551616) (c1 : 0 ≤ r1 ∧ r1 < 18446744073709551616) (c2 : 0 ≤ r2 ∧ r2 < 18446744073709551616) (c3 : 0 ≤ r3 ∧ r3 < 18446744073709551616) (c4 : 0 ≤ r4 ∧ r4 < 18446744073709551616)
    (e : four r0 r1 r2 r3 + 115792089237316195423570985008687907853269984665640564039457584007913129639936 * r4 = four q0 q1 q2 q3 + lm a 0 * b) : Prod a b 1 r0 r1 r2 r3 r4 q5 q6 q7 := by
  have z := h.z4 (by omega)
  have s := h.sum
  refine ⟨c0, c1, c2, c3, c4, h.b5, h.b6, h.b7, ?_, fun hk => absurd hk (by omega), fun _ => h.z5 (by omega), fun _ => h.z6 (by omega), fun _ => h.z7 (by omega)⟩
  have e2 : lo a 1 * b = lo a 0 * b + 1 * (lm a 0 * b) := by
    unfold lo four
    simp only [Int.mul_zero, Int.add_zero, Int.zero_mul, Int.zero_add, Int.one_mul]
  rw [e2]
  unfold four at *
  omega
theorem Prod.row1 {a b q0 q1 q2 q3 q4 q5 q6 q7 r0 r1 r2 r3 r4 : Int} (h : Prod a b 1 q0 q1 q2 q3 q4 q5 q6 q7) (c0 : 0 ≤ r0 ∧ r0 < 18446744073709551616) (c1 : 0 ≤ r1 ∧ r1 < 18446744073709551616) (c2 : 0 ≤ r2 ∧ r2 < 18446744073709551616) (c3 : 0 ≤ r3 ∧ r3 < 18446744073709551616) (c4 : 0 ≤ r4 ∧ r4 < 18446744073709551616)
    (e : four r0 r1 r2 r3 + 115792089237316195423570985008687907853269984665640564039457584007913129639936 * r4 = four q1 q2 q3 q4 + lm a 1 * b) : Prod a b 2 q0 r0 r1 r2 r3 r4 q6 q7 := by
  have z := h.z5 (by omega)
  have s := h.sum
  refine ⟨h.b0, c0, c1, c2, c3, c4, h.b6, h.b7, ?_, fun hk => absurd hk (by omega), fun hk => absurd hk (by omega), fun _ => h.z6 (by omega), fun _ => h.z7 (by omega)⟩
  have e2 : lo a 2 * b = lo a 1 * b + 18446744073709551616 * (lm a 1 * b) := by
    unfold lo four
    simp only [Int.mul_zero, Int.add_zero, Int.add_mul, Int.mul_assoc]
  rw [e2]
  unfold four at *
  omega
theorem Prod.row2 {a b q0 q1 q2 q3 q4 q5 q6 q7 r0 r1 r2 r3 r4 : Int} (h : Prod a b 2 q0 q1 q2 q3 q4 q5 q6 q7) (c0 : 0 ≤ r0 ∧ r0 < 18446744073709551616) (c1 : 0 ≤ r1 ∧ r1 < 18446744073709551616) (c2 : 0 ≤ r2 ∧ r2 < 18446744073709551616) (c3 : 0 ≤ r3 ∧ r3 < 18446744073709551616) (c4 : 0 ≤ r4 ∧ r4 < 18446744073709551616)
    (e : four r0 r1 r2 r3 + 115792089237316195423570985008687907853269984665640564039457584007913129639936 * r4 = four q2 q3 q4 q5 + lm a 2 * b) : Prod a b 3 q0 q1 r0 r1 r2 r3 r4 q7 := by
  have z := h.z6 (by omega)
  have s := h.sum
  refine ⟨h.b0, h.b1, c0, c1, c2, c3, c4, h.b7, ?_, fun hk => absurd hk (by omega), fun hk => absurd hk (by omega), fun hk => absurd hk (by omega), fun _ => h.z7 (by omega)⟩
  have e2 : lo a 3 * b = lo a 2 * b + 340282366920938463463374607431768211456 * (lm a 2 * b) := by
    unfold lo four
    simp only [Int.mul_zero, Int.add_zero, Int.add_mul, Int.mul_assoc]
  rw [e2]
  unfold four at *
  omega
theorem Prod.row3 {a b q0 q1 q2 q3 q4 q5 q6 q7 r0 r1 r2 r3 r4 : Int} (h : Prod a b 3 q0 q1 q2 q3 q4 q5 q6 q7) (c0 : 0 ≤ r0 ∧ r0 < 18446744073709551616) (c1 : 0 ≤ r1 ∧ r1 < 18446744073709551616) (c2 : 0 ≤ r2 ∧ r2 < 18446744073709551616) (c3 : 0 ≤ r3 ∧ r3 < 18446744073709551616) (c4 : 0 ≤ r4 ∧ r4 < 18446744073709551616)
    (e : four r0 r1 r2 r3 + 115792089237316195423570985008687907853269984665640564039457584007913129639936 * r4 = four q3 q4 q5 q6 + lm a 3 * b) : Prod a b 4 q0 q1 q2 r0 r1 r2 r3 r4 := by
  have z := h.z7 (by omega)
  have s := h.sum
  refine ⟨h.b0, h.b1, h.b2, c0, c1, c2, c3, c4, ?_, fun hk => absurd hk (by omega), fun hk => absurd hk (by omega), fun hk => absurd hk (by omega), fun hk => absurd hk (by omega)⟩
  have e2 : lo a 4 * b = lo a 3 * b + 6277101735386680763835789423207666416102355444464034512896 * (lm a 3 * b) := by
    unfold lo four
    simp only [Int.mul_zero, Int.add_zero, Int.add_mul, Int.mul_assoc]
  rw [e2]
  unfold four at *
  omega
theorem same_zero {a b c d : Int} (ha : 0 ≤ a ∧ a < 18446744073709551616) (hb : 0 ≤ b ∧ b < 18446744073709551616) (hc : 0 ≤ c ∧ c < 18446744073709551616) (_hd : 0 ≤ d ∧ d < 18446744073709551616) : same4 a b c d 0 0 0 0 = decide (four a b c d = 0) := by
  unfold same4 four
  rw [Bool.eq_iff_iff]
  simp only [Bool.and_eq_true, beq_iff_eq, decide_eq_true_eq]
  omega
theorem lo_four {a : Int} (ha : In a) : lo a 4 = a := four_lm ha

set_option maxHeartbeats 4000000 in
theorem hmul_raw (a b : Int) (w : World) (Q : Ending → World → Prop) (hb : In b)
    (yes : ∀ q0 q1 q2 q3 q4 q5 q6 q7, Prod a b 4 q0 q1 q2 q3 q4 q5 q6 q7 → four q4 q5 q6 q7 ≠ 0 → ∀ w', Below w.heap.size w w' → Q (.returned (.tuple #[.agg #[.int .u64 0, .int .u64 0, .int .u64 0, .int .u64 0], .int .i64 2])) w')
    (no : ∀ q0 q1 q2 q3 q4 q5 q6 q7, Prod a b 4 q0 q1 q2 q3 q4 q5 q6 q7 → four q4 q5 q6 q7 = 0 → ∀ w', Below w.heap.size w w' → Q (.returned (.tuple #[.agg #[.int .u64 q0, .int .u64 q1, .int .u64 q2, .int .u64 q3], .int .i64 0])) w') :
    Calls Try.prog 19 #[big a, big b] w Q := by
  have HY := hide yes; have HN := hide no; have HB := hide hb
  clear yes no hb
  have ab := fun k => lm_bd a k
  go_enter Try.func19, Try.ntmps19
  go_wp2
  go_loopw [11] (fun t wr => ∃ (k n : Nat) (q0 q1 q2 q3 q4 q5 q6 q7 : Int), k ≤ 4 ∧ t = .int .i64 k ∧ Prod a b k q0 q1 q2 q3 q4 q5 q6 q7 ∧ wr = (mw ((((w.alloc (.cells #[.int .u64 (lm a 0), .int .u64 (lm a 1), .int .u64 (lm a 2), .int .u64 (lm a 3)] 24)).alloc (.cells #[.int .u64 (lm b 0), .int .u64 (lm b 1), .int .u64 (lm b 2), .int .u64 (lm b 3)] 24)).alloc (.cells #[.int .u64 0, .int .u64 0, .int .u64 0, .int .u64 0] 24)).alloc (.cells #[.int .u64 q0, .int .u64 q1, .int .u64 q2, .int .u64 q3, .int .u64 q4, .int .u64 q5, .int .u64 q6, .int .u64 q7] 26)) b k).drewN n) (fun t _ => 4 - (intOf t).toNat)
  case atStart => exact ⟨0, 0, 0, 0, 0, 0, 0, 0, 0, 0, by omega, rfl, ⟨by omega, by omega, by omega, by omega, by omega, by omega, by omega, by omega, by simp [four, lo], fun _ => rfl, fun _ => rfl, fun _ => rfl, fun _ => rfl⟩, rfl⟩
  case round =>
    obtain ⟨k, n, q0, q1, q2, q3, q4, q5, q6, q7, hk, rfl, hp, rfl⟩ := hrel
    match k, hk, hp with
    | 0, _, hp =>
      simp only [mw]
      have HP := hide hp
      have R := row_any (w.heap.size + 1 + 1 + 1) 0 8 (lm a 0) b q0 q1 q2 q3 q4 (((((w.alloc (.cells #[.int .u64 (lm a 0), .int .u64 (lm a 1), .int .u64 (lm a 2), .int .u64 (lm a 3)] 24)).alloc (.cells #[.int .u64 (lm b 0), .int .u64 (lm b 1), .int .u64 (lm b 2), .int .u64 (lm b 3)] 24)).alloc (.cells #[.int .u64 0, .int .u64 0, .int .u64 0, .int .u64 0] 24)).alloc (.cells #[.int .u64 q0, .int .u64 q1, .int .u64 q2, .int .u64 q3, .int .u64 q4, .int .u64 q5, .int .u64 q6, .int .u64 q7] 26)).drewN n).drew HB.out (ab 0).1 (ab 0).2 (by simp) hp.b0 hp.b1 hp.b2 hp.b3 (by simp [go_sem]) (by simp [go_sem]) (by simp [go_sem]) (by simp [go_sem]) (by simp [go_sem]) (fun o => by simp [go_sem])
      clear hp
      go_wp2
      go_region_with (go_at_call 34; refine R.mono ?_; rintro e w' ⟨r0, r1, r2, r3, r4, rfl, c0, c1, c2, c3, c4, E, rfl⟩)
      all_goals (go_wp2_with fail; go_roundw; (case rel => exact ⟨1, n + 1, r0, r1, r2, r3, r4, q5, q6, q7, by omega, rfl, HP.out.row0 c0 c1 c2 c3 c4 E.out, rfl⟩); (case measure => simp [intOf]))
    | 1, _, hp =>
      simp only [mw]
      have HP := hide hp
      have R := row_any (w.heap.size + 1 + 1 + 1) 1 7 (lm a 1) b q1 q2 q3 q4 q5 ((((((w.alloc (.cells #[.int .u64 (lm a 0), .int .u64 (lm a 1), .int .u64 (lm a 2), .int .u64 (lm a 3)] 24)).alloc (.cells #[.int .u64 (lm b 0), .int .u64 (lm b 1), .int .u64 (lm b 2), .int .u64 (lm b 3)] 24)).alloc (.cells #[.int .u64 0, .int .u64 0, .int .u64 0, .int .u64 0] 24)).alloc (.cells #[.int .u64 q0, .int .u64 q1, .int .u64 q2, .int .u64 q3, .int .u64 q4, .int .u64 q5, .int .u64 q6, .int .u64 q7] 26)).alloc (.cells #[.int .u64 (lm b 0), .int .u64 (lm b 1), .int .u64 (lm b 2), .int .u64 (lm b 3)] 24)).drewN n).drew HB.out (ab 1).1 (ab 1).2 (by simp) hp.b1 hp.b2 hp.b3 hp.b4 (by simp [go_sem]) (by simp [go_sem]) (by simp [go_sem]) (by simp [go_sem]) (by simp [go_sem]) (fun o => by simp [go_sem])
      clear hp
      go_wp2
      go_region_with (go_at_call 34; refine R.mono ?_; rintro e w' ⟨r0, r1, r2, r3, r4, rfl, c0, c1, c2, c3, c4, E, rfl⟩)
      all_goals (go_wp2_with fail; go_roundw; (case rel => exact ⟨2, n + 1, q0, r0, r1, r2, r3, r4, q6, q7, by omega, rfl, HP.out.row1 c0 c1 c2 c3 c4 E.out, rfl⟩); (case measure => simp [intOf]))
    | 2, _, hp =>
      simp only [mw]
      have HP := hide hp
      have R := row_any (w.heap.size + 1 + 1 + 1) 2 6 (lm a 2) b q2 q3 q4 q5 q6 (((((((w.alloc (.cells #[.int .u64 (lm a 0), .int .u64 (lm a 1), .int .u64 (lm a 2), .int .u64 (lm a 3)] 24)).alloc (.cells #[.int .u64 (lm b 0), .int .u64 (lm b 1), .int .u64 (lm b 2), .int .u64 (lm b 3)] 24)).alloc (.cells #[.int .u64 0, .int .u64 0, .int .u64 0, .int .u64 0] 24)).alloc (.cells #[.int .u64 q0, .int .u64 q1, .int .u64 q2, .int .u64 q3, .int .u64 q4, .int .u64 q5, .int .u64 q6, .int .u64 q7] 26)).alloc (.cells #[.int .u64 (lm b 0), .int .u64 (lm b 1), .int .u64 (lm b 2), .int .u64 (lm b 3)] 24)).alloc (.cells #[.int .u64 (lm b 0), .int .u64 (lm b 1), .int .u64 (lm b 2), .int .u64 (lm b 3)] 24)).drewN n).drew HB.out (ab 2).1 (ab 2).2 (by simp) hp.b2 hp.b3 hp.b4 hp.b5 (by simp [go_sem]) (by simp [go_sem]) (by simp [go_sem]) (by simp [go_sem]) (by simp [go_sem]) (fun o => by simp [go_sem])
      clear hp
      go_wp2
      go_region_with (go_at_call 34; refine R.mono ?_; rintro e w' ⟨r0, r1, r2, r3, r4, rfl, c0, c1, c2, c3, c4, E, rfl⟩)
      all_goals (go_wp2_with fail; go_roundw; (case rel => exact ⟨3, n + 1, q0, q1, r0, r1, r2, r3, r4, q7, by omega, rfl, HP.out.row2 c0 c1 c2 c3 c4 E.out, rfl⟩); (case measure => simp [intOf]))
    | 3, _, hp =>
      simp only [mw]
      have HP := hide hp
      have R := row_any (w.heap.size + 1 + 1 + 1) 3 5 (lm a 3) b q3 q4 q5 q6 q7 ((((((((w.alloc (.cells #[.int .u64 (lm a 0), .int .u64 (lm a 1), .int .u64 (lm a 2), .int .u64 (lm a 3)] 24)).alloc (.cells #[.int .u64 (lm b 0), .int .u64 (lm b 1), .int .u64 (lm b 2), .int .u64 (lm b 3)] 24)).alloc (.cells #[.int .u64 0, .int .u64 0, .int .u64 0, .int .u64 0] 24)).alloc (.cells #[.int .u64 q0, .int .u64 q1, .int .u64 q2, .int .u64 q3, .int .u64 q4, .int .u64 q5, .int .u64 q6, .int .u64 q7] 26)).alloc (.cells #[.int .u64 (lm b 0), .int .u64 (lm b 1), .int .u64 (lm b 2), .int .u64 (lm b 3)] 24)).alloc (.cells #[.int .u64 (lm b 0), .int .u64 (lm b 1), .int .u64 (lm b 2), .int .u64 (lm b 3)] 24)).alloc (.cells #[.int .u64 (lm b 0), .int .u64 (lm b 1), .int .u64 (lm b 2), .int .u64 (lm b 3)] 24)).drewN n).drew HB.out (ab 3).1 (ab 3).2 (by simp) hp.b3 hp.b4 hp.b5 hp.b6 (by simp [go_sem]) (by simp [go_sem]) (by simp [go_sem]) (by simp [go_sem]) (by simp [go_sem]) (fun o => by simp [go_sem])
      clear hp
      go_wp2
      go_region_with (go_at_call 34; refine R.mono ?_; rintro e w' ⟨r0, r1, r2, r3, r4, rfl, c0, c1, c2, c3, c4, E, rfl⟩)
      all_goals (go_wp2_with fail; go_roundw; (case rel => exact ⟨4, n + 1, q0, q1, q2, r0, r1, r2, r3, r4, by omega, rfl, HP.out.row3 c0 c1 c2 c3 c4 E.out, rfl⟩); (case measure => simp [intOf]))
    | 4, _, hp =>
      simp only [mw]
      have HP := hide hp
      have s4 := same_zero hp.b4 hp.b5 hp.b6 hp.b7
      clear hp
      by_cases h0 : four q4 q5 q6 q7 = 0
      · have HZ := hide h0
        rw [decide_eq_true h0] at s4
        clear h0
        go_wp2
        go_region_held3 (fun w' => w'.cell? ⟨w.heap.size + 1 + 1 + 1, 0, none⟩ = some (.int .u64 q0) ∧ w'.cell? ⟨w.heap.size + 1 + 1 + 1, 1, none⟩ = some (.int .u64 q1) ∧ w'.cell? ⟨w.heap.size + 1 + 1 + 1, 2, none⟩ = some (.int .u64 q2) ∧ w'.cell? ⟨w.heap.size + 1 + 1 + 1, 3, none⟩ = some (.int .u64 q3)
          ∧ w'.cell? ⟨w.heap.size + 1 + 1 + 1 + 1 + 1 + 1 + 1 + 1, 0, none⟩ = some (.int .u64 q4) ∧ w'.cell? ⟨w.heap.size + 1 + 1 + 1 + 1 + 1 + 1 + 1 + 1, 1, none⟩ = some (.int .u64 q5) ∧ w'.cell? ⟨w.heap.size + 1 + 1 + 1 + 1 + 1 + 1 + 1 + 1, 2, none⟩ = some (.int .u64 q6) ∧ w'.cell? ⟨w.heap.size + 1 + 1 + 1 + 1 + 1 + 1 + 1 + 1, 3, none⟩ = some (.int .u64 q7)) (simp [go_sem, *]) ((go_at_call 35; refine (unless_no _ _ _ _ _).mono ?_; rintro e w' ⟨rfl, hb⟩; obtain ⟨hc, hf⟩ := bcell hb))
        have B0 : Below w.heap.size w w' := bOn (bDn (bAl (bAl (bAl (bAl (bAl (bAl (bAl (bAl (bAl (bMe w))))))))))) hb
        have hz := hb.size
        simp only [World.drewN, World.size_alloc] at hz
        go_wp2
        refine bodyPost_ret (v := .tuple #[.agg #[.int .u64 q0, .int .u64 q1, .int .u64 q2, .int .u64 q3], .int .i64 0]) ?_ rfl (HN.out _ _ _ _ _ _ _ _ HP.out HZ.out _ ((((B0.setCell (by simp only []; omega) _).setCell (by simp only []; omega) _).setCell (by simp only []; omega) _).setCell (by simp only []; omega) _))
        simp [results, Try.results19, go_sem, hc]
      · have HZ := hide h0
        rw [decide_eq_false h0] at s4
        clear h0
        go_wp2
        go_region_held3 (fun w' => w'.cell? ⟨w.heap.size + 1 + 1 + 1, 0, none⟩ = some (.int .u64 q0) ∧ w'.cell? ⟨w.heap.size + 1 + 1 + 1, 1, none⟩ = some (.int .u64 q1) ∧ w'.cell? ⟨w.heap.size + 1 + 1 + 1, 2, none⟩ = some (.int .u64 q2) ∧ w'.cell? ⟨w.heap.size + 1 + 1 + 1, 3, none⟩ = some (.int .u64 q3)
          ∧ w'.cell? ⟨w.heap.size + 1 + 1 + 1 + 1 + 1 + 1 + 1 + 1, 0, none⟩ = some (.int .u64 q4) ∧ w'.cell? ⟨w.heap.size + 1 + 1 + 1 + 1 + 1 + 1 + 1 + 1, 1, none⟩ = some (.int .u64 q5) ∧ w'.cell? ⟨w.heap.size + 1 + 1 + 1 + 1 + 1 + 1 + 1 + 1, 2, none⟩ = some (.int .u64 q6) ∧ w'.cell? ⟨w.heap.size + 1 + 1 + 1 + 1 + 1 + 1 + 1 + 1, 3, none⟩ = some (.int .u64 q7)) (simp [go_sem, *]) ((go_at_call 35; refine (unless_yes _ _ _ _ _).mono ?_; rintro e w' ⟨rfl, hb⟩; obtain ⟨hc, hf⟩ := bcell hb))
        have B0 : Below w.heap.size w w' := bOn (bDn (bAl (bAl (bAl (bAl (bAl (bAl (bAl (bAl (bAl (bMe w))))))))))) hb
        have hz := hb.size
        simp only [World.drewN, World.size_alloc] at hz
        go_wp2
        refine bodyPost_ret (v := .tuple #[.agg #[.int .u64 0, .int .u64 0, .int .u64 0, .int .u64 0], .int .i64 2]) ?_ rfl (HY.out _ _ _ _ _ _ _ _ HP.out HZ.out _ ((((B0.setCell (by simp only []; omega) _).setCell (by simp only []; omega) _).setCell (by simp only []; omega) _).setCell (by simp only []; omega) _))
        simp [results, Try.results19, go_sem, hc]

theorem prod_in {a b q0 q1 q2 q3 q4 q5 q6 q7 : Int} (ha : In a) (h : Prod a b 4 q0 q1 q2 q3 q4 q5 q6 q7) : a * b = four q0 q1 q2 q3 + 115792089237316195423570985008687907853269984665640564039457584007913129639936 * four q4 q5 q6 q7 ∧ In (four q0 q1 q2 q3) ∧ 0 ≤ four q4 q5 q6 q7 := by
  have s := h.sum
  rw [lo_four ha] at s
  have f := four_in h.b0 h.b1 h.b2 h.b3
  have f2 := four_in h.b4 h.b5 h.b6 h.b7
  exact ⟨s.symm, f, f2.1⟩
theorem huge_mul_ok (a b : Int) (w : World) (ha : In a) (hb : In b) (h : In (a * b)) :
    Calls Try.prog 19 #[big a, big b] w fun e w' => e = .returned (.tuple #[big (a * b), .int .i64 0]) ∧ Below w.heap.size w w' := by
  refine hmul_raw a b w _ hb (fun q0 q1 q2 q3 q4 q5 q6 q7 hp hne => ?_) (fun q0 q1 q2 q3 q4 q5 q6 q7 hp hz w' hw => ⟨?_, hw⟩)
  · obtain ⟨e, f, g⟩ := prod_in ha hp
    unfold In at h f
    omega
  · obtain ⟨e, f, g⟩ := prod_in ha hp
    obtain ⟨e0, e1, e2, e3⟩ := lm_of (n := a * b) (by rw [e, hz]; simp) hp.b0 hp.b1 hp.b2 hp.b3
    exact ret_num e0 e1 e2 e3
theorem huge_mul_over (a b : Int) (w : World) (ha : In a) (hb : In b) (h : ¬ In (a * b)) :
    Calls Try.prog 19 #[big a, big b] w fun e w' => e = .returned (.tuple #[big 0, .int .i64 2]) ∧ Below w.heap.size w w' := by
  refine hmul_raw a b w _ hb (fun q0 q1 q2 q3 q4 q5 q6 q7 hp hne w' hw => ⟨ret_num0 2, hw⟩) (fun q0 q1 q2 q3 q4 q5 q6 q7 hp hz => ?_)
  obtain ⟨e, f, g⟩ := prod_in ha hp
  rw [e, hz] at h
  simp only [Int.mul_zero, Int.add_zero] at h
  exact absurd f h
end Go.Proofs.Ytlmjbpmpedlhlaa
