/- The contract of wide.Product over this translation. -/
import Derived.Test.YtlmjbpmpedlhlaaHugeMul
import Derived.Test.YtlmjbpmpedlhlaaWideRow
import Derived.Test.YtlmjbpmpedlhlaaWideBase
import Derived.Test.YtlmjbpmpedlhlaaWideMath
namespace Go.Proofs.Ytlmjbpmpedlhlaa
open Go.RowKit Go.Lib
attribute [local go_sem] setCell_drewN alloc_drewN idx0 idx1 idx2 idx3 wi4 wi5 wi6 wi7 wi8

set_option maxHeartbeats 4000000 in
theorem product_raw (a b : Int) (w : World) (Q : Ending → World → Prop) (hb : In b)
    (yes : ∀ q0 q1 q2 q3 q4 q5 q6 q7, Prod a b 4 q0 q1 q2 q3 q4 q5 q6 q7 → ∀ w', Below w.heap.size w w' → Q (.returned (.agg #[.int .u64 q0, .int .u64 q1, .int .u64 q2, .int .u64 q3, .int .u64 q4, .int .u64 q5, .int .u64 q6, .int .u64 q7])) w') :
    Calls Try.prog 8 #[big a, big b] w Q := by
  have HY := hide yes; have HB := hide hb
  clear yes hb
  have ab := fun k => lm_bd a k
  go_enter Try.func8, Try.ntmps8
  go_wp2
  go_loopw [9] (fun t wr => ∃ (k n : Nat) (q0 q1 q2 q3 q4 q5 q6 q7 : Int), k ≤ 4 ∧ t = .int .i64 k ∧ Prod a b k q0 q1 q2 q3 q4 q5 q6 q7 ∧ wr = (mw ((((w.alloc (.cells #[.int .u64 (lm a 0), .int .u64 (lm a 1), .int .u64 (lm a 2), .int .u64 (lm a 3)] 24)).alloc (.cells #[.int .u64 (lm b 0), .int .u64 (lm b 1), .int .u64 (lm b 2), .int .u64 (lm b 3)] 24)).alloc (.cells #[.int .u64 0, .int .u64 0, .int .u64 0, .int .u64 0, .int .u64 0, .int .u64 0, .int .u64 0, .int .u64 0] 27)).alloc (.cells #[.int .u64 q0, .int .u64 q1, .int .u64 q2, .int .u64 q3, .int .u64 q4, .int .u64 q5, .int .u64 q6, .int .u64 q7] 27)) b k).drewN n) (fun t _ => 4 - (intOf t).toNat)
  case atStart => exact ⟨0, 0, 0, 0, 0, 0, 0, 0, 0, 0, by omega, rfl, ⟨by omega, by omega, by omega, by omega, by omega, by omega, by omega, by omega, by simp [four, lo], fun _ => rfl, fun _ => rfl, fun _ => rfl, fun _ => rfl⟩, rfl⟩
  case round =>
    obtain ⟨k, n, q0, q1, q2, q3, q4, q5, q6, q7, hk, rfl, hp, rfl⟩ := hrel
    match k, hk, hp with
    | 0, _, hp =>
      simp only [mw]
      have HP := hide hp
      have R := wrow_any (w.heap.size + 1 + 1 + 1) 0 8 (lm a 0) b q0 q1 q2 q3 q4 (((((w.alloc (.cells #[.int .u64 (lm a 0), .int .u64 (lm a 1), .int .u64 (lm a 2), .int .u64 (lm a 3)] 24)).alloc (.cells #[.int .u64 (lm b 0), .int .u64 (lm b 1), .int .u64 (lm b 2), .int .u64 (lm b 3)] 24)).alloc (.cells #[.int .u64 0, .int .u64 0, .int .u64 0, .int .u64 0, .int .u64 0, .int .u64 0, .int .u64 0, .int .u64 0] 27)).alloc (.cells #[.int .u64 q0, .int .u64 q1, .int .u64 q2, .int .u64 q3, .int .u64 q4, .int .u64 q5, .int .u64 q6, .int .u64 q7] 27)).drewN n).drew HB.out (ab 0).1 (ab 0).2 (by simp) hp.b0 hp.b1 hp.b2 hp.b3 (by simp [go_sem]) (by simp [go_sem]) (by simp [go_sem]) (by simp [go_sem]) (by simp [go_sem]) (fun o => by simp [go_sem])
      clear hp
      go_wp2
      go_region_with (go_at_call 23; refine R.mono ?_; rintro e w' ⟨r0, r1, r2, r3, r4, rfl, c0, c1, c2, c3, c4, E, rfl⟩)
      all_goals (go_wp2_with fail; go_roundw; (case rel => exact ⟨1, n + 1, r0, r1, r2, r3, r4, q5, q6, q7, by omega, rfl, HP.out.row0 c0 c1 c2 c3 c4 E.out, rfl⟩); (case measure => simp [intOf]))
    | 1, _, hp =>
      simp only [mw]
      have HP := hide hp
      have R := wrow_any (w.heap.size + 1 + 1 + 1) 1 7 (lm a 1) b q1 q2 q3 q4 q5 ((((((w.alloc (.cells #[.int .u64 (lm a 0), .int .u64 (lm a 1), .int .u64 (lm a 2), .int .u64 (lm a 3)] 24)).alloc (.cells #[.int .u64 (lm b 0), .int .u64 (lm b 1), .int .u64 (lm b 2), .int .u64 (lm b 3)] 24)).alloc (.cells #[.int .u64 0, .int .u64 0, .int .u64 0, .int .u64 0, .int .u64 0, .int .u64 0, .int .u64 0, .int .u64 0] 27)).alloc (.cells #[.int .u64 q0, .int .u64 q1, .int .u64 q2, .int .u64 q3, .int .u64 q4, .int .u64 q5, .int .u64 q6, .int .u64 q7] 27)).alloc (.cells #[.int .u64 (lm b 0), .int .u64 (lm b 1), .int .u64 (lm b 2), .int .u64 (lm b 3)] 24)).drewN n).drew HB.out (ab 1).1 (ab 1).2 (by simp) hp.b1 hp.b2 hp.b3 hp.b4 (by simp [go_sem]) (by simp [go_sem]) (by simp [go_sem]) (by simp [go_sem]) (by simp [go_sem]) (fun o => by simp [go_sem])
      clear hp
      go_wp2
      go_region_with (go_at_call 23; refine R.mono ?_; rintro e w' ⟨r0, r1, r2, r3, r4, rfl, c0, c1, c2, c3, c4, E, rfl⟩)
      all_goals (go_wp2_with fail; go_roundw; (case rel => exact ⟨2, n + 1, q0, r0, r1, r2, r3, r4, q6, q7, by omega, rfl, HP.out.row1 c0 c1 c2 c3 c4 E.out, rfl⟩); (case measure => simp [intOf]))
    | 2, _, hp =>
      simp only [mw]
      have HP := hide hp
      have R := wrow_any (w.heap.size + 1 + 1 + 1) 2 6 (lm a 2) b q2 q3 q4 q5 q6 (((((((w.alloc (.cells #[.int .u64 (lm a 0), .int .u64 (lm a 1), .int .u64 (lm a 2), .int .u64 (lm a 3)] 24)).alloc (.cells #[.int .u64 (lm b 0), .int .u64 (lm b 1), .int .u64 (lm b 2), .int .u64 (lm b 3)] 24)).alloc (.cells #[.int .u64 0, .int .u64 0, .int .u64 0, .int .u64 0, .int .u64 0, .int .u64 0, .int .u64 0, .int .u64 0] 27)).alloc (.cells #[.int .u64 q0, .int .u64 q1, .int .u64 q2, .int .u64 q3, .int .u64 q4, .int .u64 q5, .int .u64 q6, .int .u64 q7] 27)).alloc (.cells #[.int .u64 (lm b 0), .int .u64 (lm b 1), .int .u64 (lm b 2), .int .u64 (lm b 3)] 24)).alloc (.cells #[.int .u64 (lm b 0), .int .u64 (lm b 1), .int .u64 (lm b 2), .int .u64 (lm b 3)] 24)).drewN n).drew HB.out (ab 2).1 (ab 2).2 (by simp) hp.b2 hp.b3 hp.b4 hp.b5 (by simp [go_sem]) (by simp [go_sem]) (by simp [go_sem]) (by simp [go_sem]) (by simp [go_sem]) (fun o => by simp [go_sem])
      clear hp
      go_wp2
      go_region_with (go_at_call 23; refine R.mono ?_; rintro e w' ⟨r0, r1, r2, r3, r4, rfl, c0, c1, c2, c3, c4, E, rfl⟩)
      all_goals (go_wp2_with fail; go_roundw; (case rel => exact ⟨3, n + 1, q0, q1, r0, r1, r2, r3, r4, q7, by omega, rfl, HP.out.row2 c0 c1 c2 c3 c4 E.out, rfl⟩); (case measure => simp [intOf]))
    | 3, _, hp =>
      simp only [mw]
      have HP := hide hp
      have R := wrow_any (w.heap.size + 1 + 1 + 1) 3 5 (lm a 3) b q3 q4 q5 q6 q7 ((((((((w.alloc (.cells #[.int .u64 (lm a 0), .int .u64 (lm a 1), .int .u64 (lm a 2), .int .u64 (lm a 3)] 24)).alloc (.cells #[.int .u64 (lm b 0), .int .u64 (lm b 1), .int .u64 (lm b 2), .int .u64 (lm b 3)] 24)).alloc (.cells #[.int .u64 0, .int .u64 0, .int .u64 0, .int .u64 0, .int .u64 0, .int .u64 0, .int .u64 0, .int .u64 0] 27)).alloc (.cells #[.int .u64 q0, .int .u64 q1, .int .u64 q2, .int .u64 q3, .int .u64 q4, .int .u64 q5, .int .u64 q6, .int .u64 q7] 27)).alloc (.cells #[.int .u64 (lm b 0), .int .u64 (lm b 1), .int .u64 (lm b 2), .int .u64 (lm b 3)] 24)).alloc (.cells #[.int .u64 (lm b 0), .int .u64 (lm b 1), .int .u64 (lm b 2), .int .u64 (lm b 3)] 24)).alloc (.cells #[.int .u64 (lm b 0), .int .u64 (lm b 1), .int .u64 (lm b 2), .int .u64 (lm b 3)] 24)).drewN n).drew HB.out (ab 3).1 (ab 3).2 (by simp) hp.b3 hp.b4 hp.b5 hp.b6 (by simp [go_sem]) (by simp [go_sem]) (by simp [go_sem]) (by simp [go_sem]) (by simp [go_sem]) (fun o => by simp [go_sem])
      clear hp
      go_wp2
      go_region_with (go_at_call 23; refine R.mono ?_; rintro e w' ⟨r0, r1, r2, r3, r4, rfl, c0, c1, c2, c3, c4, E, rfl⟩)
      all_goals (go_wp2_with fail; go_roundw; (case rel => exact ⟨4, n + 1, q0, q1, q2, r0, r1, r2, r3, r4, by omega, rfl, HP.out.row3 c0 c1 c2 c3 c4 E.out, rfl⟩); (case measure => simp [intOf]))
    | 4, _, hp =>
      simp only [mw]
      have HP := hide hp
      clear hp
      go_wp2
      refine bodyPost_ret (v := .agg #[.int .u64 q0, .int .u64 q1, .int .u64 q2, .int .u64 q3, .int .u64 q4, .int .u64 q5, .int .u64 q6, .int .u64 q7]) ?_ rfl (HY.out _ _ _ _ _ _ _ _ HP.out _ (bDn (bAl (bAl (bAl (bAl (bAl (bAl (bAl (bAl (bMe w)))))))))))
      simp [results, Try.results8, go_sem]

theorem lit_lim {l : List Int} (h : ∀ x ∈ l, 0 ≤ x ∧ x < 18446744073709551616) : Lim (lit l) := by
  intro j
  unfold lit
  by_cases hj : j < l.length
  · rw [List.getD_eq_getElem?_getD, List.getElem?_eq_getElem hj]; exact h _ (List.getElem_mem hj)
  · rw [List.getD_eq_getElem?_getD, List.getElem?_eq_none (by omega)]; simp
theorem lit_eight (q0 q1 q2 q3 q4 q5 q6 q7 : Int) : vl (lit [q0, q1, q2, q3, q4, q5, q6, q7]) 8 = four q0 q1 q2 q3 + 115792089237316195423570985008687907853269984665640564039457584007913129639936 * four q4 q5 q6 q7 := by
  simp only [vl, lit, four, Int.reducePow, List.getD_cons_zero, List.getD_cons_succ]
  omega
theorem lit8_lim {q0 q1 q2 q3 q4 q5 q6 q7 : Int} (b0 : 0 ≤ q0 ∧ q0 < 18446744073709551616) (b1 : 0 ≤ q1 ∧ q1 < 18446744073709551616) (b2 : 0 ≤ q2 ∧ q2 < 18446744073709551616) (b3 : 0 ≤ q3 ∧ q3 < 18446744073709551616) (b4 : 0 ≤ q4 ∧ q4 < 18446744073709551616) (b5 : 0 ≤ q5 ∧ q5 < 18446744073709551616) (b6 : 0 ≤ q6 ∧ q6 < 18446744073709551616) (b7 : 0 ≤ q7 ∧ q7 < 18446744073709551616) : Lim (lit [q0, q1, q2, q3, q4, q5, q6, q7]) := by
  refine lit_lim fun x hx => ?_
  simp only [List.mem_cons, List.not_mem_nil, or_false] at hx
  rcases hx with rfl | rfl | rfl | rfl | rfl | rfl | rfl | rfl <;> assumption
theorem wid_of {n : Int} {f : Nat → Int} (L : Lim f) (h : vl f 8 = n) : Value.agg #[.int .u64 (f 0), .int .u64 (f 1), .int .u64 (f 2), .int .u64 (f 3), .int .u64 (f 4), .int .u64 (f 5), .int .u64 (f 6), .int .u64 (f 7)] = wid n := by
  subst h
  unfold wid
  rw [lm_vl L (by omega), lm_vl L (by omega), lm_vl L (by omega), lm_vl L (by omega), lm_vl L (by omega), lm_vl L (by omega), lm_vl L (by omega), lm_vl L (by omega)]
theorem big_of {n : Int} {f : Nat → Int} (L : Lim f) (h : vl f 4 = n) : Value.agg #[.int .u64 (f 0), .int .u64 (f 1), .int .u64 (f 2), .int .u64 (f 3)] = big n := by
  subst h
  unfold big
  rw [lm_vl L (by omega), lm_vl L (by omega), lm_vl L (by omega), lm_vl L (by omega)]
theorem product_any (a b : Int) (w : World) (ha : In a) (hb : In b) :
    Calls Try.prog 8 #[big a, big b] w fun e w' => e = .returned (wid (a * b)) ∧ Below w.heap.size w w' := by
  refine product_raw a b w _ hb (fun q0 q1 q2 q3 q4 q5 q6 q7 hp w' hw => ⟨?_, hw⟩)
  have s := hp.sum
  rw [lo_four ha, ← lit_eight] at s
  exact congrArg Ending.returned (wid_of (lit8_lim hp.b0 hp.b1 hp.b2 hp.b3 hp.b4 hp.b5 hp.b6 hp.b7) s)
theorem product_wd {a b : Int} (ha : In a) (hb : In b) : Wd (a * b) := by
  unfold In at ha hb
  have h1 := Int.mul_nonneg ha.1 hb.1
  have h2 : a * b ≤ 115792089237316195423570985008687907853269984665640564039457584007913129639935 * 115792089237316195423570985008687907853269984665640564039457584007913129639935 := Int.mul_le_mul (by omega) (by omega) hb.1 (by omega)
  refine ⟨h1, Int.lt_of_le_of_lt h2 (by decide)⟩
end Go.Proofs.Ytlmjbpmpedlhlaa
