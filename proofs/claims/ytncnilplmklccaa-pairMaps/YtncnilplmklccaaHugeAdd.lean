/- The contract of huge.Add over this translation. -/
import Derived.Test.YtncnilplmklccaaHugeBase
namespace Go.Proofs.Ytncnilplmklccaa
open Go.RowKit Go.Lib
attribute [local go_sem] setCell_drewN alloc_drewN

/-- The carry into a limb, and the sum's limb. -/
def cr (a b : Int) : Nat → Int
  | 0 => 0
  | k + 1 => (lm a k + lm b k + one (cr a b k)) / 18446744073709551616
def sm (a b : Int) (k : Nat) : Int := (lm a k + lm b k + one (cr a b k)) % 18446744073709551616
/-- The sum, as far as it goes. -/
def st (a b : Int) : Nat → Array Value
  | 0 => #[.int .u64 0, .int .u64 0, .int .u64 0, .int .u64 0]
  | 1 => #[.int .u64 (sm a b 0), .int .u64 0, .int .u64 0, .int .u64 0]
  | 2 => #[.int .u64 (sm a b 0), .int .u64 (sm a b 1), .int .u64 0, .int .u64 0]
  | 3 => #[.int .u64 (sm a b 0), .int .u64 (sm a b 1), .int .u64 (sm a b 2), .int .u64 0]
  | _ => #[.int .u64 (sm a b 0), .int .u64 (sm a b 1), .int .u64 (sm a b 2), .int .u64 (sm a b 3)]
theorem one_of {c : Int} (h0 : 0 ≤ c) (h1 : c ≤ 1) : one c = c := by unfold one; split <;> omega
theorem sum_ends {a b : Int} (ha : In a) (hb : In b) : a + b = four (sm a b 0) (sm a b 1) (sm a b 2) (sm a b 3) + 115792089237316195423570985008687907853269984665640564039457584007913129639936 * cr a b 4 ∧ (cr a b 4 = 0 ∨ cr a b 4 = 1) := by
  have ea := four_lm ha
  have eb := four_lm hb
  have a0 := lm_bd a 0; have a1 := lm_bd a 1; have a2 := lm_bd a 2; have a3 := lm_bd a 3
  have b0 := lm_bd b 0; have b1 := lm_bd b 1; have b2 := lm_bd b 2; have b3 := lm_bd b 3
  have c0 : one (cr a b 0) = 0 := rfl
  have c1 : cr a b 1 = (lm a 0 + lm b 0 + one (cr a b 0)) / 18446744073709551616 := rfl
  have c2 : cr a b 2 = (lm a 1 + lm b 1 + one (cr a b 1)) / 18446744073709551616 := rfl
  have c3 : cr a b 3 = (lm a 2 + lm b 2 + one (cr a b 2)) / 18446744073709551616 := rfl
  have c4 : cr a b 4 = (lm a 3 + lm b 3 + one (cr a b 3)) / 18446744073709551616 := rfl
  have d1 := one_of (c := cr a b 1) (by omega) (by omega)
  have d2 := one_of (c := cr a b 2) (by omega) (by omega)
  have d3 := one_of (c := cr a b 3) (by omega) (by omega)
  unfold sm four
  unfold four at ea eb
  constructor <;> omega
theorem sm_bd (a b : Int) (k : Nat) : 0 ≤ sm a b k ∧ sm a b k < 18446744073709551616 := by unfold sm; omega

set_option maxHeartbeats 2000000 in
theorem hadd_raw (a b : Int) (w : World) (Q : Ending → World → Prop)
    (yes : cr a b 4 ≠ 0 → ∀ w', Below w.heap.size w w' → Q (.returned (.tuple #[.agg #[.int .u64 0, .int .u64 0, .int .u64 0, .int .u64 0], .int .i64 2])) w')
    (no : cr a b 4 = 0 → ∀ w', Below w.heap.size w w' → Q (.returned (.tuple #[.agg #[.int .u64 (sm a b 0), .int .u64 (sm a b 1), .int .u64 (sm a b 2), .int .u64 (sm a b 3)], .int .i64 0])) w') :
    Calls Try.prog 43 #[big a, big b] w Q := by
  have ab := fun k => (lm_bd a k).1
  have bb := fun k => (lm_bd b k).1
  have HY := hide yes; have HN := hide no
  clear yes no
  go_enter Try.func43, Try.ntmps43
  go_wp2
  go_loopw [7, 9] (fun c t wr => ∃ k n : Nat, k ≤ 4 ∧ t = .int .i64 k ∧ c = .int .u64 (cr a b k) ∧ wr = ((((w.alloc (.cells #[.int .u64 (lm a 0), .int .u64 (lm a 1), .int .u64 (lm a 2), .int .u64 (lm a 3)] 55)).alloc (.cells #[.int .u64 (lm b 0), .int .u64 (lm b 1), .int .u64 (lm b 2), .int .u64 (lm b 3)] 55)).alloc (.cells #[.int .u64 0, .int .u64 0, .int .u64 0, .int .u64 0] 55)).alloc (.cells (st a b k) 55)).drewN n) (fun _ t _ => 4 - (intOf t).toNat)
  case atStart => exact ⟨0, 0, by omega, rfl, rfl, rfl⟩
  case round =>
    obtain ⟨k, n, hk, rfl, rfl, rfl⟩ := hrel
    match k, hk with
    | 0, _ =>
      simp only [st]
      go_wp2
      go_region_with (go_at_call 57; refine (limb_add_any _ _ _ (ab 0) (bb 0) _).mono ?_; rintro e w' ⟨rfl, rfl⟩)
      all_goals (go_wp2_with fail; go_roundw; (case rel => exact ⟨1, n + 1, by omega, rfl, rfl, rfl⟩); (case measure => simp [intOf]))
    | 1, _ =>
      simp only [st]
      go_wp2
      go_region_with (go_at_call 57; refine (limb_add_any _ _ _ (ab 1) (bb 1) _).mono ?_; rintro e w' ⟨rfl, rfl⟩)
      all_goals (go_wp2_with fail; go_roundw; (case rel => exact ⟨2, n + 1, by omega, rfl, rfl, rfl⟩); (case measure => simp [intOf]))
    | 2, _ =>
      simp only [st]
      go_wp2
      go_region_with (go_at_call 57; refine (limb_add_any _ _ _ (ab 2) (bb 2) _).mono ?_; rintro e w' ⟨rfl, rfl⟩)
      all_goals (go_wp2_with fail; go_roundw; (case rel => exact ⟨3, n + 1, by omega, rfl, rfl, rfl⟩); (case measure => simp [intOf]))
    | 3, _ =>
      simp only [st]
      go_wp2
      go_region_with (go_at_call 57; refine (limb_add_any _ _ _ (ab 3) (bb 3) _).mono ?_; rintro e w' ⟨rfl, rfl⟩)
      all_goals (go_wp2_with fail; go_roundw; (case rel => exact ⟨4, n + 1, by omega, rfl, rfl, rfl⟩); (case measure => simp [intOf]))
    | 4, _ =>
      simp only [st]
      generalize hc : cr a b 4 = c4
      have HC := hide hc
      clear hc
      by_cases h0 : c4 = 0
      · subst h0
        go_wp2_with fail
        refine (unless_no _ _ _ _ _).mono ?_
        rintro e w1 ⟨rfl, hb⟩
        obtain ⟨hc, hf⟩ := bcell hb
        have hz := hb.size
        simp only [World.drewN, World.size_alloc] at hz
        have B0 := bOn (bDn (bAl (bAl (bAl (bAl (bMe w)))))) hb
        go_wp2
        refine bodyPost_ret (v := .tuple #[.agg #[.int .u64 (sm a b 0), .int .u64 (sm a b 1), .int .u64 (sm a b 2), .int .u64 (sm a b 3)], .int .i64 0]) ?_ rfl (HN.out HC.out _ ((((B0.setCell (by simp only []; omega) _).setCell (by simp only []; omega) _).setCell (by simp only []; omega) _).setCell (by simp only []; omega) _))
        simp [results, Try.results43, go_sem, hc]
      · have hne : (c4 != 0) = true := by simp [h0]
        have HC0 := hide h0
        clear h0
        go_wp2_with fail
        refine (unless_yes _ _ _ _ _).mono ?_
        rintro e w1 ⟨rfl, hb⟩
        obtain ⟨hc, hf⟩ := bcell hb
        have hz := hb.size
        simp only [World.drewN, World.size_alloc] at hz
        have B0 := bOn (bDn (bAl (bAl (bAl (bAl (bMe w)))))) hb
        go_wp2
        refine bodyPost_ret (v := .tuple #[.agg #[.int .u64 0, .int .u64 0, .int .u64 0, .int .u64 0], .int .i64 2]) ?_ rfl (HY.out (by rw [HC.out]; exact HC0.out) _ ((((B0.setCell (by simp only []; omega) _).setCell (by simp only []; omega) _).setCell (by simp only []; omega) _).setCell (by simp only []; omega) _))
        simp [results, Try.results43, go_sem, hc]

theorem huge_add_ok (a b : Int) (w : World) (ha : In a) (hb : In b) (h : In (a + b)) :
    Calls Try.prog 43 #[big a, big b] w fun e w' => e = .returned (.tuple #[big (a + b), .int .i64 0]) ∧ Below w.heap.size w w' := by
  obtain ⟨e, c⟩ := sum_ends ha hb
  have f := four_in (sm_bd a b 0) (sm_bd a b 1) (sm_bd a b 2) (sm_bd a b 3)
  unfold In at h f
  refine hadd_raw a b w _ (fun hy => ?_) (fun h0 w' hw => ⟨?_, hw⟩)
  · omega
  · obtain ⟨e0, e1, e2, e3⟩ := lm_of (n := a + b) (by rw [e, h0]; simp) (sm_bd a b 0) (sm_bd a b 1) (sm_bd a b 2) (sm_bd a b 3)
    exact ret_num e0 e1 e2 e3
theorem huge_add_over (a b : Int) (w : World) (ha : In a) (hb : In b) (h : ¬ In (a + b)) :
    Calls Try.prog 43 #[big a, big b] w fun e w' => e = .returned (.tuple #[big 0, .int .i64 2]) ∧ Below w.heap.size w w' := by
  obtain ⟨e, c⟩ := sum_ends ha hb
  have f := four_in (sm_bd a b 0) (sm_bd a b 1) (sm_bd a b 2) (sm_bd a b 3)
  unfold In at *
  refine hadd_raw a b w _ (fun hy w' hw => ⟨ret_num0 2, hw⟩) (fun h0 => ?_)
  omega
end Go.Proofs.Ytncnilplmklccaa
