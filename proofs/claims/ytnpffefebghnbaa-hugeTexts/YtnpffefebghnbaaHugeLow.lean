/- The contract of huge.Low over this translation. -/
import Derived.Test.YtnpffefebghnbaaHugeBase
namespace Go.Proofs.Ytnpffefebghnbaa
open Go.RowKit Go.Lib
attribute [local go_sem] setCell_drewN alloc_drewN eqInt

theorem lim {x : Int} (h0 : 0 ≤ x) (h1 : x < 18446744073709551616) : In x := by unfold In; omega
theorem lm_lim {x : Int} (h0 : 0 ≤ x) (h1 : x < 18446744073709551616) : lm x 0 = x := by rw [lm0]; omega
theorem lm_low {a : Int} (ha : In a) : lm a 0 = a ↔ a < 18446744073709551616 := by
  unfold In at ha; rw [lm0]; omega
theorem low_same {a : Int} (ha : In a) : same4 (lm a 0) (lm a 1) (lm a 2) (lm a 3) (lm (lm a 0) 0) (lm (lm a 0) 1) (lm (lm a 0) 2) (lm (lm a 0) 3) = decide (a < 18446744073709551616) := by
  have l0 := lm_bd a 0
  rw [big_eq ha (lim l0.1 l0.2)]
  have := lm_low ha
  by_cases h : a < 18446744073709551616
  · simp [h, this.2 h]
  · simp [h]; intro e; exact h (this.1 e.symm)
set_option maxHeartbeats 400000 in
theorem low_yes (a : Int) (w : World) (h0 : 0 ≤ a) (h1 : a < 18446744073709551616) :
    Calls Try.prog 30 #[big a] w fun e w' => e = .returned (.tuple #[.int .u64 a, .bool true]) ∧ Below w.heap.size w w' := by
  have l0 := lm_bd a 0
  have E0 := hide (lm_lim h0 h1)
  have hq := low_same (lim h0 h1)
  rw [decide_eq_true h1] at hq
  go_enter Try.func30, Try.ntmps30
  go_wp2
  go_region_with (go_at_call 31; refine (hof_any _ _ l0.1 l0.2).mono ?_; rintro e w' ⟨rfl, hb⟩; obtain ⟨hc, hf⟩ := bcell hb)
  all_goals
    go_wp2
    go_ret2
    exact ⟨congrArg (fun x => Ending.returned (.tuple #[.int .u64 x, .bool true])) E0.out, bOn (bAl (bMe w)).drew hb⟩
set_option maxHeartbeats 400000 in
theorem low_no (a : Int) (w : World) (ha : In a) (h1 : ¬ a < 18446744073709551616) :
    Calls Try.prog 30 #[big a] w fun e w' => e = .returned (.tuple #[.int .u64 0, .bool false]) ∧ Below w.heap.size w w' := by
  have l0 := lm_bd a 0
  have hq := low_same ha
  rw [decide_eq_false h1] at hq
  go_enter Try.func30, Try.ntmps30
  go_wp2
  go_region_with (go_at_call 31; refine (hof_any _ _ l0.1 l0.2).mono ?_; rintro e w' ⟨rfl, hb⟩; obtain ⟨hc, hf⟩ := bcell hb)
  all_goals
    go_wp2
    go_ret2
    exact ⟨rfl, bOn (bAl (bMe w)).drew hb⟩
end Go.Proofs.Ytnpffefebghnbaa
