/- The contract of layer 2's 'is' over this translation. -/
import Derived.Test.YtnpffefebghnbaaHugeLaw
import Derived.Test.YtnpffefebghnbaaRef2Int
namespace Go.Proofs.Ytnpffefebghnbaa
open Go.RowKit Go.Lib
attribute [local go_sem] setCell_drewN alloc_drewN eqInt

theorem same_self {a : Int} : same4 (lm a 0) (lm a 1) (lm a 2) (lm a 3) (lm a 0) (lm a 1) (lm a 2) (lm a 3) = true := by unfold same4; simp
theorem same_nought : same4 (lm 0 0) (lm 0 1) (lm 0 2) (lm 0 3) 0 0 0 0 = true := by rw [lm_zero, lm_zero, lm_zero, lm_zero]; rfl
set_option maxHeartbeats 1000000 in
theorem is_ok {ao : Option Addr} {n cap : Nat} {N : Int} {L : Nat} {w : World} (hn : Num w ao n cap N L) (h : In N) :
    Calls Try.prog 14 #[big N, .int .i64 0, .slice ao n cap] w fun e w' => e = .returned (.bool true) ∧ Below w.heap.size w w' := by
  have hs := same_self (a := N)
  have HN := hide hn; have HI := hide h
  clear hn h
  go_enter Try.func14, Try.ntmps14
  go_wp2_with fail
  refine (int_ok (HN.out.below (bAl (bMe w))) HI.out).mono ?_
  rintro e w1 ⟨rfl, hb⟩
  have O1 := hide ((Own.new w (lm N 0) (lm N 1) (lm N 2) (lm N 3) 24).after hb rfl)
  have B1 := hide (bOn (bAl (bMe w)) hb)
  obtain ⟨_, x0, x1, x2, x3, _⟩ := O1.out
  clear hb
  go_wp2
  go_ret
  exact ⟨rfl, bAl B1.out⟩
set_option maxHeartbeats 1000000 in
theorem is_over {ao : Option Addr} {n cap : Nat} {N : Int} {L : Nat} {w : World} (hn : Num w ao n cap N L) (h : ¬ In N) :
    Calls Try.prog 14 #[big 0, .int .i64 2, .slice ao n cap] w fun e w' => e = .returned (.bool true) ∧ Below w.heap.size w w' := by
  have hs := same_nought
  have HN := hide hn; have HI := hide h
  clear hn h
  go_enter Try.func14, Try.ntmps14
  go_wp2_with fail
  refine (int_over (HN.out.below (bAl (bMe w))) HI.out).mono ?_
  rintro e w1 ⟨rfl, hb⟩
  have O1 := hide ((Own.new w (lm 0 0) (lm 0 1) (lm 0 2) (lm 0 3) 24).after hb rfl)
  have B1 := hide (bOn (bAl (bMe w)) hb)
  obtain ⟨_, x0, x1, x2, x3, _⟩ := O1.out
  clear hb
  go_wp2
  go_ret
  exact ⟨rfl, bAl B1.out⟩
end Go.Proofs.Ytnpffefebghnbaa
