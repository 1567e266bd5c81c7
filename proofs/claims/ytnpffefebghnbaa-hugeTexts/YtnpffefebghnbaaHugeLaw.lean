/- What layer 2's statements call: 'lives'; and the walk of HugeLows over this translation. -/
import Derived.Test.YtnpffefebghnbaaHugeParse
import Derived.Test.YtnpffefebghnbaaHugeLow
import Derived.OpenShut
namespace Go.Proofs.Ytnpffefebghnbaa
open Go.RowKit Go.Lib
attribute [local go_sem] setCell_drewN alloc_drewN eqInt

theorem live_lit : dec [49, 56, 52, 52, 54, 55, 52, 52, 48, 55, 51, 55, 48, 57, 53, 53, 49, 54, 49, 54] = 18446744073709551616 := by decide
theorem live_dec : decimal [49, 56, 52, 52, 54, 55, 52, 52, 48, 55, 51, 55, 48, 57, 53, 53, 49, 54, 49, 54] = true := by decide
theorem live_in : In 18446744073709551616 := by unfold In; omega
theorem live_same : same4 (lm 18446744073709551616 0) (lm 18446744073709551616 1) (lm 18446744073709551616 2) (lm 18446744073709551616 3) 0 1 0 0 = true := by
  rw [lm0, lm1, lm2, lm3]; decide

theorem lives2_any (w : World) : Calls Try.prog 9 #[] w fun e w' => e = .returned (.bool true) ∧ Below w.heap.size w w' := by
  have hs := live_same
  have P := parse_ok ⟨#[49, 56, 52, 52, 54, 55, 52, 52, 48, 55, 51, 55, 48, 57, 53, 53, 49, 54, 49, 54]⟩ w (by unfold maxLen; decide) live_dec (by rw [live_lit]; exact live_in)
  rw [live_lit] at P
  have HP := hide P
  clear P
  go_enter Try.func9, Try.ntmps9
  go_wp2_with fail
  refine HP.out.mono ?_
  rintro e w1 ⟨rfl, hb⟩
  go_wp2
  go_ret
  exact ⟨rfl, bAl hb⟩
theorem lim_of {a : Int} (h : (Lit.int .u64 a).wf = true) : 0 ≤ a ∧ a < 18446744073709551616 := by
  have := bounds_u64 h; omega
theorem in_four {a b c d : Int} (h0 : (Lit.int .u64 a).wf = true) (h1 : (Lit.int .u64 b).wf = true) (h2 : (Lit.int .u64 c).wf = true) (h3 : (Lit.int .u64 d).wf = true) : In (four a b c d) := four_in (lim_of h0) (lim_of h1) (lim_of h2) (lim_of h3)
theorem big_four {a b c d : Int} (h0 : (Lit.int .u64 a).wf = true) (h1 : (Lit.int .u64 b).wf = true) (h2 : (Lit.int .u64 c).wf = true) (h3 : (Lit.int .u64 d).wf = true) : Value.agg #[.int .u64 a, .int .u64 b, .int .u64 c, .int .u64 d] = big (four a b c d) := by
  obtain ⟨e0, e1, e2, e3⟩ := lm_four (lim_of h0) (lim_of h1) (lim_of h2) (lim_of h3)
  unfold big
  rw [e0, e1, e2, e3]
end Go.Proofs.Ytnpffefebghnbaa
