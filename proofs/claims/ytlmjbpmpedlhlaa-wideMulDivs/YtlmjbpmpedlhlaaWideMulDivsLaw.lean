/- The walk of WideMulDivs over this translation. -/
import Derived.Test.YtlmjbpmpedlhlaaWideLaw
import Derived.Deep.RegionHeld3
import Derived.Test.YtlmjbpmpedlhlaaRef3
namespace Go.Proofs.Ytlmjbpmpedlhlaa
open Go.RowKit Go.Lib
attribute [local go_sem] setCell_drewN alloc_drewN eqInt eqWide

set_option maxHeartbeats 4000000 in
theorem wideMulDivs_big (a b d : Int) (w : World) (ha : In a) (hb : In b) (hd : In d) :
    Calls Try.prog 5 #[big a, big b, big d] w fun e w' => e = .returned (.bool true) ∧ Below w.heap.size w w' := by
  have HA := hide ha; have HB := hide hb; have HD := hide hd
  clear ha hb hd
  go_enter Try.func5, Try.ntmps5
  go_wp2_with fail
  refine (lives3_any _).mono ?_
  rintro e w1 ⟨rfl, hb1⟩
  have A := hide (((((LRow.new4 w (lm a 0) (lm a 1) (lm a 2) (lm a 3) 24 (g := w.heap.size) (by simp)).congr (lit_lm4 a)).past (.cells #[.int .u64 (lm b 0), .int .u64 (lm b 1), .int .u64 (lm b 2), .int .u64 (lm b 3)] 24)).past (.cells #[.int .u64 (lm d 0), .int .u64 (lm d 1), .int .u64 (lm d 2), .int .u64 (lm d 3)] 24)).after hb1 rfl)
  have C := hide ((((LRow.new4 (w.alloc (.cells #[.int .u64 (lm a 0), .int .u64 (lm a 1), .int .u64 (lm a 2), .int .u64 (lm a 3)] 24)) (lm b 0) (lm b 1) (lm b 2) (lm b 3) 24 (g := w.heap.size + 1) (by simp)).congr (lit_lm4 b)).past (.cells #[.int .u64 (lm d 0), .int .u64 (lm d 1), .int .u64 (lm d 2), .int .u64 (lm d 3)] 24)).after hb1 rfl)
  have D := hide (((LRow.new4 ((w.alloc (.cells #[.int .u64 (lm a 0), .int .u64 (lm a 1), .int .u64 (lm a 2), .int .u64 (lm a 3)] 24)).alloc (.cells #[.int .u64 (lm b 0), .int .u64 (lm b 1), .int .u64 (lm b 2), .int .u64 (lm b 3)] 24)) (lm d 0) (lm d 1) (lm d 2) (lm d 3) 24 (g := w.heap.size + 1 + 1) (by simp)).congr (lit_lm4 d)).after hb1 rfl)
  have B := hide (bOn (bAl (bAl (bAl (bMe w)))) hb1)
  clear hb1
  obtain ⟨_, a0, a1, a2, a3, _⟩ := A.out.own
  obtain ⟨_, c0, c1, c2, c3, _⟩ := C.out.own
  obtain ⟨_, d0, d1, d2, d3, _⟩ := D.out.own
  go_wp2_with fail
  refine (mul_div_down a b d _ HA.out HB.out HD.out).mono ?_
  rintro e w2 ⟨x, c, rfl, S1, hb⟩
  replace A := hide (A.out.after hb rfl)
  replace C := hide (C.out.after hb rfl)
  replace D := hide (D.out.after hb rfl)
  replace B := hide (bOn B.out hb)
  clear hb a0 a1 a2 a3 c0 c1 c2 c3 d0 d1 d2 d3
  obtain ⟨_, a0, a1, a2, a3, _⟩ := A.out.own
  obtain ⟨_, c0, c1, c2, c3, _⟩ := C.out.own
  obtain ⟨_, d0, d1, d2, d3, _⟩ := D.out.own
  go_wp2_with fail
  refine (mul_div_up a b d _ HA.out HB.out HD.out).mono ?_
  rintro e w3 ⟨y, f, rfl, S2, hb⟩
  have X := hide (((LRow.new4 w2 (lm x 0) (lm x 1) (lm x 2) (lm x 3) 24 rfl).congr (lit_lm4 x)).after hb rfl)
  replace A := hide ((A.out.past (.cells #[.int .u64 (lm x 0), .int .u64 (lm x 1), .int .u64 (lm x 2), .int .u64 (lm x 3)] 24)).after hb rfl)
  replace C := hide ((C.out.past (.cells #[.int .u64 (lm x 0), .int .u64 (lm x 1), .int .u64 (lm x 2), .int .u64 (lm x 3)] 24)).after hb rfl)
  replace D := hide ((D.out.past (.cells #[.int .u64 (lm x 0), .int .u64 (lm x 1), .int .u64 (lm x 2), .int .u64 (lm x 3)] 24)).after hb rfl)
  replace B := hide (bOn (bAl B.out) hb)
  clear hb a0 a1 a2 a3 c0 c1 c2 c3 d0 d1 d2 d3
  obtain ⟨_, a0, a1, a2, a3, _⟩ := A.out.own
  obtain ⟨_, c0, c1, c2, c3, _⟩ := C.out.own
  obtain ⟨_, d0, d1, d2, d3, _⟩ := D.out.own
  go_wp2_with fail
  refine (ref3_down a b d _ HA.out HB.out HD.out).mono ?_
  rintro e w4 ⟨v, g, rfl, S3, hb⟩
  have Y := hide (((LRow.new4 w3 (lm y 0) (lm y 1) (lm y 2) (lm y 3) 24 rfl).congr (lit_lm4 y)).after hb rfl)
  replace A := hide ((A.out.past (.cells #[.int .u64 (lm y 0), .int .u64 (lm y 1), .int .u64 (lm y 2), .int .u64 (lm y 3)] 24)).after hb rfl)
  replace C := hide ((C.out.past (.cells #[.int .u64 (lm y 0), .int .u64 (lm y 1), .int .u64 (lm y 2), .int .u64 (lm y 3)] 24)).after hb rfl)
  replace D := hide ((D.out.past (.cells #[.int .u64 (lm y 0), .int .u64 (lm y 1), .int .u64 (lm y 2), .int .u64 (lm y 3)] 24)).after hb rfl)
  replace X := hide ((X.out.past (.cells #[.int .u64 (lm y 0), .int .u64 (lm y 1), .int .u64 (lm y 2), .int .u64 (lm y 3)] 24)).after hb rfl)
  replace B := hide (bOn (bAl B.out) hb)
  clear hb a0 a1 a2 a3 c0 c1 c2 c3 d0 d1 d2 d3
  obtain ⟨rfl, rfl⟩ := Sp.one S1.out S3.out
  obtain ⟨_, a0, a1, a2, a3, _⟩ := A.out.own
  obtain ⟨_, c0, c1, c2, c3, _⟩ := C.out.own
  obtain ⟨_, d0, d1, d2, d3, _⟩ := D.out.own
  go_wp2_with fail
  refine (ref3_up a b d _ HA.out HB.out HD.out).mono ?_
  rintro e w5 ⟨u, h, rfl, S4, hb⟩
  have V := hide (((LRow.new4 w4 (lm x 0) (lm x 1) (lm x 2) (lm x 3) 24 rfl).congr (lit_lm4 x)).after hb rfl)
  replace A := hide ((A.out.past (.cells #[.int .u64 (lm x 0), .int .u64 (lm x 1), .int .u64 (lm x 2), .int .u64 (lm x 3)] 24)).after hb rfl)
  replace C := hide ((C.out.past (.cells #[.int .u64 (lm x 0), .int .u64 (lm x 1), .int .u64 (lm x 2), .int .u64 (lm x 3)] 24)).after hb rfl)
  replace D := hide ((D.out.past (.cells #[.int .u64 (lm x 0), .int .u64 (lm x 1), .int .u64 (lm x 2), .int .u64 (lm x 3)] 24)).after hb rfl)
  replace X := hide ((X.out.past (.cells #[.int .u64 (lm x 0), .int .u64 (lm x 1), .int .u64 (lm x 2), .int .u64 (lm x 3)] 24)).after hb rfl)
  replace Y := hide ((Y.out.past (.cells #[.int .u64 (lm x 0), .int .u64 (lm x 1), .int .u64 (lm x 2), .int .u64 (lm x 3)] 24)).after hb rfl)
  replace B := hide (bOn (bAl B.out) hb)
  clear hb a0 a1 a2 a3 c0 c1 c2 c3 d0 d1 d2 d3
  obtain ⟨rfl, rfl⟩ := Sp.one S2.out S4.out
  have s1 := same4_self x
  have s2 := same4_self y
  obtain ⟨_, x0, x1, x2, x3, _⟩ := X.out.own
  obtain ⟨_, y0, y1, y2, y3, _⟩ := Y.out.own
  obtain ⟨_, v0, v1, v2, v3, _⟩ := V.out.own
  go_wp2
  go_ret
  exact ⟨rfl, bAl B.out⟩
theorem wideMulDivs_walk (a0 a1 a2 a3 b0 b1 b2 b3 d0 d1 d2 d3 : Int) (ua0 : (Lit.int .u64 a0).wf = true) (ua1 : (Lit.int .u64 a1).wf = true) (ua2 : (Lit.int .u64 a2).wf = true) (ua3 : (Lit.int .u64 a3).wf = true) (ub0 : (Lit.int .u64 b0).wf = true) (ub1 : (Lit.int .u64 b1).wf = true) (ub2 : (Lit.int .u64 b2).wf = true) (ub3 : (Lit.int .u64 b3).wf = true) (ud0 : (Lit.int .u64 d0).wf = true) (ud1 : (Lit.int .u64 d1).wf = true) (ud2 : (Lit.int .u64 d2).wf = true) (ud3 : (Lit.int .u64 d3).wf = true) (w : World) :
    Calls Try.prog 5 #[.agg #[.int .u64 a0, .int .u64 a1, .int .u64 a2, .int .u64 a3], .agg #[.int .u64 b0, .int .u64 b1, .int .u64 b2, .int .u64 b3], .agg #[.int .u64 d0, .int .u64 d1, .int .u64 d2, .int .u64 d3]] w fun e w' => e = .returned (.bool true) ∧ Below w.heap.size w w' := by
  rw [big_four ua0 ua1 ua2 ua3, big_four ub0 ub1 ub2 ub3, big_four ud0 ud1 ud2 ud3]
  exact wideMulDivs_big _ _ _ w (in_four ua0 ua1 ua2 ua3) (in_four ub0 ub1 ub2 ub3) (in_four ud0 ud1 ud2 ud3)
end Go.Proofs.Ytlmjbpmpedlhlaa
