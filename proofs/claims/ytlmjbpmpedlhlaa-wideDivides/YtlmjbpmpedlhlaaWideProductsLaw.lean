/- The walk of WideProducts over this translation. -/
import Derived.Test.YtlmjbpmpedlhlaaWideLaw
import Derived.Deep.RegionHeld3
namespace Go.Proofs.Ytlmjbpmpedlhlaa
open Go.RowKit Go.Lib
attribute [local go_sem] setCell_drewN alloc_drewN eqInt eqWide

theorem product_p {a b P : Int} (w : World) (ha : In a) (hb : In b) (hP : a * b = P) :
    Calls Try.prog 8 #[big a, big b] w fun e w' => e = .returned (wid P) ∧ Below w.heap.size w w' := by
  rw [← hP]; exact product_any a b w ha hb
theorem cmp_eq {ao bo : Option Addr} {n m cap cap' : Nat} {A : Int} {L M : Nat} {w : World} (hx : Num w ao n cap A L) (hy : Num w bo m cap' A M) :
    Calls Try.prog 9 #[.slice ao n cap, .slice bo m cap'] w fun e w' => e = .returned (.int .i64 0) ∧ w' = w := by
  refine (cmp_num hx hy).mono ?_
  rintro e w' ⟨⟨c, rfl, h⟩, hw⟩
  refine ⟨ret_i64 ?_, hw⟩
  omega
theorem same8_self (P : Int) : same8 (lm P 0) (lm P 1) (lm P 2) (lm P 3) (lm P 4) (lm P 5) (lm P 6) (lm P 7) (lm P 0) (lm P 1) (lm P 2) (lm P 3) (lm P 4) (lm P 5) (lm P 6) (lm P 7) = true := by unfold same8; simp
theorem held16 {w : World} {g0 g1 g2 : Nat} {x0 x1 x2 : Int} (H0 : LRow w g0 4 (lm x0)) (H1 : LRow w g1 4 (lm x1)) (H2 : LRow w g2 8 (lm x2)) : w.cell? ⟨g0, 0, none⟩ = some (.int .u64 (lm x0 0)) ∧ w.cell? ⟨g0, 1, none⟩ = some (.int .u64 (lm x0 1)) ∧ w.cell? ⟨g0, 2, none⟩ = some (.int .u64 (lm x0 2)) ∧ w.cell? ⟨g0, 3, none⟩ = some (.int .u64 (lm x0 3)) ∧ w.cell? ⟨g1, 0, none⟩ = some (.int .u64 (lm x1 0)) ∧ w.cell? ⟨g1, 1, none⟩ = some (.int .u64 (lm x1 1)) ∧ w.cell? ⟨g1, 2, none⟩ = some (.int .u64 (lm x1 2)) ∧ w.cell? ⟨g1, 3, none⟩ = some (.int .u64 (lm x1 3)) ∧ w.cell? ⟨g2, 0, none⟩ = some (.int .u64 (lm x2 0)) ∧ w.cell? ⟨g2, 1, none⟩ = some (.int .u64 (lm x2 1)) ∧ w.cell? ⟨g2, 2, none⟩ = some (.int .u64 (lm x2 2)) ∧ w.cell? ⟨g2, 3, none⟩ = some (.int .u64 (lm x2 3)) ∧ w.cell? ⟨g2, 4, none⟩ = some (.int .u64 (lm x2 4)) ∧ w.cell? ⟨g2, 5, none⟩ = some (.int .u64 (lm x2 5)) ∧ w.cell? ⟨g2, 6, none⟩ = some (.int .u64 (lm x2 6)) ∧ w.cell? ⟨g2, 7, none⟩ = some (.int .u64 (lm x2 7)) :=
  ⟨H0.cell 0 (by omega), H0.cell 1 (by omega), H0.cell 2 (by omega), H0.cell 3 (by omega), H1.cell 0 (by omega), H1.cell 1 (by omega), H1.cell 2 (by omega), H1.cell 3 (by omega), H2.cell 0 (by omega), H2.cell 1 (by omega), H2.cell 2 (by omega), H2.cell 3 (by omega), H2.cell 4 (by omega), H2.cell 5 (by omega), H2.cell 6 (by omega), H2.cell 7 (by omega)⟩

set_option maxHeartbeats 4000000 in
theorem wideProducts_big (a b : Int) (w : World) (ha : In a) (hb : In b) :
    Calls Try.prog 3 #[big a, big b] w fun e w' => e = .returned (.bool true) ∧ Below w.heap.size w w' := by
  have HA := hide ha; have HB := hide hb
  have HW := hide (product_wd ha hb)
  obtain ⟨P, hP⟩ : ∃ P, Hid (a * b = P) := ⟨_, rfl⟩
  rw [hP.out] at HW
  clear ha hb
  go_enter Try.func3, Try.ntmps3
  go_wp2_with fail
  refine (lives3_any _).mono ?_
  rintro e w1 ⟨rfl, hb1⟩
  have A := hide ((((LRow.new4 w (lm a 0) (lm a 1) (lm a 2) (lm a 3) 24 (g := w.heap.size) (by simp)).congr (lit_lm4 a)).past (.cells #[.int .u64 (lm b 0), .int .u64 (lm b 1), .int .u64 (lm b 2), .int .u64 (lm b 3)] 24)).after hb1 rfl)
  have C := hide (((LRow.new4 (w.alloc (.cells #[.int .u64 (lm a 0), .int .u64 (lm a 1), .int .u64 (lm a 2), .int .u64 (lm a 3)] 24)) (lm b 0) (lm b 1) (lm b 2) (lm b 3) 24 (g := w.heap.size + 1) (by simp)).congr (lit_lm4 b)).after hb1 rfl)
  have B := hide (bOn (bAl (bAl (bMe w))) hb1)
  clear hb1
  obtain ⟨_, a0, a1, a2, a3, _⟩ := A.out.own
  obtain ⟨_, c0, c1, c2, c3, _⟩ := C.out.own
  go_wp2_with fail
  refine (product_p (P := P) _ HA.out HB.out hP.out).mono ?_
  rintro e w2 ⟨rfl, hb2⟩
  replace A := hide (A.out.after hb2 rfl)
  replace C := hide (C.out.after hb2 rfl)
  replace B := hide (bOn B.out hb2)
  clear a0 a1 a2 a3 c0 c1 c2 c3 hb2
  go_wp2_with fail
  obtain ⟨gp, hgp⟩ : ∃ g, Hid (w2.heap.size = g) := ⟨_, rfl⟩
  have G := hide ((LRow.new8 w2 (lm P 0) (lm P 1) (lm P 2) (lm P 3) (lm P 4) (lm P 5) (lm P 6) (lm P 7) 27 hgp.out).congr (lit_lm8 P))
  replace A := hide (A.out.past (.cells #[.int .u64 (lm P 0), .int .u64 (lm P 1), .int .u64 (lm P 2), .int .u64 (lm P 3), .int .u64 (lm P 4), .int .u64 (lm P 5), .int .u64 (lm P 6), .int .u64 (lm P 7)] 27))
  replace C := hide (C.out.past (.cells #[.int .u64 (lm P 0), .int .u64 (lm P 1), .int .u64 (lm P 2), .int .u64 (lm P 3), .int .u64 (lm P 4), .int .u64 (lm P 5), .int .u64 (lm P 6), .int .u64 (lm P 7)] 27))
  replace B := hide (bAl (o := .cells #[.int .u64 (lm P 0), .int .u64 (lm P 1), .int .u64 (lm P 2), .int .u64 (lm P 3), .int .u64 (lm P 4), .int .u64 (lm P 5), .int .u64 (lm P 6), .int .u64 (lm P 7)] 27) B.out)
  rw [hgp.out]
  generalize w2.alloc (.cells #[.int .u64 (lm P 0), .int .u64 (lm P 1), .int .u64 (lm P 2), .int .u64 (lm P 3), .int .u64 (lm P 4), .int .u64 (lm P 5), .int .u64 (lm P 6), .int .u64 (lm P 7)] 27) = w3 at *
  clear hgp
  have s8 := same8_self P
  go_region_held3 (fun w' => w'.cell? ⟨w.heap.size, 0, none⟩ = some (.int .u64 (lm a 0)) ∧ w'.cell? ⟨w.heap.size, 1, none⟩ = some (.int .u64 (lm a 1)) ∧ w'.cell? ⟨w.heap.size, 2, none⟩ = some (.int .u64 (lm a 2)) ∧ w'.cell? ⟨w.heap.size, 3, none⟩ = some (.int .u64 (lm a 3)) ∧ w'.cell? ⟨w.heap.size + 1, 0, none⟩ = some (.int .u64 (lm b 0)) ∧ w'.cell? ⟨w.heap.size + 1, 1, none⟩ = some (.int .u64 (lm b 1)) ∧ w'.cell? ⟨w.heap.size + 1, 2, none⟩ = some (.int .u64 (lm b 2)) ∧ w'.cell? ⟨w.heap.size + 1, 3, none⟩ = some (.int .u64 (lm b 3)) ∧ w'.cell? ⟨gp, 0, none⟩ = some (.int .u64 (lm P 0)) ∧ w'.cell? ⟨gp, 1, none⟩ = some (.int .u64 (lm P 1)) ∧ w'.cell? ⟨gp, 2, none⟩ = some (.int .u64 (lm P 2)) ∧ w'.cell? ⟨gp, 3, none⟩ = some (.int .u64 (lm P 3)) ∧ w'.cell? ⟨gp, 4, none⟩ = some (.int .u64 (lm P 4)) ∧ w'.cell? ⟨gp, 5, none⟩ = some (.int .u64 (lm P 5)) ∧ w'.cell? ⟨gp, 6, none⟩ = some (.int .u64 (lm P 6)) ∧ w'.cell? ⟨gp, 7, none⟩ = some (.int .u64 (lm P 7))) (first | with_reducible exact held16 A.out C.out G.out | with_reducible exact held16 A.out.drew C.out.drew G.out.drew)
    (first | (go_at_call 8; refine (product_p (P := P) _ HB.out HA.out ((Int.mul_comm b a).trans hP.out)).mono ?_; rintro e w4 ⟨rfl, hb4⟩; replace A := hide (A.out.after hb4 rfl); replace C := hide (C.out.after hb4 rfl); replace G := hide (G.out.after hb4 rfl); (try replace NX := hide (NX.out.below hb4)); (try replace NY := hide (NY.out.below hb4)); (try replace NM := hide (NM.out.below hb4)); (try replace NP := hide (NP.out.below hb4)); replace B := hide (by first | exact bOn B.out hb4 | exact bOn B.out.drew hb4); clear hb4) | (go_at_call 10; refine (row3_any P _ HW.out).mono ?_; rintro e w5 ⟨po, pn, pc, rfl, np, hb5⟩; replace A := hide (A.out.after hb5 rfl); replace C := hide (C.out.after hb5 rfl); replace G := hide (G.out.after hb5 rfl); (try replace NX := hide (NX.out.below hb5)); (try replace NY := hide (NY.out.below hb5)); (try replace NM := hide (NM.out.below hb5)); (try replace NP := hide (NP.out.below hb5)); replace B := hide (by first | exact bOn B.out hb5 | exact bOn B.out.drew hb5); clear hb5; have NP := hide np; clear np) | (go_at_call_of 12 (Value.agg #[.int .u64 (lm a 0), .int .u64 (lm a 1), .int .u64 (lm a 2), .int .u64 (lm a 3)]); refine (row_of a _ HA.out).mono ?_; rintro e w6 ⟨xo, xn, xc, rfl, nx, hb6⟩; replace A := hide (A.out.after hb6 rfl); replace C := hide (C.out.after hb6 rfl); replace G := hide (G.out.after hb6 rfl); (try replace NX := hide (NX.out.below hb6)); (try replace NY := hide (NY.out.below hb6)); (try replace NM := hide (NM.out.below hb6)); (try replace NP := hide (NP.out.below hb6)); replace B := hide (by first | exact bOn B.out hb6 | exact bOn B.out.drew hb6); clear hb6; have NX := hide nx; clear nx) | (go_at_call_of 12 (Value.agg #[.int .u64 (lm b 0), .int .u64 (lm b 1), .int .u64 (lm b 2), .int .u64 (lm b 3)]); refine (row_of b _ HB.out).mono ?_; rintro e w7 ⟨yo, yn, yc, rfl, ny, hb7⟩; replace A := hide (A.out.after hb7 rfl); replace C := hide (C.out.after hb7 rfl); replace G := hide (G.out.after hb7 rfl); (try replace NX := hide (NX.out.below hb7)); (try replace NY := hide (NY.out.below hb7)); (try replace NM := hide (NM.out.below hb7)); (try replace NP := hide (NP.out.below hb7)); replace B := hide (by first | exact bOn B.out hb7 | exact bOn B.out.drew hb7); clear hb7; have NY := hide ny; clear ny) | (go_at_call 11; refine (mul_any NX.out NY.out (by omega)).mono ?_; rintro e w8 ⟨zo, zn, zc, rfl, nz, hb8⟩; rw [hP.out] at nz; replace A := hide (A.out.after hb8 rfl); replace C := hide (C.out.after hb8 rfl); replace G := hide (G.out.after hb8 rfl); (try replace NX := hide (NX.out.below hb8)); (try replace NY := hide (NY.out.below hb8)); (try replace NM := hide (NM.out.below hb8)); (try replace NP := hide (NP.out.below hb8)); replace B := hide (by first | exact bOn B.out hb8 | exact bOn B.out.drew hb8); clear hb8; have NM := hide nz; clear nz) | (go_at_call 9; refine (cmp_eq NP.out NM.out).mono ?_; rintro e w9 ⟨rfl, rfl⟩))
  all_goals
    go_wp2
    go_ret
    exact ⟨rfl, B.out⟩
theorem wideProducts_walk (a0 a1 a2 a3 b0 b1 b2 b3 : Int) (u0 : (Lit.int .u64 a0).wf = true) (u1 : (Lit.int .u64 a1).wf = true) (u2 : (Lit.int .u64 a2).wf = true) (u3 : (Lit.int .u64 a3).wf = true) (v0 : (Lit.int .u64 b0).wf = true) (v1 : (Lit.int .u64 b1).wf = true) (v2 : (Lit.int .u64 b2).wf = true) (v3 : (Lit.int .u64 b3).wf = true) (w : World) :
    Calls Try.prog 3 #[.agg #[.int .u64 a0, .int .u64 a1, .int .u64 a2, .int .u64 a3], .agg #[.int .u64 b0, .int .u64 b1, .int .u64 b2, .int .u64 b3]] w fun e w' => e = .returned (.bool true) ∧ Below w.heap.size w w' := by
  rw [big_four u0 u1 u2 u3, big_four v0 v1 v2 v3]
  exact wideProducts_big _ _ w (in_four u0 u1 u2 u3) (in_four v0 v1 v2 v3)
end Go.Proofs.Ytlmjbpmpedlhlaa
