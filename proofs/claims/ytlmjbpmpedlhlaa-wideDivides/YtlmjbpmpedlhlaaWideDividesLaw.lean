/- The walk of WideDivides over this translation. -/
import Derived.Test.YtlmjbpmpedlhlaaWideLaw
import Derived.Deep.RegionHeld3
import Derived.Test.YtlmjbpmpedlhlaaRef3
import Derived.Test.YtlmjbpmpedlhlaaWideProductsLaw
namespace Go.Proofs.Ytlmjbpmpedlhlaa
open Go.RowKit Go.Lib
attribute [local go_sem] setCell_drewN alloc_drewN eqInt eqWide

theorem same8_null : same8 (lm 0 0) (lm 0 1) (lm 0 2) (lm 0 3) (lm 0 4) (lm 0 5) (lm 0 6) (lm 0 7) 0 0 0 0 0 0 0 0 = true := by simp only [lm_zero]; rfl
theorem wid_eight {n0 n1 n2 n3 n4 n5 n6 n7 : Int} (h0 : (Lit.int .u64 n0).wf = true) (h1 : (Lit.int .u64 n1).wf = true) (h2 : (Lit.int .u64 n2).wf = true) (h3 : (Lit.int .u64 n3).wf = true) (h4 : (Lit.int .u64 n4).wf = true) (h5 : (Lit.int .u64 n5).wf = true) (h6 : (Lit.int .u64 n6).wf = true) (h7 : (Lit.int .u64 n7).wf = true) :
    ∃ N, Wd N ∧ Value.agg #[.int .u64 n0, .int .u64 n1, .int .u64 n2, .int .u64 n3, .int .u64 n4, .int .u64 n5, .int .u64 n6, .int .u64 n7] = wid N := by
  have L := lit8_lim (lim_of h0) (lim_of h1) (lim_of h2) (lim_of h3) (lim_of h4) (lim_of h5) (lim_of h6) (lim_of h7)
  exact ⟨_, vl_bd L 8, wid_of L rfl⟩

set_option maxHeartbeats 4000000 in
theorem wideDivides_big (N d : Int) (w : World) (hN : Wd N) (hd : In d) :
    Calls Try.prog 4 #[wid N, big d] w fun e w' => e = .returned (.bool true) ∧ Below w.heap.size w w' := by
  have HN := hide hN; have HD := hide hd
  clear hN hd
  go_enter Try.func4, Try.ntmps4
  go_wp2_with fail
  refine (lives3_any _).mono ?_
  rintro e w1 ⟨rfl, hb1⟩
  have A := hide ((((LRow.new8 w (lm N 0) (lm N 1) (lm N 2) (lm N 3) (lm N 4) (lm N 5) (lm N 6) (lm N 7) 27 (g := w.heap.size) (by simp)).congr (lit_lm8 N)).past (.cells #[.int .u64 (lm d 0), .int .u64 (lm d 1), .int .u64 (lm d 2), .int .u64 (lm d 3)] 24)).after hb1 rfl)
  have D := hide (((LRow.new4 (w.alloc (.cells #[.int .u64 (lm N 0), .int .u64 (lm N 1), .int .u64 (lm N 2), .int .u64 (lm N 3), .int .u64 (lm N 4), .int .u64 (lm N 5), .int .u64 (lm N 6), .int .u64 (lm N 7)] 27)) (lm d 0) (lm d 1) (lm d 2) (lm d 3) 24 (g := w.heap.size + 1) (by simp)).congr (lit_lm4 d)).after hb1 rfl)
  have B := hide (bOn (bAl (bAl (bMe w))) hb1)
  clear hb1
  have al := A.out.lt; have a0 := A.out.cell 0 (by omega); have a1 := A.out.cell 1 (by omega); have a2 := A.out.cell 2 (by omega); have a3 := A.out.cell 3 (by omega); have a4 := A.out.cell 4 (by omega); have a5 := A.out.cell 5 (by omega); have a6 := A.out.cell 6 (by omega); have a7 := A.out.cell 7 (by omega)
  obtain ⟨dl, d0, d1, d2, d3, _⟩ := D.out.own
  go_wp2_with fail
  refine (divide_any N d _ HN.out HD.out).mono ?_
  rintro e w2 ⟨q, r, c, rfl, DD, hb2⟩
  replace A := hide (A.out.after hb2 rfl)
  replace D := hide (D.out.after hb2 rfl)
  replace B := hide (bOn B.out hb2)
  clear hb2 al a0 a1 a2 a3 a4 a5 a6 a7 dl d0 d1 d2 d3
  obtain ⟨dl, d0, d1, d2, d3, _⟩ := D.out.own
  have dl2 : w.heap.size + 1 < w2.heap.size + 1 := by omega
  have dn1 : ¬ w.heap.size + 1 = w2.heap.size := by omega
  have dn2 : ¬ w.heap.size + 1 = w2.heap.size + 1 := by omega
  go_wp2_with fail
  refine (row_of d _ HD.out).mono ?_
  rintro e w3 ⟨yo, yn, yc, rfl, ny, hb3⟩
  have Qb := hide ((((LRow.new8 w2 (lm q 0) (lm q 1) (lm q 2) (lm q 3) (lm q 4) (lm q 5) (lm q 6) (lm q 7) 27 rfl).congr (lit_lm8 q)).past (.cells #[.int .u64 (lm r 0), .int .u64 (lm r 1), .int .u64 (lm r 2), .int .u64 (lm r 3)] 24)).after hb3 rfl)
  have Rb := hide (((LRow.new4 (w2.alloc (.cells #[.int .u64 (lm q 0), .int .u64 (lm q 1), .int .u64 (lm q 2), .int .u64 (lm q 3), .int .u64 (lm q 4), .int .u64 (lm q 5), .int .u64 (lm q 6), .int .u64 (lm q 7)] 27)) (lm r 0) (lm r 1) (lm r 2) (lm r 3) 24 (g := w2.heap.size + 1) (by simp)).congr (lit_lm4 r)).after hb3 rfl)
  replace A := hide (((A.out.past (.cells #[.int .u64 (lm q 0), .int .u64 (lm q 1), .int .u64 (lm q 2), .int .u64 (lm q 3), .int .u64 (lm q 4), .int .u64 (lm q 5), .int .u64 (lm q 6), .int .u64 (lm q 7)] 27)).past (.cells #[.int .u64 (lm r 0), .int .u64 (lm r 1), .int .u64 (lm r 2), .int .u64 (lm r 3)] 24)).after hb3 rfl)
  replace B := hide (bOn (bAl (bAl B.out)) hb3)
  have hz := ny.empty
  have ND := hide ny
  clear hb3 ny dl2 dn1 dn2 dl d0 d1 d2 d3 D
  generalize w2.heap.size = gq at *
  by_cases h0 : d = 0
  · obtain rfl : yn = 0 := hz.2 h0
    rcases DD.out with ⟨_, hq, hr, rfl⟩ | ⟨h1, _⟩
    · have sq : same8 (lm q 0) (lm q 1) (lm q 2) (lm q 3) (lm q 4) (lm q 5) (lm q 6) (lm q 7) 0 0 0 0 0 0 0 0 = true := by rw [hq]; exact same8_null
      have sr : same4 (lm r 0) (lm r 1) (lm r 2) (lm r 3) 0 0 0 0 = true := by rw [hr]; exact same_null
      clear h0 hq hr hz
      have ql := Qb.out.lt; have q0 := Qb.out.cell 0 (by omega); have q1 := Qb.out.cell 1 (by omega); have q2 := Qb.out.cell 2 (by omega); have q3 := Qb.out.cell 3 (by omega); have q4 := Qb.out.cell 4 (by omega); have q5 := Qb.out.cell 5 (by omega); have q6 := Qb.out.cell 6 (by omega); have q7 := Qb.out.cell 7 (by omega)
      obtain ⟨rl, r0, r1, r2, r3, _⟩ := Rb.out.own
      go_wp2
      go_ret
      exact ⟨rfl, B.out⟩
    · exact absurd h0 h1
  · have hy : ¬ yn = 0 := fun e => h0 (hz.1 e)
    rcases DD.out with ⟨h1, _⟩ | ⟨_, hq, hr, rfl⟩
    · exact absurd h1 h0
    have hdp : 0 < d := by have h1 := HD.out; unfold In at h1; omega
    have WQ : Hid (Wd q) := by
      rw [hq]
      exact ⟨Int.ediv_nonneg HN.out.1 (Int.le_of_lt hdp), Int.lt_of_le_of_lt (Int.ediv_le_self _ HN.out.1) HN.out.2⟩
    have IR : Hid (In r) := by
      have b0 := Int.emod_nonneg N h0
      have b1 := Int.emod_lt_of_pos N hdp
      have h1 := HD.out
      rw [hr]
      unfold In at h1
      show In _
      unfold In
      omega
    have HQ := hide hq; have HR := hide hr; have HP := hide hdp
    clear hq hr hdp h0 hz DD
    have al := A.out.lt; have a0 := A.out.cell 0 (by omega); have a1 := A.out.cell 1 (by omega); have a2 := A.out.cell 2 (by omega); have a3 := A.out.cell 3 (by omega); have a4 := A.out.cell 4 (by omega); have a5 := A.out.cell 5 (by omega); have a6 := A.out.cell 6 (by omega); have a7 := A.out.cell 7 (by omega)
    go_wp2_with fail
    refine (row3_any N _ HN.out).mono ?_
    rintro e w4 ⟨no, nn, nc, rfl, nn', hb4⟩
    have NN := hide nn'
    replace ND := hide (ND.out.below hb4)
    replace Qb := hide (Qb.out.after hb4 rfl)
    replace Rb := hide (Rb.out.after hb4 rfl)
    replace B := hide (bOn B.out hb4)
    clear hb4 nn' al a0 a1 a2 a3 a4 a5 a6 a7 A
    go_wp2_with fail
    refine (div_any NN.out ND.out HP.out (by omega) (by omega)).mono ?_
    rintro e w5 ⟨vo, vn, vc, uo, un, uc, rfl, nv, nu, hb5⟩
    rw [← HQ.out] at nv
    rw [← HR.out] at nu
    have NV := hide nv; have NU := hide nu
    replace Qb := hide (Qb.out.after hb5 rfl)
    replace Rb := hide (Rb.out.after hb5 rfl)
    replace B := hide (bOn B.out hb5)
    clear hb5 nv nu NN ND
    have ql := Qb.out.lt; have q0 := Qb.out.cell 0 (by omega); have q1 := Qb.out.cell 1 (by omega); have q2 := Qb.out.cell 2 (by omega); have q3 := Qb.out.cell 3 (by omega); have q4 := Qb.out.cell 4 (by omega); have q5 := Qb.out.cell 5 (by omega); have q6 := Qb.out.cell 6 (by omega); have q7 := Qb.out.cell 7 (by omega)
    go_wp2_with fail
    refine (row3_any q _ WQ.out).mono ?_
    rintro e w6 ⟨ko, kn, kc, rfl, nk, hb6⟩
    have NK := hide nk
    replace NV := hide (NV.out.below hb6); replace NU := hide (NU.out.below hb6)
    replace Rb := hide (Rb.out.after hb6 rfl)
    replace B := hide (bOn B.out hb6)
    clear hb6 nk ql q0 q1 q2 q3 q4 q5 q6 q7 Qb
    go_wp2_with fail
    refine (cmp_eq NK.out NV.out).mono ?_
    rintro e w7 ⟨rfl, rfl⟩
    obtain ⟨rl, r0, r1, r2, r3, _⟩ := Rb.out.own
    go_wp2_with fail
    refine (row_of r _ IR.out).mono ?_
    rintro e w8 ⟨mo, mn, mc, rfl, nm, hb8⟩
    have NM := hide nm
    replace NU := hide (NU.out.below hb8)
    replace B := hide (bOn B.out hb8)
    clear hb8 nm rl r0 r1 r2 r3
    go_wp2_with fail
    refine (cmp_eq NM.out NU.out).mono ?_
    rintro e w9 ⟨rfl, rfl⟩
    go_wp2
    go_ret
    exact ⟨rfl, B.out⟩
theorem wideDivides_walk (n0 n1 n2 n3 n4 n5 n6 n7 d0 d1 d2 d3 : Int) (u0 : (Lit.int .u64 n0).wf = true) (u1 : (Lit.int .u64 n1).wf = true) (u2 : (Lit.int .u64 n2).wf = true) (u3 : (Lit.int .u64 n3).wf = true) (u4 : (Lit.int .u64 n4).wf = true) (u5 : (Lit.int .u64 n5).wf = true) (u6 : (Lit.int .u64 n6).wf = true) (u7 : (Lit.int .u64 n7).wf = true) (v0 : (Lit.int .u64 d0).wf = true) (v1 : (Lit.int .u64 d1).wf = true) (v2 : (Lit.int .u64 d2).wf = true) (v3 : (Lit.int .u64 d3).wf = true) (w : World) :
    Calls Try.prog 4 #[.agg #[.int .u64 n0, .int .u64 n1, .int .u64 n2, .int .u64 n3, .int .u64 n4, .int .u64 n5, .int .u64 n6, .int .u64 n7], .agg #[.int .u64 d0, .int .u64 d1, .int .u64 d2, .int .u64 d3]] w fun e w' => e = .returned (.bool true) ∧ Below w.heap.size w w' := by
  obtain ⟨N, hN, e⟩ := wid_eight u0 u1 u2 u3 u4 u5 u6 u7
  rw [e, big_four v0 v1 v2 v3]
  exact wideDivides_big _ _ w hN (in_four v0 v1 v2 v3)
end Go.Proofs.Ytlmjbpmpedlhlaa
