/- The walk of HugeMuls over this translation. -/
import Derived.Test.YtnpffefebghnbaaHugeAddsLaw
import Derived.Test.YtnpffefebghnbaaHugeShort
import Derived.Test.YtnpffefebghnbaaRef1Div
namespace Go.Proofs.Ytnpffefebghnbaa
open Go.RowKit Go.Lib
attribute [local go_sem] setCell_drewN alloc_drewN eqInt

theorem huge_mul_any (a b : Int) (w : World) (ha : In a) (hb : In b) :
    Calls Try.prog 18 #[big a, big b] w fun e w' => ∃ s c, e = .returned (.tuple #[big s, .int .i64 c]) ∧ ((In (a * b) ∧ s = a * b ∧ c = 0) ∨ (¬ In (a * b) ∧ s = 0 ∧ c = 2)) ∧ Below w.heap.size w w' := by
  by_cases h : In (a * b)
  · refine (huge_mul_ok a b w ha hb h).mono ?_
    rintro e w' ⟨rfl, hw⟩
    exact ⟨_, _, rfl, .inl ⟨h, rfl, rfl⟩, hw⟩
  · refine (huge_mul_over a b w ha hb h).mono ?_
    rintro e w' ⟨rfl, hw⟩
    exact ⟨_, _, rfl, .inr ⟨h, rfl, rfl⟩, hw⟩
theorem short_x (a y : Int) (w : World) (ha : In a) (hy0 : 0 ≤ y) (hy1 : y < 18446744073709551616) :
    Calls Try.prog 19 #[big a, .int .u64 y] w fun e w' => ∃ q r f, e = .returned (.tuple #[big q, .int .u64 r, .int .i64 f]) ∧ ((y = 0 ∧ q = 0 ∧ r = 0 ∧ f = 3) ∨ (0 < y ∧ q = a / y ∧ r = a % y ∧ f = 0)) ∧ Below w.heap.size w w' := by
  by_cases h : y = 0
  · subst h
    refine (short_zero a w).mono ?_
    rintro e w' ⟨rfl, hw⟩
    exact ⟨_, _, _, rfl, .inl ⟨rfl, rfl, rfl, rfl⟩, hw⟩
  · refine (short_any a y w ha (by omega) hy1).mono ?_
    rintro e w' ⟨rfl, hw⟩
    exact ⟨_, _, _, rfl, .inr ⟨by omega, rfl, rfl, rfl⟩, hw⟩
theorem in_quot {a y : Int} (ha : In a) (hy : 0 < y) : In (a / y) := by
  unfold In at *
  have h0 := Int.ediv_nonneg ha.1 (Int.le_of_lt hy)
  have h1 := Int.ediv_le_self y ha.1
  omega

set_option maxHeartbeats 4000000 in
theorem hugeMuls_big (a b y : Int) (w : World) (ha : In a) (hb : In b) (hy0 : 0 ≤ y) (hy1 : y < 18446744073709551616) :
    Calls Try.prog 4 #[big a, big b, .int .u64 y] w fun e w' => e = .returned (.bool true) ∧ Below w.heap.size w w' := by
  have HA := hide ha; have HB := hide hb
  clear ha hb
  go_enter Try.func4, Try.ntmps4
  go_wp2_with fail
  refine (lives2_any _).mono ?_
  rintro e w1 ⟨rfl, hb1⟩
  have P := hide (((Own.new w (lm a 0) (lm a 1) (lm a 2) (lm a 3) 24).past _).after hb1 rfl)
  have Q := hide ((Own.new' (w.alloc (.cells #[.int .u64 (lm a 0), .int .u64 (lm a 1), .int .u64 (lm a 2), .int .u64 (lm a 3)] 24)) (g := w.heap.size + 1) (lm b 0) (lm b 1) (lm b 2) (lm b 3) 24 (by simp)).after hb1 rfl)
  have B := hide (bOn (bAl (bAl (bMe w))) hb1)
  clear hb1
  obtain ⟨p5, p0, p1, p2, p3, _⟩ := P.out
  go_wp2_with fail
  refine (row_of a _ HA.out).mono ?_
  rintro e w2 ⟨xo, xn, xc, rfl, nx, hb2⟩
  have NX := hide nx
  replace P := hide (P.out.after hb2 rfl); replace Q := hide (Q.out.after hb2 rfl); replace B := hide (bOn B.out hb2)
  clear hb2 nx p0 p1 p2 p3 p5
  obtain ⟨p5, p0, p1, p2, p3, _⟩ := P.out
  obtain ⟨q5, q0, q1, q2, q3, _⟩ := Q.out
  go_wp2_with fail
  refine (huge_mul_any a b _ HA.out HB.out).mono ?_
  rintro e w3 ⟨s, c, rfl, hs, hb3⟩
  have HS := hide hs
  replace P := hide (P.out.after hb3 rfl); replace Q := hide (Q.out.after hb3 rfl); replace B := hide (bOn B.out hb3)
  replace NX := hide (NX.out.below hb3)
  clear hs hb3 p0 p1 p2 p3 q0 q1 q2 q3 p5 q5
  obtain ⟨p5, p0, p1, p2, p3, _⟩ := P.out
  go_wp2_with fail
  refine (short_x a y _ HA.out hy0 hy1).mono ?_
  rintro e w4 ⟨d, r, f, rfl, hd, hb4⟩
  have HD := hide hd
  replace Q := hide ((Q.out.past _).after hb4 rfl)
  have S := hide ((Own.new w3 (lm s 0) (lm s 1) (lm s 2) (lm s 3) 24).after hb4 rfl)
  replace NX := hide (NX.out.below (bOn (bAl (bMe w3)) hb4))
  replace B := hide (bOn (bAl B.out) hb4)
  clear hd hb4 p0 p1 p2 p3 p5 P
  go_wp2_with fail
  obtain ⟨w5, hw5⟩ : ∃ w5, w5 = w4.alloc (.cells #[.int .u64 (lm d 0), .int .u64 (lm d 1), .int .u64 (lm d 2), .int .u64 (lm d 3)] 24) := ⟨_, rfl⟩
  replace Q := hide (Q.out.past (.cells #[.int .u64 (lm d 0), .int .u64 (lm d 1), .int .u64 (lm d 2), .int .u64 (lm d 3)] 24)); replace S := hide (S.out.past (.cells #[.int .u64 (lm d 0), .int .u64 (lm d 1), .int .u64 (lm d 2), .int .u64 (lm d 3)] 24))
  have D := hide (Own.new w4 (lm d 0) (lm d 1) (lm d 2) (lm d 3) 24)
  replace NX := hide (NX.out.below (bAl (o := (.cells #[.int .u64 (lm d 0), .int .u64 (lm d 1), .int .u64 (lm d 2), .int .u64 (lm d 3)] 24)) (bMe w4)))
  replace B := hide (bAl (o := (.cells #[.int .u64 (lm d 0), .int .u64 (lm d 1), .int .u64 (lm d 2), .int .u64 (lm d 3)] 24)) B.out)
  rw [← hw5] at Q S D NX B
  rw [← hw5]
  clear hw5
  go_region_held3 (fun w' => w'.cell? ⟨w3.heap.size, 0, none⟩ = some (.int .u64 (lm s 0)) ∧ w'.cell? ⟨w3.heap.size, 1, none⟩ = some (.int .u64 (lm s 1)) ∧ w'.cell? ⟨w3.heap.size, 2, none⟩ = some (.int .u64 (lm s 2)) ∧ w'.cell? ⟨w3.heap.size, 3, none⟩ = some (.int .u64 (lm s 3)) ∧ w'.cell? ⟨w.heap.size + 1, 0, none⟩ = some (.int .u64 (lm b 0)) ∧ w'.cell? ⟨w.heap.size + 1, 1, none⟩ = some (.int .u64 (lm b 1)) ∧ w'.cell? ⟨w.heap.size + 1, 2, none⟩ = some (.int .u64 (lm b 2)) ∧ w'.cell? ⟨w.heap.size + 1, 3, none⟩ = some (.int .u64 (lm b 3))) (exact ⟨S.out.c0, S.out.c1, S.out.c2, S.out.c3, Q.out.c0, Q.out.c1, Q.out.c2, Q.out.c3⟩)
    (first | (go_at_call 10; refine (row_of b _ HB.out).mono ?_; rintro e w6 ⟨yo, yn, yc, rfl, ny, hb6⟩; have NY := hide ny; replace Q := hide (Q.out.after hb6 rfl); replace S := hide (S.out.after hb6 rfl); replace D := hide (D.out.after hb6 rfl); replace B := hide (by first | exact bOn B.out hb6 | exact bOn B.out.drew hb6); replace NX := hide (NX.out.below (bOn (bMe _).drew hb6)); clear hb6 ny) | (go_at_call 20; refine (mul_any NX.out NY.out (by omega)).mono ?_; rintro e w7 ⟨zo, zn, zc, rfl, nz, hb7⟩; have NZ := hide nz; replace Q := hide (Q.out.after hb7 rfl); replace S := hide (S.out.after hb7 rfl); replace D := hide (D.out.after hb7 rfl); replace B := hide (by first | exact bOn B.out hb7 | exact bOn B.out.drew hb7); replace NX := hide (NX.out.below hb7); clear hb7 nz) | (go_at_call 14; refine (is_any NZ.out HS.out).mono ?_; rintro e w8 ⟨rfl, hb8⟩; replace Q := hide (Q.out.after hb8 rfl); replace S := hide (S.out.after hb8 rfl); replace D := hide (D.out.after hb8 rfl); replace B := hide (by first | exact bOn B.out hb8 | exact bOn B.out.drew hb8); replace NX := hide (NX.out.below hb8); clear hb8))
  rcases HD.out with ⟨rfl, rfl, rfl, rfl⟩ | ⟨hy, e1, e2, rfl⟩
  · have hno := same_nought
    obtain ⟨_, d0, d1, d2, d3, _⟩ := D.out
    go_wp2
    go_ret
    exact ⟨rfl, B.out⟩
  · have hyb : (y == 0) = false := by rw [beq_eq_false_iff_ne]; omega
    have E1 := hide e1; have E2 := hide e2; have HY := hide hy
    clear e1 e2
    have br : 0 ≤ r ∧ r < 18446744073709551616 := by
      rw [E2.out]
      have := Int.emod_nonneg a (show y ≠ 0 by omega)
      have := Int.emod_lt_of_pos a hy
      omega
    go_wp2_with fail
    refine (of_any y _ hy0 hy1).mono ?_
    rintro e w9 ⟨uo, un, uc, rfl, nu, hb9⟩
    have NU := hide nu
    replace D := hide (D.out.after hb9 rfl); replace B := hide (bOn B.out hb9); replace NX := hide (NX.out.below hb9)
    clear nu hb9
    go_wp2_with fail
    refine (div_any NX.out NU.out HY.out (by omega) (by omega)).mono ?_
    rintro e w10 ⟨vo, vn, vc, lo', ln, lc, rfl, nv, nl, hb10⟩
    have NV := hide nv; have NL := hide nl
    replace D := hide (D.out.after hb10 rfl); replace B := hide (bOn B.out hb10)
    clear nv nl hb10
    obtain ⟨_, d0, d1, d2, d3, _⟩ := D.out
    go_wp2_with fail
    refine (is_any NV.out (.inl ⟨in_quot HA.out HY.out, E1.out, rfl⟩)).mono ?_
    rintro e w11 ⟨rfl, hb11⟩
    replace B := hide (bOn B.out hb11); replace NL := hide (NL.out.below hb11)
    clear hb11 d0 d1 d2 d3
    go_wp2_with fail
    refine (of_any r _ br.1 br.2).mono ?_
    rintro e w12 ⟨ro, rn, rc, rfl, nr, hb12⟩
    have NR := hide nr
    replace B := hide (bOn B.out hb12); replace NL := hide (NL.out.below hb12)
    clear hb12 nr
    have hz := sg_eq E2.out
    go_wp2_with fail
    refine (cmp_sg NR.out NL.out).mono ?_
    rintro e w13 ⟨rfl, rfl⟩
    go_wp2
    go_ret
    exact ⟨rfl, B.out⟩
theorem hugeMuls_walk (a0 a1 a2 a3 b0 b1 b2 b3 y : Int) (u0 : (Lit.int .u64 a0).wf = true) (u1 : (Lit.int .u64 a1).wf = true) (u2 : (Lit.int .u64 a2).wf = true) (u3 : (Lit.int .u64 a3).wf = true) (v0 : (Lit.int .u64 b0).wf = true) (v1 : (Lit.int .u64 b1).wf = true) (v2 : (Lit.int .u64 b2).wf = true) (v3 : (Lit.int .u64 b3).wf = true) (wy : (Lit.int .u64 y).wf = true) (w : World) :
    Calls Try.prog 4 #[.agg #[.int .u64 a0, .int .u64 a1, .int .u64 a2, .int .u64 a3], .agg #[.int .u64 b0, .int .u64 b1, .int .u64 b2, .int .u64 b3], .int .u64 y] w fun e w' => e = .returned (.bool true) ∧ Below w.heap.size w w' := by
  rw [big_four u0 u1 u2 u3, big_four v0 v1 v2 v3]
  obtain ⟨h0, h1⟩ := lim_of wy
  exact hugeMuls_big _ _ _ w (in_four u0 u1 u2 u3) (in_four v0 v1 v2 v3) h0 h1
end Go.Proofs.Ytnpffefebghnbaa
