/- The walk of HugeAdds over this translation. -/
import Derived.Test.YtnpffefebghnbaaHugeIs
import Derived.Test.YtnpffefebghnbaaHugeSub
import Derived.Test.YtnpffefebghnbaaHugeCmp
import Derived.Deep.RegionHeld3
namespace Go.Proofs.Ytnpffefebghnbaa
open Go.RowKit Go.Lib
attribute [local go_sem] setCell_drewN alloc_drewN eqInt

/-- What huge.Add tells. -/
theorem huge_add_any (a b : Int) (w : World) (ha : In a) (hb : In b) :
    Calls Try.prog 11 #[big a, big b] w fun e w' => ∃ s c, e = .returned (.tuple #[big s, .int .i64 c]) ∧ ((In (a + b) ∧ s = a + b ∧ c = 0) ∨ (¬ In (a + b) ∧ s = 0 ∧ c = 2)) ∧ Below w.heap.size w w' := by
  by_cases h : In (a + b)
  · refine (huge_add_ok a b w ha hb h).mono ?_
    rintro e w' ⟨rfl, hw⟩
    exact ⟨_, _, rfl, .inl ⟨h, rfl, rfl⟩, hw⟩
  · refine (huge_add_over a b w ha hb h).mono ?_
    rintro e w' ⟨rfl, hw⟩
    exact ⟨_, _, rfl, .inr ⟨h, rfl, rfl⟩, hw⟩
theorem huge_sub_any (a b : Int) (w : World) (ha : In a) (hb : In b) :
    Calls Try.prog 12 #[big a, big b] w fun e w' => ∃ s c, e = .returned (.tuple #[big s, .int .i64 c]) ∧ ((b ≤ a ∧ s = a - b ∧ c = 0) ∨ (a < b ∧ s = 0 ∧ c = 2)) ∧ Below w.heap.size w w' := by
  by_cases h : b ≤ a
  · refine (huge_sub_ok a b w ha hb h).mono ?_
    rintro e w' ⟨rfl, hw⟩
    exact ⟨_, _, rfl, .inl ⟨h, rfl, rfl⟩, hw⟩
  · refine (huge_sub_over a b w ha hb (by omega)).mono ?_
    rintro e w' ⟨rfl, hw⟩
    exact ⟨_, _, rfl, .inr ⟨by omega, rfl, rfl⟩, hw⟩
theorem is_any {ao : Option Addr} {n cap : Nat} {N : Int} {L : Nat} {w : World} {s c : Int} (hn : Num w ao n cap N L) (h : (In N ∧ s = N ∧ c = 0) ∨ (¬ In N ∧ s = 0 ∧ c = 2)) :
    Calls Try.prog 14 #[big s, .int .i64 c, .slice ao n cap] w fun e w' => e = .returned (.bool true) ∧ Below w.heap.size w w' := by
  rcases h with ⟨h, rfl, rfl⟩ | ⟨h, rfl, rfl⟩
  · exact is_ok hn h
  · exact is_over hn h
theorem cmp_sg {ao bo : Option Addr} {n m cap cap' : Nat} {A B : Int} {L M : Nat} {w : World} (hx : Num w ao n cap A L) (hy : Num w bo m cap' B M) :
    Calls Try.prog 13 #[.slice ao n cap, .slice bo m cap'] w fun e w' => e = .returned (.int .i64 (sg A B)) ∧ w' = w := by
  refine (cmp_num hx hy).mono ?_
  rintro e w' ⟨⟨c, rfl, h⟩, hw⟩
  refine ⟨ret_i64 ?_, hw⟩
  rcases h with ⟨rfl, h⟩ | ⟨rfl, h⟩ | ⟨rfl, h⟩
  · exact (sg_lt h).symm
  · exact (sg_eq h).symm
  · exact (sg_gt h).symm

set_option maxHeartbeats 4000000 in
theorem hugeAdds_big (a b : Int) (w : World) (ha : In a) (hb : In b) :
    Calls Try.prog 3 #[big a, big b] w fun e w' => e = .returned (.bool true) ∧ Below w.heap.size w w' := by
  have HA := hide ha; have HB := hide hb
  clear ha hb
  go_enter Try.func3, Try.ntmps3
  go_wp2_with fail
  refine (lives2_any _).mono ?_
  rintro e w1 ⟨rfl, hb1⟩
  have P := hide (((Own.new w (lm a 0) (lm a 1) (lm a 2) (lm a 3) 24).past _).after hb1 rfl)
  have Q := hide ((Own.new' (w.alloc (.cells #[.int .u64 (lm a 0), .int .u64 (lm a 1), .int .u64 (lm a 2), .int .u64 (lm a 3)] 24)) (g := w.heap.size + 1) (lm b 0) (lm b 1) (lm b 2) (lm b 3) 24 (by simp)).after hb1 rfl)
  have B := hide (bOn (bAl (bAl (bMe w))) hb1)
  clear hb1
  go_wp2
  go_region_held3 (fun w' => w'.cell? ⟨w.heap.size, 0, none⟩ = some (.int .u64 (lm a 0)) ∧ w'.cell? ⟨w.heap.size, 1, none⟩ = some (.int .u64 (lm a 1)) ∧ w'.cell? ⟨w.heap.size, 2, none⟩ = some (.int .u64 (lm a 2)) ∧ w'.cell? ⟨w.heap.size, 3, none⟩ = some (.int .u64 (lm a 3)) ∧ w'.cell? ⟨w.heap.size + 1, 0, none⟩ = some (.int .u64 (lm b 0)) ∧ w'.cell? ⟨w.heap.size + 1, 1, none⟩ = some (.int .u64 (lm b 1)) ∧ w'.cell? ⟨w.heap.size + 1, 2, none⟩ = some (.int .u64 (lm b 2)) ∧ w'.cell? ⟨w.heap.size + 1, 3, none⟩ = some (.int .u64 (lm b 3))) (exact ⟨P.out.c0, P.out.c1, P.out.c2, P.out.c3, Q.out.c0, Q.out.c1, Q.out.c2, Q.out.c3⟩)
    (first | (go_at_call_of 10 (Value.agg #[.int .u64 (lm a 0), .int .u64 (lm a 1), .int .u64 (lm a 2), .int .u64 (lm a 3)]); refine (row_of a _ HA.out).mono ?_; rintro e w2 ⟨xo, xn, xc, rfl, nx, hb2⟩; have NX := hide nx; replace P := hide (P.out.after hb2 rfl); replace Q := hide (Q.out.after hb2 rfl); replace B := hide (by first | exact bOn B.out hb2 | exact bOn B.out.drew hb2); (try replace NY := hide (NY.out.below hb2)); clear hb2 nx) | (go_at_call_of 10 (Value.agg #[.int .u64 (lm b 0), .int .u64 (lm b 1), .int .u64 (lm b 2), .int .u64 (lm b 3)]); refine (row_of b _ HB.out).mono ?_; rintro e w2 ⟨yo, yn, yc, rfl, ny, hb2⟩; have NY := hide ny; replace P := hide (P.out.after hb2 rfl); replace Q := hide (Q.out.after hb2 rfl); replace B := hide (by first | exact bOn B.out hb2 | exact bOn B.out.drew hb2); (try replace NX := hide (NX.out.below hb2)); clear hb2 ny))
  all_goals
    obtain ⟨p5, p0, p1, p2, p3, _⟩ := P.out
    obtain ⟨q5, q0, q1, q2, q3, _⟩ := Q.out
    go_wp2_with fail
    refine (huge_add_any a b _ HA.out HB.out).mono ?_
    rintro e w3 ⟨s, c, rfl, hs, hb3⟩
    have HS := hide hs
    replace P := hide (P.out.after hb3 rfl); replace Q := hide (Q.out.after hb3 rfl); replace B := hide (bOn B.out hb3)
    replace NX := hide (NX.out.below hb3); replace NY := hide (NY.out.below hb3)
    clear hs hb3 p0 p1 p2 p3 q0 q1 q2 q3 p5 q5
    obtain ⟨p5, p0, p1, p2, p3, _⟩ := P.out
    obtain ⟨q5, q0, q1, q2, q3, _⟩ := Q.out
    go_wp2_with fail
    refine (huge_sub_any a b _ HA.out HB.out).mono ?_
    rintro e w4 ⟨d, f, rfl, hd, hb4⟩
    have HD := hide hd
    replace P := hide ((P.out.past _).after hb4 rfl); replace Q := hide ((Q.out.past _).after hb4 rfl)
    have S := hide ((Own.new w3 (lm s 0) (lm s 1) (lm s 2) (lm s 3) 24).after hb4 rfl)
    replace NX := hide (NX.out.below (bOn (bAl (bMe w3)) hb4)); replace NY := hide (NY.out.below (bOn (bAl (bMe w3)) hb4))
    replace B := hide (bOn (bAl B.out) hb4)
    clear hd hb4 p0 p1 p2 p3 q0 q1 q2 q3 p5 q5
    go_wp2_with fail
    refine (cmp_sg (NX.out.below (bAl (bMe w4))) (NY.out.below (bAl (bMe w4)))).mono ?_
    rintro e w5 ⟨rfl, hw5⟩
    replace P := hide (P.out.past (.cells #[.int .u64 (lm d 0), .int .u64 (lm d 1), .int .u64 (lm d 2), .int .u64 (lm d 3)] 24)); replace Q := hide (Q.out.past (.cells #[.int .u64 (lm d 0), .int .u64 (lm d 1), .int .u64 (lm d 2), .int .u64 (lm d 3)] 24)); replace S := hide (S.out.past (.cells #[.int .u64 (lm d 0), .int .u64 (lm d 1), .int .u64 (lm d 2), .int .u64 (lm d 3)] 24))
    have D := hide (Own.new w4 (lm d 0) (lm d 1) (lm d 2) (lm d 3) 24)
    replace NX := hide (NX.out.below (bAl (o := .cells #[.int .u64 (lm d 0), .int .u64 (lm d 1), .int .u64 (lm d 2), .int .u64 (lm d 3)] 24) (bMe w4))); replace NY := hide (NY.out.below (bAl (o := .cells #[.int .u64 (lm d 0), .int .u64 (lm d 1), .int .u64 (lm d 2), .int .u64 (lm d 3)] 24) (bMe w4)))
    replace B := hide (bAl (o := .cells #[.int .u64 (lm d 0), .int .u64 (lm d 1), .int .u64 (lm d 2), .int .u64 (lm d 3)] 24) B.out)
    rw [← hw5] at P Q S D NX NY B
    clear hw5
    go_wp2_with fail
    go_region_held3 (fun w' => w'.cell? ⟨w3.heap.size, 0, none⟩ = some (.int .u64 (lm s 0)) ∧ w'.cell? ⟨w3.heap.size, 1, none⟩ = some (.int .u64 (lm s 1)) ∧ w'.cell? ⟨w3.heap.size, 2, none⟩ = some (.int .u64 (lm s 2)) ∧ w'.cell? ⟨w3.heap.size, 3, none⟩ = some (.int .u64 (lm s 3)) ∧ w'.cell? ⟨w.heap.size, 0, none⟩ = some (.int .u64 (lm a 0)) ∧ w'.cell? ⟨w.heap.size, 1, none⟩ = some (.int .u64 (lm a 1)) ∧ w'.cell? ⟨w.heap.size, 2, none⟩ = some (.int .u64 (lm a 2)) ∧ w'.cell? ⟨w.heap.size, 3, none⟩ = some (.int .u64 (lm a 3)) ∧ w'.cell? ⟨w.heap.size + 1, 0, none⟩ = some (.int .u64 (lm b 0)) ∧ w'.cell? ⟨w.heap.size + 1, 1, none⟩ = some (.int .u64 (lm b 1)) ∧ w'.cell? ⟨w.heap.size + 1, 2, none⟩ = some (.int .u64 (lm b 2)) ∧ w'.cell? ⟨w.heap.size + 1, 3, none⟩ = some (.int .u64 (lm b 3))) (exact ⟨S.out.c0, S.out.c1, S.out.c2, S.out.c3, P.out.c0, P.out.c1, P.out.c2, P.out.c3, Q.out.c0, Q.out.c1, Q.out.c2, Q.out.c3⟩)
      (first | (go_at_call 15; refine (add_any (NX.out.below (bMe _).drew) (NY.out.below (bMe _).drew) (by omega)).mono ?_; rintro e w6 ⟨zo, zn, zc, rfl, nz, hb6⟩; have NZ := hide nz; replace P := hide (P.out.after hb6 rfl); replace Q := hide (Q.out.after hb6 rfl); replace S := hide (S.out.after hb6 rfl); replace D := hide (D.out.after hb6 rfl); replace B := hide (by first | exact bOn B.out hb6 | exact bOn B.out.drew hb6); replace NX := hide (NX.out.below (bOn (bMe _).drew hb6)); replace NY := hide (NY.out.below (bOn (bMe _).drew hb6)); clear hb6 nz) | (go_at_call 14; refine (is_any NZ.out HS.out).mono ?_; rintro e w7 ⟨rfl, hb7⟩; replace P := hide (P.out.after hb7 rfl); replace Q := hide (Q.out.after hb7 rfl); replace S := hide (S.out.after hb7 rfl); replace D := hide (D.out.after hb7 rfl); replace B := hide (by first | exact bOn B.out hb7 | exact bOn B.out.drew hb7); replace NX := hide (NX.out.below hb7); replace NY := hide (NY.out.below hb7); clear hb7) | (go_at_call 16; refine (huge_cmp_any a b _ HA.out HB.out).mono ?_; rintro e w8 ⟨rfl, hb8⟩; replace P := hide (P.out.after hb8 rfl); replace Q := hide (Q.out.after hb8 rfl); replace S := hide (S.out.after hb8 rfl); replace D := hide (D.out.after hb8 rfl); replace B := hide (by first | exact bOn B.out hb8 | exact bOn B.out.drew hb8); replace NX := hide (NX.out.below hb8); replace NY := hide (NY.out.below hb8); clear hb8))
    by_cases hlt : a < b
    · have hsg := sg_lt hlt
      rcases HD.out with ⟨h, _, _⟩ | ⟨_, rfl, rfl⟩
      · omega
      have hno := same_nought
      obtain ⟨_, d0, d1, d2, d3, _⟩ := D.out
      go_wp2
      go_ret
      exact ⟨rfl, B.out⟩
    · have hle : b ≤ a := by omega
      have hsg : ¬ sg a b < 0 := by
        rcases Int.lt_or_eq_of_le hle with h | h
        · rw [sg_gt h]; omega
        · rw [sg_eq h.symm]; omega
      have HL := hide hle
      clear hlt hle
      have HD' : Hid ((In (a - b) ∧ d = a - b ∧ f = 0) ∨ (¬ In (a - b) ∧ d = 0 ∧ f = 2)) := by
        rcases HD.out with ⟨h, h1, h2⟩ | ⟨h, _, _⟩
        · left
          refine ⟨?_, h1, h2⟩
          have := HA.out; have := HB.out
          unfold In at *
          omega
        · have := HL.out; omega
      go_wp2
      go_region_held3 (fun w' => w'.cell? ⟨w4.heap.size, 0, none⟩ = some (.int .u64 (lm d 0)) ∧ w'.cell? ⟨w4.heap.size, 1, none⟩ = some (.int .u64 (lm d 1)) ∧ w'.cell? ⟨w4.heap.size, 2, none⟩ = some (.int .u64 (lm d 2)) ∧ w'.cell? ⟨w4.heap.size, 3, none⟩ = some (.int .u64 (lm d 3))) (exact ⟨D.out.c0, D.out.c1, D.out.c2, D.out.c3⟩)
        (first | (go_at_call 17; refine (sub_any (NX.out.below (bMe _).drew) (NY.out.below (bMe _).drew) HL.out).mono ?_; rintro e w9 ⟨uo, un, uc, rfl, nu, hb9⟩; have NU := hide nu; replace D := hide (D.out.after hb9 rfl); replace B := hide (by first | exact bOn B.out hb9 | exact bOn B.out.drew hb9); clear hb9 nu) | (go_at_call 14; refine (is_any NU.out HD'.out).mono ?_; rintro e w10 ⟨rfl, hb10⟩; replace D := hide (D.out.after hb10 rfl); replace B := hide (by first | exact bOn B.out hb10 | exact bOn B.out.drew hb10); clear hb10))
      go_wp2
      go_ret
      exact ⟨rfl, B.out⟩
theorem hugeAdds_walk (a0 a1 a2 a3 b0 b1 b2 b3 : Int) (u0 : (Lit.int .u64 a0).wf = true) (u1 : (Lit.int .u64 a1).wf = true) (u2 : (Lit.int .u64 a2).wf = true) (u3 : (Lit.int .u64 a3).wf = true) (v0 : (Lit.int .u64 b0).wf = true) (v1 : (Lit.int .u64 b1).wf = true) (v2 : (Lit.int .u64 b2).wf = true) (v3 : (Lit.int .u64 b3).wf = true) (w : World) :
    Calls Try.prog 3 #[.agg #[.int .u64 a0, .int .u64 a1, .int .u64 a2, .int .u64 a3], .agg #[.int .u64 b0, .int .u64 b1, .int .u64 b2, .int .u64 b3]] w fun e w' => e = .returned (.bool true) ∧ Below w.heap.size w w' := by
  rw [big_four u0 u1 u2 u3, big_four v0 v1 v2 v3]
  exact hugeAdds_big _ _ w (in_four u0 u1 u2 u3) (in_four v0 v1 v2 v3)
end Go.Proofs.Ytnpffefebghnbaa
