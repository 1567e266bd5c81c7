/- The contract of sponsionref03.MulDiv over this translation. -/
import Derived.Test.YtlmjbpmpedlhlaaWideLaw
import Derived.Deep.RegionHeld3
import Derived.Test.YtlmjbpmpedlhlaaRef2Int
import Derived.Test.YtlmjbpmpedlhlaaRef1Div
namespace Go.Proofs.Ytlmjbpmpedlhlaa
open Go.RowKit Go.Lib
attribute [local go_sem] setCell_drewN alloc_drewN eqInt eqWide

theorem Num.empty {w : World} {ao : Option Addr} {n cap : Nat} {N : Int} {L : Nat} (h : Num w ao n cap N L) : n = 0 ↔ N = 0 := by
  obtain ⟨zs, hd, ho, ht, rfl, hl⟩ := h
  have e : zs.length = n := hd.1.symm
  constructor
  · rintro rfl
    rw [List.eq_nil_of_length_eq_zero e]; rfl
  · intro hv
    rcases Nat.eq_zero_or_pos n with h | h
    · exact h
    · have := long_val ho ht 0 (by omega)
      rw [pw_zero] at this
      omega
theorem held8 {w : World} {g0 g1 : Nat} {x0 x1 : Int} (H0 : LRow w g0 4 (lm x0)) (H1 : LRow w g1 4 (lm x1)) : w.cell? ⟨g0, 0, none⟩ = some (.int .u64 (lm x0 0)) ∧ w.cell? ⟨g0, 1, none⟩ = some (.int .u64 (lm x0 1)) ∧ w.cell? ⟨g0, 2, none⟩ = some (.int .u64 (lm x0 2)) ∧ w.cell? ⟨g0, 3, none⟩ = some (.int .u64 (lm x0 3)) ∧ w.cell? ⟨g1, 0, none⟩ = some (.int .u64 (lm x1 0)) ∧ w.cell? ⟨g1, 1, none⟩ = some (.int .u64 (lm x1 1)) ∧ w.cell? ⟨g1, 2, none⟩ = some (.int .u64 (lm x1 2)) ∧ w.cell? ⟨g1, 3, none⟩ = some (.int .u64 (lm x1 3)) :=
  ⟨H0.cell 0 (by omega), H0.cell 1 (by omega), H0.cell 2 (by omega), H0.cell 3 (by omega), H1.cell 0 (by omega), H1.cell 1 (by omega), H1.cell 2 (by omega), H1.cell 3 (by omega)⟩

set_option maxHeartbeats 4000000 in
theorem ref3_down (a b d : Int) (w : World) (ha : In a) (hb : In b) (hd : In d) :
    Calls Try.prog 17 #[big a, big b, big d, .bool false] w fun e w' => ∃ q c, e = .returned (.tuple #[big q, .int .i64 c]) ∧ Hid (Sp (a * b / d) d q c) ∧ Below w.heap.size w w' := by
  have HA := hide ha; have HB := hide hb; have HD := hide hd
  clear ha hb hd
  go_enter Try.func17, Try.ntmps17
  go_wp2_with fail
  refine (row_of d _ HD.out).mono ?_
  rintro e w1 ⟨yo, yn, yc, rfl, ny, hb1⟩
  have A := hide ((((((LRow.new4 w (lm a 0) (lm a 1) (lm a 2) (lm a 3) 24 (g := w.heap.size) (by simp)).congr (lit_lm4 a)).past (.cells #[.int .u64 (lm b 0), .int .u64 (lm b 1), .int .u64 (lm b 2), .int .u64 (lm b 3)] 24)).past (.cells #[.int .u64 (lm d 0), .int .u64 (lm d 1), .int .u64 (lm d 2), .int .u64 (lm d 3)] 24)).past (.cells #[.int .u64 0, .int .u64 0, .int .u64 0, .int .u64 0] 24)).after hb1 rfl)
  have C := hide (((((LRow.new4 (w.alloc (.cells #[.int .u64 (lm a 0), .int .u64 (lm a 1), .int .u64 (lm a 2), .int .u64 (lm a 3)] 24)) (lm b 0) (lm b 1) (lm b 2) (lm b 3) 24 (g := w.heap.size + 1) (by simp)).congr (lit_lm4 b)).past (.cells #[.int .u64 (lm d 0), .int .u64 (lm d 1), .int .u64 (lm d 2), .int .u64 (lm d 3)] 24)).past (.cells #[.int .u64 0, .int .u64 0, .int .u64 0, .int .u64 0] 24)).after hb1 rfl)
  have D := hide ((((LRow.new4 ((w.alloc (.cells #[.int .u64 (lm a 0), .int .u64 (lm a 1), .int .u64 (lm a 2), .int .u64 (lm a 3)] 24)).alloc (.cells #[.int .u64 (lm b 0), .int .u64 (lm b 1), .int .u64 (lm b 2), .int .u64 (lm b 3)] 24)) (lm d 0) (lm d 1) (lm d 2) (lm d 3) 24 (g := w.heap.size + 1 + 1) (by simp)).congr (lit_lm4 d)).past (.cells #[.int .u64 0, .int .u64 0, .int .u64 0, .int .u64 0] 24)).after hb1 rfl)
  have Z := hide (((LRow.new4 (((w.alloc (.cells #[.int .u64 (lm a 0), .int .u64 (lm a 1), .int .u64 (lm a 2), .int .u64 (lm a 3)] 24)).alloc (.cells #[.int .u64 (lm b 0), .int .u64 (lm b 1), .int .u64 (lm b 2), .int .u64 (lm b 3)] 24)).alloc (.cells #[.int .u64 (lm d 0), .int .u64 (lm d 1), .int .u64 (lm d 2), .int .u64 (lm d 3)] 24)) 0 0 0 0 24 (g := w.heap.size + 1 + 1 + 1) (by simp)).congr (lit_zero (by simp) 4)).after hb1 rfl)
  have B := hide (bOn (bAl (bAl (bAl (bAl (bMe w))))) hb1)
  clear hb1
  have hz := ny.empty
  have ND := hide ny
  clear ny D
  by_cases h0 : d = 0
  · obtain rfl : yn = 0 := hz.2 h0
    have H0 := hide h0
    have G0 := hide big_zero
    clear hz h0
    obtain ⟨zl, z0, z1, z2, z3, zf⟩ := Z.out.own
    go_wp2
    refine bodyPost_ret (v := .tuple #[.agg #[.int .u64 0, .int .u64 0, .int .u64 0, .int .u64 0], .int .i64 3]) ?_ rfl ⟨0, 3, ?_, ?_, ?_⟩
    · simp [results, Try.results17, go_sem, *]
    · rw [G0.out]
    · exact .inl ⟨H0.out, rfl, rfl⟩
    · exact put_below B.out (by omega)
  have hy : ¬ yn = 0 := fun e => h0 (hz.1 e)
  have H0 := hide h0
  have hdp : Hid (0 < d) := by have h1 := HD.out; unfold In at h1; show 0 < d; omega
  clear hz h0
  go_wp2_with fail
  go_region_held3 (fun w' => w'.cell? ⟨w.heap.size, 0, none⟩ = some (.int .u64 (lm a 0)) ∧ w'.cell? ⟨w.heap.size, 1, none⟩ = some (.int .u64 (lm a 1)) ∧ w'.cell? ⟨w.heap.size, 2, none⟩ = some (.int .u64 (lm a 2)) ∧ w'.cell? ⟨w.heap.size, 3, none⟩ = some (.int .u64 (lm a 3)) ∧ w'.cell? ⟨w.heap.size + 1, 0, none⟩ = some (.int .u64 (lm b 0)) ∧ w'.cell? ⟨w.heap.size + 1, 1, none⟩ = some (.int .u64 (lm b 1)) ∧ w'.cell? ⟨w.heap.size + 1, 2, none⟩ = some (.int .u64 (lm b 2)) ∧ w'.cell? ⟨w.heap.size + 1, 3, none⟩ = some (.int .u64 (lm b 3))) (first | with_reducible exact held8 A.out C.out | with_reducible exact held8 A.out.drew C.out.drew)
    (first | (go_at_call_of 12 (Value.agg #[.int .u64 (lm a 0), .int .u64 (lm a 1), .int .u64 (lm a 2), .int .u64 (lm a 3)]); refine (row_of a _ HA.out).mono ?_; rintro e w2 ⟨xo, xn, xc, rfl, nx, hb2⟩; replace A := hide (A.out.after hb2 rfl); replace C := hide (C.out.after hb2 rfl); replace Z := hide (Z.out.after hb2 rfl); (try replace NX := hide (by first | exact NX.out.below hb2 | exact NX.out.below (bOn (bMe _).drew hb2))); (try replace NY := hide (by first | exact NY.out.below hb2 | exact NY.out.below (bOn (bMe _).drew hb2))); (try replace NM := hide (by first | exact NM.out.below hb2 | exact NM.out.below (bOn (bMe _).drew hb2))); (try replace ND := hide (by first | exact ND.out.below hb2 | exact ND.out.below (bOn (bMe _).drew hb2))); replace B := hide (by first | exact bOn B.out hb2 | exact bOn B.out.drew hb2); clear hb2; have NX := hide nx; clear nx) | (go_at_call_of 12 (Value.agg #[.int .u64 (lm b 0), .int .u64 (lm b 1), .int .u64 (lm b 2), .int .u64 (lm b 3)]); refine (row_of b _ HB.out).mono ?_; rintro e w3 ⟨vo, vn, vc, rfl, nv, hb3⟩; replace A := hide (A.out.after hb3 rfl); replace C := hide (C.out.after hb3 rfl); replace Z := hide (Z.out.after hb3 rfl); (try replace NX := hide (by first | exact NX.out.below hb3 | exact NX.out.below (bOn (bMe _).drew hb3))); (try replace NY := hide (by first | exact NY.out.below hb3 | exact NY.out.below (bOn (bMe _).drew hb3))); (try replace NM := hide (by first | exact NM.out.below hb3 | exact NM.out.below (bOn (bMe _).drew hb3))); (try replace ND := hide (by first | exact ND.out.below hb3 | exact ND.out.below (bOn (bMe _).drew hb3))); replace B := hide (by first | exact bOn B.out hb3 | exact bOn B.out.drew hb3); clear hb3; have NY := hide nv; clear nv) | (go_at_call 11; refine (mul_any NX.out NY.out (by omega)).mono ?_; rintro e w4 ⟨mo, mn, mc, rfl, nm, hb4⟩; replace A := hide (A.out.after hb4 rfl); replace C := hide (C.out.after hb4 rfl); replace Z := hide (Z.out.after hb4 rfl); (try replace NX := hide (by first | exact NX.out.below hb4 | exact NX.out.below (bOn (bMe _).drew hb4))); (try replace NY := hide (by first | exact NY.out.below hb4 | exact NY.out.below (bOn (bMe _).drew hb4))); (try replace NM := hide (by first | exact NM.out.below hb4 | exact NM.out.below (bOn (bMe _).drew hb4))); (try replace ND := hide (by first | exact ND.out.below hb4 | exact ND.out.below (bOn (bMe _).drew hb4))); replace B := hide (by first | exact bOn B.out hb4 | exact bOn B.out.drew hb4); clear hb4; have NM := hide nm; clear nm) | (go_at_call 14; refine (div_any NM.out ND.out hdp.out (by omega) (by omega)).mono ?_; rintro e w5 ⟨qo, qn, qc, ro, rn, rc, rfl, nq, nr, hb5⟩; replace A := hide (A.out.after hb5 rfl); replace C := hide (C.out.after hb5 rfl); replace Z := hide (Z.out.after hb5 rfl); (try replace NX := hide (by first | exact NX.out.below hb5 | exact NX.out.below (bOn (bMe _).drew hb5))); (try replace NY := hide (by first | exact NY.out.below hb5 | exact NY.out.below (bOn (bMe _).drew hb5))); (try replace NM := hide (by first | exact NM.out.below hb5 | exact NM.out.below (bOn (bMe _).drew hb5))); (try replace ND := hide (by first | exact ND.out.below hb5 | exact ND.out.below (bOn (bMe _).drew hb5))); replace B := hide (by first | exact bOn B.out hb5 | exact bOn B.out.drew hb5); clear hb5; have NQ := hide nq; have NR := hide nr; clear nq nr))
  all_goals
    clear A C NX NY NM ND
    go_wp2_with fail
    by_cases hin : In (a * b / d)
    · refine (int_ok NQ.out hin).mono ?_
      rintro e w6 ⟨rfl, hb6⟩
      have HI := hide hin
      replace Z := hide (Z.out.after hb6 rfl)
      replace B := hide (bOn B.out hb6)
      clear hb6 hin
      obtain ⟨zl, z0, z1, z2, z3, zf⟩ := Z.out.own
      have ne1 : ¬ w.heap.size + 1 + 1 + 1 = w6.heap.size := by omega
      go_wp2
      refine bodyPost_ret (v := .tuple #[big (a * b / d), .int .i64 0]) ?_ rfl ⟨(a * b / d), 0, rfl, ?_, ?_⟩
      · simp [results, Try.results17, go_sem, *]
      · exact .inr (.inr ⟨H0.out, HI.out, rfl, rfl⟩)
      · first
          | exact bAl (put_below B.out (by omega))
          | exact put_below (bAl B.out) (by omega)
    · refine (int_over NQ.out hin).mono ?_
      rintro e w6 ⟨rfl, hb6⟩
      have HI := hide hin
      have G0 := hide big_zero
      replace Z := hide (Z.out.after hb6 rfl)
      replace B := hide (bOn B.out hb6)
      clear hb6 hin
      obtain ⟨zl, z0, z1, z2, z3, zf⟩ := Z.out.own
      have ne1 : ¬ w.heap.size + 1 + 1 + 1 = w6.heap.size := by omega
      go_wp2
      refine bodyPost_ret (v := .tuple #[.agg #[.int .u64 0, .int .u64 0, .int .u64 0, .int .u64 0], .int .i64 2]) ?_ rfl ⟨0, 2, ?_, ?_, ?_⟩
      · simp [results, Try.results17, go_sem, *]
      · rw [G0.out]
      · exact .inr (.inl ⟨H0.out, HI.out, rfl, rfl⟩)
      · first
          | exact bAl (put_below B.out (by omega))
          | exact put_below (bAl B.out) (by omega)

set_option maxHeartbeats 4000000 in
theorem ref3_up (a b d : Int) (w : World) (ha : In a) (hb : In b) (hd : In d) :
    Calls Try.prog 17 #[big a, big b, big d, .bool true] w fun e w' => ∃ q c, e = .returned (.tuple #[big q, .int .i64 c]) ∧ Hid (Sp (upq a b d) d q c) ∧ Below w.heap.size w w' := by
  have HA := hide ha; have HB := hide hb; have HD := hide hd
  clear ha hb hd
  go_enter Try.func17, Try.ntmps17
  go_wp2_with fail
  refine (row_of d _ HD.out).mono ?_
  rintro e w1 ⟨yo, yn, yc, rfl, ny, hb1⟩
  have A := hide ((((((LRow.new4 w (lm a 0) (lm a 1) (lm a 2) (lm a 3) 24 (g := w.heap.size) (by simp)).congr (lit_lm4 a)).past (.cells #[.int .u64 (lm b 0), .int .u64 (lm b 1), .int .u64 (lm b 2), .int .u64 (lm b 3)] 24)).past (.cells #[.int .u64 (lm d 0), .int .u64 (lm d 1), .int .u64 (lm d 2), .int .u64 (lm d 3)] 24)).past (.cells #[.int .u64 0, .int .u64 0, .int .u64 0, .int .u64 0] 24)).after hb1 rfl)
  have C := hide (((((LRow.new4 (w.alloc (.cells #[.int .u64 (lm a 0), .int .u64 (lm a 1), .int .u64 (lm a 2), .int .u64 (lm a 3)] 24)) (lm b 0) (lm b 1) (lm b 2) (lm b 3) 24 (g := w.heap.size + 1) (by simp)).congr (lit_lm4 b)).past (.cells #[.int .u64 (lm d 0), .int .u64 (lm d 1), .int .u64 (lm d 2), .int .u64 (lm d 3)] 24)).past (.cells #[.int .u64 0, .int .u64 0, .int .u64 0, .int .u64 0] 24)).after hb1 rfl)
  have D := hide ((((LRow.new4 ((w.alloc (.cells #[.int .u64 (lm a 0), .int .u64 (lm a 1), .int .u64 (lm a 2), .int .u64 (lm a 3)] 24)).alloc (.cells #[.int .u64 (lm b 0), .int .u64 (lm b 1), .int .u64 (lm b 2), .int .u64 (lm b 3)] 24)) (lm d 0) (lm d 1) (lm d 2) (lm d 3) 24 (g := w.heap.size + 1 + 1) (by simp)).congr (lit_lm4 d)).past (.cells #[.int .u64 0, .int .u64 0, .int .u64 0, .int .u64 0] 24)).after hb1 rfl)
  have Z := hide (((LRow.new4 (((w.alloc (.cells #[.int .u64 (lm a 0), .int .u64 (lm a 1), .int .u64 (lm a 2), .int .u64 (lm a 3)] 24)).alloc (.cells #[.int .u64 (lm b 0), .int .u64 (lm b 1), .int .u64 (lm b 2), .int .u64 (lm b 3)] 24)).alloc (.cells #[.int .u64 (lm d 0), .int .u64 (lm d 1), .int .u64 (lm d 2), .int .u64 (lm d 3)] 24)) 0 0 0 0 24 (g := w.heap.size + 1 + 1 + 1) (by simp)).congr (lit_zero (by simp) 4)).after hb1 rfl)
  have B := hide (bOn (bAl (bAl (bAl (bAl (bMe w))))) hb1)
  clear hb1
  have hz := ny.empty
  have ND := hide ny
  clear ny D
  by_cases h0 : d = 0
  · obtain rfl : yn = 0 := hz.2 h0
    have H0 := hide h0
    have G0 := hide big_zero
    clear hz h0
    obtain ⟨zl, z0, z1, z2, z3, zf⟩ := Z.out.own
    go_wp2
    refine bodyPost_ret (v := .tuple #[.agg #[.int .u64 0, .int .u64 0, .int .u64 0, .int .u64 0], .int .i64 3]) ?_ rfl ⟨0, 3, ?_, ?_, ?_⟩
    · simp [results, Try.results17, go_sem, *]
    · rw [G0.out]
    · exact .inl ⟨H0.out, rfl, rfl⟩
    · exact put_below B.out (by omega)
  have hy : ¬ yn = 0 := fun e => h0 (hz.1 e)
  have H0 := hide h0
  have hdp : Hid (0 < d) := by have h1 := HD.out; unfold In at h1; show 0 < d; omega
  clear hz h0
  go_wp2_with fail
  go_region_held3 (fun w' => w'.cell? ⟨w.heap.size, 0, none⟩ = some (.int .u64 (lm a 0)) ∧ w'.cell? ⟨w.heap.size, 1, none⟩ = some (.int .u64 (lm a 1)) ∧ w'.cell? ⟨w.heap.size, 2, none⟩ = some (.int .u64 (lm a 2)) ∧ w'.cell? ⟨w.heap.size, 3, none⟩ = some (.int .u64 (lm a 3)) ∧ w'.cell? ⟨w.heap.size + 1, 0, none⟩ = some (.int .u64 (lm b 0)) ∧ w'.cell? ⟨w.heap.size + 1, 1, none⟩ = some (.int .u64 (lm b 1)) ∧ w'.cell? ⟨w.heap.size + 1, 2, none⟩ = some (.int .u64 (lm b 2)) ∧ w'.cell? ⟨w.heap.size + 1, 3, none⟩ = some (.int .u64 (lm b 3))) (first | with_reducible exact held8 A.out C.out | with_reducible exact held8 A.out.drew C.out.drew)
    (first | (go_at_call_of 12 (Value.agg #[.int .u64 (lm a 0), .int .u64 (lm a 1), .int .u64 (lm a 2), .int .u64 (lm a 3)]); refine (row_of a _ HA.out).mono ?_; rintro e w2 ⟨xo, xn, xc, rfl, nx, hb2⟩; replace A := hide (A.out.after hb2 rfl); replace C := hide (C.out.after hb2 rfl); replace Z := hide (Z.out.after hb2 rfl); (try replace NX := hide (by first | exact NX.out.below hb2 | exact NX.out.below (bOn (bMe _).drew hb2))); (try replace NY := hide (by first | exact NY.out.below hb2 | exact NY.out.below (bOn (bMe _).drew hb2))); (try replace NM := hide (by first | exact NM.out.below hb2 | exact NM.out.below (bOn (bMe _).drew hb2))); (try replace ND := hide (by first | exact ND.out.below hb2 | exact ND.out.below (bOn (bMe _).drew hb2))); replace B := hide (by first | exact bOn B.out hb2 | exact bOn B.out.drew hb2); clear hb2; have NX := hide nx; clear nx) | (go_at_call_of 12 (Value.agg #[.int .u64 (lm b 0), .int .u64 (lm b 1), .int .u64 (lm b 2), .int .u64 (lm b 3)]); refine (row_of b _ HB.out).mono ?_; rintro e w3 ⟨vo, vn, vc, rfl, nv, hb3⟩; replace A := hide (A.out.after hb3 rfl); replace C := hide (C.out.after hb3 rfl); replace Z := hide (Z.out.after hb3 rfl); (try replace NX := hide (by first | exact NX.out.below hb3 | exact NX.out.below (bOn (bMe _).drew hb3))); (try replace NY := hide (by first | exact NY.out.below hb3 | exact NY.out.below (bOn (bMe _).drew hb3))); (try replace NM := hide (by first | exact NM.out.below hb3 | exact NM.out.below (bOn (bMe _).drew hb3))); (try replace ND := hide (by first | exact ND.out.below hb3 | exact ND.out.below (bOn (bMe _).drew hb3))); replace B := hide (by first | exact bOn B.out hb3 | exact bOn B.out.drew hb3); clear hb3; have NY := hide nv; clear nv) | (go_at_call 11; refine (mul_any NX.out NY.out (by omega)).mono ?_; rintro e w4 ⟨mo, mn, mc, rfl, nm, hb4⟩; replace A := hide (A.out.after hb4 rfl); replace C := hide (C.out.after hb4 rfl); replace Z := hide (Z.out.after hb4 rfl); (try replace NX := hide (by first | exact NX.out.below hb4 | exact NX.out.below (bOn (bMe _).drew hb4))); (try replace NY := hide (by first | exact NY.out.below hb4 | exact NY.out.below (bOn (bMe _).drew hb4))); (try replace NM := hide (by first | exact NM.out.below hb4 | exact NM.out.below (bOn (bMe _).drew hb4))); (try replace ND := hide (by first | exact ND.out.below hb4 | exact ND.out.below (bOn (bMe _).drew hb4))); replace B := hide (by first | exact bOn B.out hb4 | exact bOn B.out.drew hb4); clear hb4; have NM := hide nm; clear nm) | (go_at_call 14; refine (div_any NM.out ND.out hdp.out (by omega) (by omega)).mono ?_; rintro e w5 ⟨qo, qn, qc, ro, rn, rc, rfl, nq, nr, hb5⟩; replace A := hide (A.out.after hb5 rfl); replace C := hide (C.out.after hb5 rfl); replace Z := hide (Z.out.after hb5 rfl); (try replace NX := hide (by first | exact NX.out.below hb5 | exact NX.out.below (bOn (bMe _).drew hb5))); (try replace NY := hide (by first | exact NY.out.below hb5 | exact NY.out.below (bOn (bMe _).drew hb5))); (try replace NM := hide (by first | exact NM.out.below hb5 | exact NM.out.below (bOn (bMe _).drew hb5))); (try replace ND := hide (by first | exact ND.out.below hb5 | exact ND.out.below (bOn (bMe _).drew hb5))); replace B := hide (by first | exact bOn B.out hb5 | exact bOn B.out.drew hb5); clear hb5; have NQ := hide nq; have NR := hide nr; clear nq nr))
  all_goals
    clear A C NX NY NM ND
    have hr := NR.out.empty
    by_cases h1 : a * b % d = 0
    · obtain rfl : rn = 0 := hr.2 h1
      have e : a * b / d = upq a b d := by unfold upq; rw [if_pos h1, Int.add_zero]
      rw [e] at NQ
      clear hr h1 e
      go_wp2_with fail
      by_cases hin : In (upq a b d)
      · refine (int_ok NQ.out hin).mono ?_
        rintro e w6 ⟨rfl, hb6⟩
        have HI := hide hin
        replace Z := hide (Z.out.after hb6 rfl)
        replace B := hide (bOn B.out hb6)
        clear hb6 hin
        obtain ⟨zl, z0, z1, z2, z3, zf⟩ := Z.out.own
        have ne1 : ¬ w.heap.size + 1 + 1 + 1 = w6.heap.size := by omega
        go_wp2
        refine bodyPost_ret (v := .tuple #[big (upq a b d), .int .i64 0]) ?_ rfl ⟨(upq a b d), 0, rfl, ?_, ?_⟩
        · simp [results, Try.results17, go_sem, *]
        · exact .inr (.inr ⟨H0.out, HI.out, rfl, rfl⟩)
        · first
            | exact bAl (put_below B.out (by omega))
            | exact put_below (bAl B.out) (by omega)
      · refine (int_over NQ.out hin).mono ?_
        rintro e w6 ⟨rfl, hb6⟩
        have HI := hide hin
        have G0 := hide big_zero
        replace Z := hide (Z.out.after hb6 rfl)
        replace B := hide (bOn B.out hb6)
        clear hb6 hin
        obtain ⟨zl, z0, z1, z2, z3, zf⟩ := Z.out.own
        have ne1 : ¬ w.heap.size + 1 + 1 + 1 = w6.heap.size := by omega
        go_wp2
        refine bodyPost_ret (v := .tuple #[.agg #[.int .u64 0, .int .u64 0, .int .u64 0, .int .u64 0], .int .i64 2]) ?_ rfl ⟨0, 2, ?_, ?_, ?_⟩
        · simp [results, Try.results17, go_sem, *]
        · rw [G0.out]
        · exact .inr (.inl ⟨H0.out, HI.out, rfl, rfl⟩)
        · first
            | exact bAl (put_below B.out (by omega))
            | exact put_below (bAl B.out) (by omega)
    · have hn : 0 < rn := Nat.pos_of_ne_zero (fun h => h1 (hr.1 h))
      have e : a * b / d + 1 = upq a b d := by unfold upq; rw [if_neg h1]
      have HE := hide e
      clear hr h1 e
      go_wp2_with fail
      refine (add_any (NQ.out.below (bAl (bMe w5))) ((lit1 w5).mono (by omega)) (by omega)).mono ?_
      rintro e w7 ⟨so, sn, sc, rfl, ns, hb7⟩
      rw [HE.out] at ns
      replace NQ := hide ns
      replace Z := hide ((Z.out.past _).after hb7 rfl)
      replace B := hide (bOn (bAl B.out) hb7)
      clear hb7 ns
      go_wp2_with fail
      by_cases hin : In (upq a b d)
      · refine (int_ok NQ.out hin).mono ?_
        rintro e w6 ⟨rfl, hb6⟩
        have HI := hide hin
        replace Z := hide (Z.out.after hb6 rfl)
        replace B := hide (bOn B.out hb6)
        clear hb6 hin
        obtain ⟨zl, z0, z1, z2, z3, zf⟩ := Z.out.own
        have ne1 : ¬ w.heap.size + 1 + 1 + 1 = w6.heap.size := by omega
        go_wp2
        refine bodyPost_ret (v := .tuple #[big (upq a b d), .int .i64 0]) ?_ rfl ⟨(upq a b d), 0, rfl, ?_, ?_⟩
        · simp [results, Try.results17, go_sem, *]
        · exact .inr (.inr ⟨H0.out, HI.out, rfl, rfl⟩)
        · first
            | exact bAl (put_below B.out (by omega))
            | exact put_below (bAl B.out) (by omega)
      · refine (int_over NQ.out hin).mono ?_
        rintro e w6 ⟨rfl, hb6⟩
        have HI := hide hin
        have G0 := hide big_zero
        replace Z := hide (Z.out.after hb6 rfl)
        replace B := hide (bOn B.out hb6)
        clear hb6 hin
        obtain ⟨zl, z0, z1, z2, z3, zf⟩ := Z.out.own
        have ne1 : ¬ w.heap.size + 1 + 1 + 1 = w6.heap.size := by omega
        go_wp2
        refine bodyPost_ret (v := .tuple #[.agg #[.int .u64 0, .int .u64 0, .int .u64 0, .int .u64 0], .int .i64 2]) ?_ rfl ⟨0, 2, ?_, ?_, ?_⟩
        · simp [results, Try.results17, go_sem, *]
        · rw [G0.out]
        · exact .inr (.inl ⟨H0.out, HI.out, rfl, rfl⟩)
        · first
            | exact bAl (put_below B.out (by omega))
            | exact put_below (bAl B.out) (by omega)
end Go.Proofs.Ytlmjbpmpedlhlaa
