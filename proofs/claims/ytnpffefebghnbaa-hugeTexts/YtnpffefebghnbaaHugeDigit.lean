/- The contracts of huge.isDecimal and huge.withDigit over this translation. -/
import Derived.Test.YtnpffefebghnbaaHugeAdd
import Derived.Test.YtnpffefebghnbaaHugeMul
import Derived.Test.YtnpffefebghnbaaOwn
namespace Go.Proofs.Ytnpffefebghnbaa
open Go.RowKit Go.Lib
attribute [local go_sem] setCell_drewN alloc_drewN

theorem In.ten : In 10 := by unfold In; omega
set_option maxHeartbeats 2000000 in
theorem with_ok (a d : Int) (w : World) (ha : In a) (hd0 : 0 ≤ d) (hd : d ≤ 255) (h10 : In (a * 10)) (h : In (a * 10 + d)) :
    Calls Try.prog 42 #[big a, .int .u8 d] w fun e w' => e = .returned (.tuple #[big (a * 10 + d), .int .i64 0]) ∧ Below w.heap.size w w' := by
  have HA := hide ha; have H10 := hide h10; have HS := hide h
  clear ha h10 h
  have hdi : In d := by unfold In; omega
  have HD := hide hdi
  clear hdi
  have hwd : IntKind.u64.wrap d = d := by rw [IntKind.wrap_u64]; omega
  have hgg : w.heap.size ≤ w.heap.size + 1 := by omega
  have hne : w.heap.size ≠ w.heap.size + 1 := by omega
  have HNE := hide hne; have HGG := hide hgg
  clear hne hgg
  go_enter Try.func42, Try.ntmps42
  go_wp2
  have O1 := (Own.new w (lm a 0) (lm a 1) (lm a 2) (lm a 3) 24).past (.cells #[.int .u64 0, .int .u64 0, .int .u64 0, .int .u64 0] 24)
  have O2 := Own.new' (w.alloc (.cells #[.int .u64 (lm a 0), .int .u64 (lm a 1), .int .u64 (lm a 2), .int .u64 (lm a 3)] 24)) 0 0 0 0 24 (g := w.heap.size + 1) (by simp)
  have Bw := bAl (o := .cells #[.int .u64 0, .int .u64 0, .int .u64 0, .int .u64 0] 24) (bAl (o := .cells #[.int .u64 (lm a 0), .int .u64 (lm a 1), .int .u64 (lm a 2), .int .u64 (lm a 3)] 24) (bMe w))
  generalize (w.alloc (.cells #[.int .u64 (lm a 0), .int .u64 (lm a 1), .int .u64 (lm a 2), .int .u64 (lm a 3)] 24)).alloc (.cells #[.int .u64 0, .int .u64 0, .int .u64 0, .int .u64 0] 24) = W at *
  have P1 := hide O1; have P2 := hide O2; have HW := hide Bw
  obtain ⟨_, x0, x1, x2, x3, xf⟩ := O1
  clear O2 Bw
  go_region_with (first | (go_at_call 31; refine (hof_any _ _ (by omega) (by omega)).mono ?_; rintro e w1 ⟨rfl, hb1⟩; have Q1 := hide (P1.out.after hb1 rfl); have Q2 := hide (P2.out.after hb1 rfl); have HW1 := hide (bOn HW.out.drew hb1); obtain ⟨_, s0, s1, s2, s3, sf⟩ := Q1.out; clear hb1) | (go_at_call 18; refine (huge_mul_ok _ _ _ HA.out In.ten H10.out).mono ?_; rintro e w2 ⟨rfl, hb2⟩; have R1 := hide (Q1.out.after hb2 rfl); have R2 := hide (Q2.out.after hb2 rfl); have HW2 := hide (bOn HW1.out hb2); obtain ⟨_, r0, r1, r2, r3, rf⟩ := R1.out; clear hb2))
  all_goals
    clear s0 s1 s2 s3 sf x0 x1 x2 x3 xf
    obtain ⟨_, y0, y1, y2, y3, yf⟩ := R2.out
    go_wp2
    go_region_held3 (fun w' => w'.cell? ⟨w.heap.size, 0, none⟩ = some (.int .u64 (lm (a * 10) 0)) ∧ w'.cell? ⟨w.heap.size, 1, none⟩ = some (.int .u64 (lm (a * 10) 1)) ∧ w'.cell? ⟨w.heap.size, 2, none⟩ = some (.int .u64 (lm (a * 10) 2)) ∧ w'.cell? ⟨w.heap.size, 3, none⟩ = some (.int .u64 (lm (a * 10) 3))) (simp [go_sem, *]) (first | (go_at_call 31; refine (hof_any _ _ (by omega) (by omega)).mono ?_; rintro e w3 ⟨rfl, hb3⟩; have T1 := hide ((R1.out.put (lm (a * 10) 0) (lm (a * 10) 1) (lm (a * 10) 2) (lm (a * 10) 3)).after hb3 rfl); have T2 := hide ((R2.out.other HNE.out.symm (a' := lm (a * 10) 0) (b' := lm (a * 10) 1) (c' := lm (a * 10) 2) (d' := lm (a * 10) 3)).after hb3 rfl); have HW3 := hide (bOn (put_below (g := w.heap.size) (x := lm (a * 10) 0) (y := lm (a * 10) 1) (z := lm (a * 10) 2) (u := lm (a * 10) 3) HW2.out (Nat.le_refl _)).drew hb3); obtain ⟨_, t0, t1, t2, t3, tf⟩ := T1.out; clear hb3) | (go_at_call 11; refine (huge_add_ok _ _ _ H10.out HD.out HS.out).mono ?_; rintro e w4 ⟨rfl, hb4⟩; have U1 := hide (T1.out.after hb4 rfl); have U2 := hide (T2.out.after hb4 rfl); obtain ⟨_, k0, k1, k2, k3, kf⟩ := U1.out; have HW4 := hide (bOn HW3.out hb4); obtain ⟨_, v0, v1, v2, v3, vf⟩ := U2.out; clear hb4))
    all_goals
      go_wp2
      refine bodyPost_ret (v := .tuple #[big (a * 10 + d), .int .i64 0]) ?_ rfl ⟨rfl, put_below HW4.out HGG.out⟩
      simp [results, Try.results42, go_sem, v0, v1, v2, v3]
set_option maxHeartbeats 2000000 in
theorem with_over (a d : Int) (w : World) (ha : In a) (hd0 : 0 ≤ d) (hd : d ≤ 255) (h10 : In (a * 10)) (h : ¬ In (a * 10 + d)) :
    Calls Try.prog 42 #[big a, .int .u8 d] w fun e w' => e = .returned (.tuple #[big (0), .int .i64 2]) ∧ Below w.heap.size w w' := by
  have HA := hide ha; have H10 := hide h10; have HS := hide h
  clear ha h10 h
  have hdi : In d := by unfold In; omega
  have HD := hide hdi
  clear hdi
  have hwd : IntKind.u64.wrap d = d := by rw [IntKind.wrap_u64]; omega
  have hgg : w.heap.size ≤ w.heap.size + 1 := by omega
  have hne : w.heap.size ≠ w.heap.size + 1 := by omega
  have HNE := hide hne; have HGG := hide hgg
  clear hne hgg
  go_enter Try.func42, Try.ntmps42
  go_wp2
  have O1 := (Own.new w (lm a 0) (lm a 1) (lm a 2) (lm a 3) 24).past (.cells #[.int .u64 0, .int .u64 0, .int .u64 0, .int .u64 0] 24)
  have O2 := Own.new' (w.alloc (.cells #[.int .u64 (lm a 0), .int .u64 (lm a 1), .int .u64 (lm a 2), .int .u64 (lm a 3)] 24)) 0 0 0 0 24 (g := w.heap.size + 1) (by simp)
  have Bw := bAl (o := .cells #[.int .u64 0, .int .u64 0, .int .u64 0, .int .u64 0] 24) (bAl (o := .cells #[.int .u64 (lm a 0), .int .u64 (lm a 1), .int .u64 (lm a 2), .int .u64 (lm a 3)] 24) (bMe w))
  generalize (w.alloc (.cells #[.int .u64 (lm a 0), .int .u64 (lm a 1), .int .u64 (lm a 2), .int .u64 (lm a 3)] 24)).alloc (.cells #[.int .u64 0, .int .u64 0, .int .u64 0, .int .u64 0] 24) = W at *
  have P1 := hide O1; have P2 := hide O2; have HW := hide Bw
  obtain ⟨_, x0, x1, x2, x3, xf⟩ := O1
  clear O2 Bw
  go_region_with (first | (go_at_call 31; refine (hof_any _ _ (by omega) (by omega)).mono ?_; rintro e w1 ⟨rfl, hb1⟩; have Q1 := hide (P1.out.after hb1 rfl); have Q2 := hide (P2.out.after hb1 rfl); have HW1 := hide (bOn HW.out.drew hb1); obtain ⟨_, s0, s1, s2, s3, sf⟩ := Q1.out; clear hb1) | (go_at_call 18; refine (huge_mul_ok _ _ _ HA.out In.ten H10.out).mono ?_; rintro e w2 ⟨rfl, hb2⟩; have R1 := hide (Q1.out.after hb2 rfl); have R2 := hide (Q2.out.after hb2 rfl); have HW2 := hide (bOn HW1.out hb2); obtain ⟨_, r0, r1, r2, r3, rf⟩ := R1.out; clear hb2))
  all_goals
    clear s0 s1 s2 s3 sf x0 x1 x2 x3 xf
    obtain ⟨_, y0, y1, y2, y3, yf⟩ := R2.out
    go_wp2
    go_region_held3 (fun w' => w'.cell? ⟨w.heap.size, 0, none⟩ = some (.int .u64 (lm (a * 10) 0)) ∧ w'.cell? ⟨w.heap.size, 1, none⟩ = some (.int .u64 (lm (a * 10) 1)) ∧ w'.cell? ⟨w.heap.size, 2, none⟩ = some (.int .u64 (lm (a * 10) 2)) ∧ w'.cell? ⟨w.heap.size, 3, none⟩ = some (.int .u64 (lm (a * 10) 3))) (simp [go_sem, *]) (first | (go_at_call 31; refine (hof_any _ _ (by omega) (by omega)).mono ?_; rintro e w3 ⟨rfl, hb3⟩; have T1 := hide ((R1.out.put (lm (a * 10) 0) (lm (a * 10) 1) (lm (a * 10) 2) (lm (a * 10) 3)).after hb3 rfl); have T2 := hide ((R2.out.other HNE.out.symm (a' := lm (a * 10) 0) (b' := lm (a * 10) 1) (c' := lm (a * 10) 2) (d' := lm (a * 10) 3)).after hb3 rfl); have HW3 := hide (bOn (put_below (g := w.heap.size) (x := lm (a * 10) 0) (y := lm (a * 10) 1) (z := lm (a * 10) 2) (u := lm (a * 10) 3) HW2.out (Nat.le_refl _)).drew hb3); obtain ⟨_, t0, t1, t2, t3, tf⟩ := T1.out; clear hb3) | (go_at_call 11; refine (huge_add_over _ _ _ H10.out HD.out HS.out).mono ?_; rintro e w4 ⟨rfl, hb4⟩; have U1 := hide (T1.out.after hb4 rfl); have U2 := hide (T2.out.after hb4 rfl); obtain ⟨_, k0, k1, k2, k3, kf⟩ := U1.out; have HW4 := hide (bOn HW3.out hb4); obtain ⟨_, v0, v1, v2, v3, vf⟩ := U2.out; clear hb4))
    all_goals
      go_wp2
      refine bodyPost_ret (v := .tuple #[big (0), .int .i64 2]) ?_ rfl ⟨rfl, put_below HW4.out HGG.out⟩
      simp [results, Try.results42, go_sem, v0, v1, v2, v3]
set_option maxHeartbeats 2000000 in
theorem with_wide (a d : Int) (w : World) (ha : In a) (h10 : ¬ In (a * 10)) :
    Calls Try.prog 42 #[big a, .int .u8 d] w fun e w' => e = .returned (.tuple #[big 0, .int .i64 2]) ∧ Below w.heap.size w w' := by
  have HA := hide ha; have H10 := hide h10;
  clear ha h10
  have hgg : w.heap.size ≤ w.heap.size + 1 := by omega
  have hne : w.heap.size ≠ w.heap.size + 1 := by omega
  have HNE := hide hne; have HGG := hide hgg
  clear hne hgg
  go_enter Try.func42, Try.ntmps42
  go_wp2
  have O1 := (Own.new w (lm a 0) (lm a 1) (lm a 2) (lm a 3) 24).past (.cells #[.int .u64 0, .int .u64 0, .int .u64 0, .int .u64 0] 24)
  have O2 := Own.new' (w.alloc (.cells #[.int .u64 (lm a 0), .int .u64 (lm a 1), .int .u64 (lm a 2), .int .u64 (lm a 3)] 24)) 0 0 0 0 24 (g := w.heap.size + 1) (by simp)
  have Bw := bAl (o := .cells #[.int .u64 0, .int .u64 0, .int .u64 0, .int .u64 0] 24) (bAl (o := .cells #[.int .u64 (lm a 0), .int .u64 (lm a 1), .int .u64 (lm a 2), .int .u64 (lm a 3)] 24) (bMe w))
  generalize (w.alloc (.cells #[.int .u64 (lm a 0), .int .u64 (lm a 1), .int .u64 (lm a 2), .int .u64 (lm a 3)] 24)).alloc (.cells #[.int .u64 0, .int .u64 0, .int .u64 0, .int .u64 0] 24) = W at *
  have P1 := hide O1; have P2 := hide O2; have HW := hide Bw
  obtain ⟨_, x0, x1, x2, x3, xf⟩ := O1
  clear O2 Bw
  go_region_with (first | (go_at_call 31; refine (hof_any _ _ (by omega) (by omega)).mono ?_; rintro e w1 ⟨rfl, hb1⟩; have Q1 := hide (P1.out.after hb1 rfl); have Q2 := hide (P2.out.after hb1 rfl); have HW1 := hide (bOn HW.out.drew hb1); obtain ⟨_, s0, s1, s2, s3, sf⟩ := Q1.out; clear hb1) | (go_at_call 18; refine (huge_mul_over _ _ _ HA.out In.ten H10.out).mono ?_; rintro e w2 ⟨rfl, hb2⟩; have R1 := hide (Q1.out.after hb2 rfl); have R2 := hide (Q2.out.after hb2 rfl); have HW2 := hide (bOn HW1.out hb2); obtain ⟨_, r0, r1, r2, r3, rf⟩ := R1.out; clear hb2))
  all_goals
    clear s0 s1 s2 s3 sf x0 x1 x2 x3 xf
    obtain ⟨_, y0, y1, y2, y3, yf⟩ := R2.out
    go_wp2
    refine bodyPost_ret (v := .tuple #[.agg #[.int .u64 0, .int .u64 0, .int .u64 0, .int .u64 0], .int .i64 2]) ?_ rfl ⟨ret_num0 2, put_below (put_below HW2.out (Nat.le_refl _)) HGG.out⟩
    simp [results, Try.results42, go_sem, y0, y1, y2, y3]
end Go.Proofs.Ytnpffefebghnbaa
