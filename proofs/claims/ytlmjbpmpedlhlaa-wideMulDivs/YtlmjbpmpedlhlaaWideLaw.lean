/- What the laws of wide share: that the program lives, and a wide number's digits. -/
import Derived.Test.YtlmjbpmpedlhlaaWideMulDivs
import Derived.Test.YtlmjbpmpedlhlaaRef2
import Derived.OpenShut
namespace Go.Proofs.Ytlmjbpmpedlhlaa
open Go.RowKit Go.Lib
attribute [local go_sem] setCell_drewN alloc_drewN eqInt eqWide

theorem live_up : upq 7 5 3 = 12 := by decide
theorem same4_self (a : Int) : same4 (lm a 0) (lm a 1) (lm a 2) (lm a 3) (lm a 0) (lm a 1) (lm a 2) (lm a 3) = true := by unfold same4; simp
set_option maxHeartbeats 1000000 in
theorem lives3_any (w : World) : Calls Try.prog 7 #[] w fun e w' => e = .returned (.bool true) ∧ Below w.heap.size w w' := by
  go_enter Try.func7, Try.ntmps7
  go_wp2_with fail
  refine (hof_any 7 _ (by omega) (by omega)).mono ?_
  rintro e w1 ⟨rfl, hb1⟩
  go_wp2_with fail
  refine (hof_any 5 _ (by omega) (by omega)).mono ?_
  rintro e w2 ⟨rfl, hb2⟩
  go_wp2_with fail
  refine (hof_any 3 _ (by omega) (by omega)).mono ?_
  rintro e w3 ⟨rfl, hb3⟩
  go_wp2_with fail
  refine (mul_div_up 7 5 3 _ (by unfold In; omega) (by unfold In; omega) (by unfold In; omega)).mono ?_
  rintro e w4 ⟨q, c, rfl, S, hb4⟩
  have B := hide (bOn (bOn (bOn hb1 hb2) hb3) hb4)
  have SS := S.out
  rw [live_up] at SS
  obtain ⟨rfl, rfl⟩ : q = 12 ∧ c = 0 := Sp.one SS (.inr (.inr ⟨by decide, by unfold In; omega, rfl, rfl⟩))
  clear SS S hb1 hb2 hb3 hb4
  go_wp2_with fail
  obtain ⟨gq, hgq⟩ : ∃ g, Hid (w4.heap.size = g) := ⟨_, rfl⟩
  have QQ := hide ((LRow.new4 w4 (lm 12 0) (lm 12 1) (lm 12 2) (lm 12 3) 24 hgq.out).congr (lit_lm4 12))
  replace B := hide (bAl (o := .cells #[.int .u64 (lm 12 0), .int .u64 (lm 12 1), .int .u64 (lm 12 2), .int .u64 (lm 12 3)] 24) B.out)
  rw [hgq.out]
  generalize w4.alloc (.cells #[.int .u64 (lm 12 0), .int .u64 (lm 12 1), .int .u64 (lm 12 2), .int .u64 (lm 12 3)] 24) = w5 at *
  have s0 := same4_self 12
  clear hgq
  go_region_held3 (fun w' => w'.cell? ⟨gq, 0, none⟩ = some (.int .u64 (lm 12 0)) ∧ w'.cell? ⟨gq, 1, none⟩ = some (.int .u64 (lm 12 1)) ∧ w'.cell? ⟨gq, 2, none⟩ = some (.int .u64 (lm 12 2)) ∧ w'.cell? ⟨gq, 3, none⟩ = some (.int .u64 (lm 12 3))) (first | with_reducible exact held4 QQ.out | with_reducible exact held4 QQ.out.drew)
    (first | (go_at_call 22; refine (hof_any 12 _ (by omega) (by omega)).mono ?_; rintro e w6 ⟨rfl, hb6⟩; replace QQ := hide (QQ.out.after hb6 rfl); replace B := hide (by first | exact bOn B.out hb6 | exact bOn B.out.drew hb6); clear hb6))
  all_goals
    go_wp2
    go_ret
    exact ⟨rfl, B.out⟩

theorem lim_of {a : Int} (h : (Lit.int .u64 a).wf = true) : 0 ≤ a ∧ a < 18446744073709551616 := by
  have := bounds_u64 h; omega
theorem in_four {a b c d : Int} (h0 : (Lit.int .u64 a).wf = true) (h1 : (Lit.int .u64 b).wf = true) (h2 : (Lit.int .u64 c).wf = true) (h3 : (Lit.int .u64 d).wf = true) : In (four a b c d) := four_in (lim_of h0) (lim_of h1) (lim_of h2) (lim_of h3)
theorem big_four {a b c d : Int} (h0 : (Lit.int .u64 a).wf = true) (h1 : (Lit.int .u64 b).wf = true) (h2 : (Lit.int .u64 c).wf = true) (h3 : (Lit.int .u64 d).wf = true) : Value.agg #[.int .u64 a, .int .u64 b, .int .u64 c, .int .u64 d] = big (four a b c d) := by
  obtain ⟨e0, e1, e2, e3⟩ := lm_four (lim_of h0) (lim_of h1) (lim_of h2) (lim_of h3)
  unfold big
  rw [e0, e1, e2, e3]

theorem lit17 (w : World) : Num (w.alloc (.cells #[.int .i64 0, .int .i64 0, .int .i64 0, .int .i64 0, .int .i64 0, .int .i64 0, .int .i64 0, .int .i64 0, .int .i64 0, .int .i64 0, .int .i64 0, .int .i64 0, .int .i64 0, .int .i64 0, .int .i64 0, .int .i64 0, .int .i64 1] 3)) (some ⟨w.heap.size, 0, none⟩) 17 17 115792089237316195423570985008687907853269984665640564039457584007913129639936 17 :=
  Num.lit w [0, 0, 0, 0, 0, 0, 0, 0, 0, 0, 0, 0, 0, 0, 0, 0, 1] (by decide) (by intro d hd; simp at hd; omega) (by intro _; decide)
/-- The lower and the upper half of a wide number. -/
theorem halves {N : Int} (h : Wd N) : ∃ lo hi, In lo ∧ In hi ∧ N = lo + hi * 115792089237316195423570985008687907853269984665640564039457584007913129639936 ∧ lm N 0 = lm lo 0 ∧ lm N 1 = lm lo 1 ∧ lm N 2 = lm lo 2 ∧ lm N 3 = lm lo 3 ∧ lm N 4 = lm hi 0 ∧ lm N 5 = lm hi 1 ∧ lm N 6 = lm hi 2 ∧ lm N 7 = lm hi 3 := by
  have e := vl_wd h
  rw [show (8 : Nat) = 4 + 4 from rfl, vl_split] at e
  have b1 := vl_bd (lm_lim N) 4
  have L2 : ∀ j, 0 ≤ (fun j => lm N (4 + j)) j ∧ (fun j => lm N (4 + j)) j < 18446744073709551616 := fun j => lm_bd N (4 + j)
  have b2 := vl_bd L2 4
  refine ⟨vl (lm N) 4, vl (fun j => lm N (4 + j)) 4, ⟨b1.1, Int.lt_of_lt_of_le b1.2 (by decide)⟩, ⟨b2.1, Int.lt_of_lt_of_le b2.2 (by decide)⟩, ?_, ?_, ?_, ?_, ?_, ?_, ?_, ?_, ?_⟩
  · rw [Int.mul_comm] at e
    exact e.symm
  all_goals first | rw [lm_vl (lm_lim N) (by omega)] | rw [lm_vl L2 (by omega)]

set_option maxHeartbeats 1000000 in
theorem row3_any (N : Int) (w : World) (h : Wd N) :
    Calls Try.prog 10 #[wid N] w fun e w' => ∃ ao n cap, e = .returned (.slice ao n cap) ∧ Num w' ao n cap N 34 ∧ Below w.heap.size w w' := by
  obtain ⟨lo, hi, il, ih, hN, e0, e1, e2, e3, e4, e5, e6, e7⟩ := halves h
  unfold wid
  rw [e0, e1, e2, e3, e4, e5, e6, e7]
  have IL := hide il; have IH := hide ih; have HN := hide hN
  clear h il ih hN e0 e1 e2 e3 e4 e5 e6 e7
  go_enter Try.func10, Try.ntmps10
  go_wp2_with fail
  refine (row_of lo _ IL.out).mono ?_
  rintro e w1 ⟨xo, xn, xc, rfl, nx, hb1⟩
  have W := hide ((LRow.new8 w (lm lo 0) (lm lo 1) (lm lo 2) (lm lo 3) (lm hi 0) (lm hi 1) (lm hi 2) (lm hi 3) 27 rfl).after hb1 rfl)
  have B := hide (bOn (bAl (bMe w)) hb1)
  have NX := hide nx
  clear hb1 nx
  have v4 := W.out.cell 4 (by omega); have v5 := W.out.cell 5 (by omega); have v6 := W.out.cell 6 (by omega); have v7 := W.out.cell 7 (by omega)
  simp only [lit, List.getD_cons_zero, List.getD_cons_succ] at v4 v5 v6 v7
  go_wp2_with fail
  refine (row_of hi _ IH.out).mono ?_
  rintro e w2 ⟨yo, yn, yc, rfl, ny, hb2⟩
  replace NX := hide (NX.out.below hb2)
  replace B := hide (bOn B.out hb2)
  have NY := hide ny
  clear hb2 ny v4 v5 v6 v7 W
  go_wp2_with fail
  refine (mul_any (NY.out.below (bAl (bMe w2))) (lit17 w2) (by omega)).mono ?_
  rintro e w3 ⟨zo, zn, zc, rfl, nz, hb3⟩
  replace NX := hide (NX.out.below (bOn (bAl (bMe w2)) hb3))
  replace B := hide (bOn (bAl B.out) hb3)
  have NZ := hide nz
  clear hb3 nz
  go_wp2_with fail
  refine (add_any (NX.out.mono (by omega)) NZ.out (by omega)).mono ?_
  rintro e w4 ⟨so, sn, sc, rfl, ns, hb4⟩
  replace B := hide (bOn B.out hb4)
  have NS := hide ns
  clear hb4 ns
  rw [← HN.out] at NS
  go_wp2
  go_ret
  exact ⟨so, sn, sc, rfl, NS.out, B.out⟩
end Go.Proofs.Ytlmjbpmpedlhlaa
