/- The walk of WideBack over this translation. -/
import Derived.Test.YtlmjbpmpedlhlaaWideLaw
import Derived.Deep.RegionHeld3
import Derived.Test.YtlmjbpmpedlhlaaHugeCmp
namespace Go.Proofs.Ytlmjbpmpedlhlaa
open Go.RowKit Go.Lib
attribute [local go_sem] setCell_drewN alloc_drewN eqInt eqWide

theorem mul_p {q b P : Int} (w : World) (hq : In q) (hb : In b) (hP : q * b = P) (h : In P) :
    Calls Try.prog 19 #[big q, big b] w fun e w' => e = .returned (.tuple #[big P, .int .i64 0]) ∧ Below w.heap.size w w' := by
  subst hP; exact huge_mul_ok q b w hq hb h
theorem add_p {p r s : Int} (w : World) (hp : In p) (hr : In r) (hs : p + r = s) (h : In s) :
    Calls Try.prog 20 #[big p, big r] w fun e w' => e = .returned (.tuple #[big s, .int .i64 0]) ∧ Below w.heap.size w w' := by
  subst hs; exact huge_add_ok p r w hp hr h
theorem cmp_lt' {r b : Int} (w : World) (hr : In r) (hb : In b) (h : r < b) :
    Calls Try.prog 21 #[big r, big b] w fun e w' => e = .returned (.int .i64 (-1)) ∧ Below w.heap.size w w' := by
  refine (huge_cmp_any r b w hr hb).mono ?_
  rintro e w' ⟨rfl, hw⟩
  exact ⟨ret_i64 (sg_lt h), hw⟩
/-- A product by one of its numbers. -/
theorem back_down {a b x c : Int} (ha : In a) (hb : b ≠ 0) (h : Sp (a * b / b) b x c) : a = x ∧ c = 0 := by
  rw [Int.mul_ediv_cancel _ hb] at h
  obtain ⟨h1, h2⟩ := h.one (.inr (.inr ⟨hb, ha, rfl, rfl⟩))
  exact ⟨h1.symm, h2⟩
theorem back_up {a b x c : Int} (ha : In a) (hb : b ≠ 0) (h : Sp (upq a b b) b x c) : a = x ∧ c = 0 := by
  have e : upq a b b = a := by unfold upq; rw [Int.mul_ediv_cancel _ hb, Int.mul_emod_left, if_pos rfl, Int.add_zero]
  rw [e] at h
  obtain ⟨h1, h2⟩ := h.one (.inr (.inr ⟨hb, ha, rfl, rfl⟩))
  exact ⟨h1.symm, h2⟩
/-- A quotient, and what is left. -/
theorem back_div {a b q r : Int} (ha : In a) (hb : In b) (h0 : b ≠ 0) (hq : q = a / b) (hr : r = a % b) : In q ∧ In r ∧ In (q * b) ∧ q * b + r = a ∧ r < b := by
  unfold In at ha hb
  have bp : 0 < b := by omega
  have b0 := Int.emod_nonneg a h0
  have b1 := Int.emod_lt_of_pos a bp
  have e := Int.mul_ediv_add_emod a b
  rw [Int.mul_comm] at e
  have q0 : 0 ≤ a / b := Int.ediv_nonneg ha.1 hb.1
  have q1 : a / b ≤ a := Int.ediv_le_self _ ha.1
  have q2 : 0 ≤ a / b * b := Int.mul_nonneg q0 hb.1
  subst hq hr
  unfold In
  generalize a / b * b = t at *
  refine ⟨by omega, by omega, by omega, by omega, b1⟩

set_option maxHeartbeats 4000000 in
theorem wideBack_big (a b : Int) (w : World) (ha : In a) (hb : In b) :
    Calls Try.prog 6 #[big a, big b] w fun e w' => e = .returned (.bool true) ∧ Below w.heap.size w w' := by
  have HA := hide ha; have HB := hide hb
  clear ha hb
  go_enter Try.func6, Try.ntmps6
  go_wp2_with fail
  refine (lives3_any _).mono ?_
  rintro e w1 ⟨rfl, hb1⟩
  have A := hide ((((LRow.new4 w (lm a 0) (lm a 1) (lm a 2) (lm a 3) 24 (g := w.heap.size) (by simp)).congr (lit_lm4 a)).past (.cells #[.int .u64 (lm b 0), .int .u64 (lm b 1), .int .u64 (lm b 2), .int .u64 (lm b 3)] 24)).after hb1 rfl)
  have C := hide (((LRow.new4 (w.alloc (.cells #[.int .u64 (lm a 0), .int .u64 (lm a 1), .int .u64 (lm a 2), .int .u64 (lm a 3)] 24)) (lm b 0) (lm b 1) (lm b 2) (lm b 3) 24 (g := w.heap.size + 1) (by simp)).congr (lit_lm4 b)).after hb1 rfl)
  have B := hide (bOn (bAl (bAl (bMe w))) hb1)
  clear hb1
  obtain ⟨al, a0, a1, a2, a3, _⟩ := A.out.own
  obtain ⟨cl, c0, c1, c2, c3, _⟩ := C.out.own
  go_wp2_with fail
  refine (div_big a b _ HA.out HB.out).mono ?_
  rintro e w2 ⟨q, r, c, rfl, DD, hb2⟩
  have O := hide (((LRow.new4 w1 0 0 0 0 24 rfl).congr (lit_zero (by simp) 4)).after hb2 rfl)
  have ao : w.heap.size + 1 < w1.heap.size := C.out.lt
  replace A := hide ((A.out.past (.cells #[.int .u64 0, .int .u64 0, .int .u64 0, .int .u64 0] 24)).after hb2 rfl)
  replace C := hide ((C.out.past (.cells #[.int .u64 0, .int .u64 0, .int .u64 0, .int .u64 0] 24)).after hb2 rfl)
  replace B := hide (bOn (bAl B.out) hb2)
  clear hb2 al a0 a1 a2 a3 cl c0 c1 c2 c3
  generalize w1.heap.size = go at *
  obtain ⟨al, a0, a1, a2, a3, _⟩ := A.out.own
  obtain ⟨cl, c0, c1, c2, c3, _⟩ := C.out.own
  obtain ⟨ol, o0, o1, o2, o3, _⟩ := O.out.own
  have al2 : w.heap.size < w2.heap.size + 1 := by omega
  have cl2 : w.heap.size + 1 < w2.heap.size + 1 := by omega
  have ol2 : go < w2.heap.size + 1 := by omega
  have an1 : ¬ w.heap.size = w2.heap.size := by omega
  have an2 : ¬ w.heap.size = w2.heap.size + 1 := by omega
  have cn1 : ¬ w.heap.size + 1 = w2.heap.size := by omega
  have cn2 : ¬ w.heap.size + 1 = w2.heap.size + 1 := by omega
  have on1 : ¬ go = w2.heap.size := by omega
  have on2 : ¬ go = w2.heap.size + 1 := by omega
  by_cases h0 : b = 0
  · rcases DD.out with ⟨_, hq, hr, rfl⟩ | ⟨h1, _⟩
    · have sb : same4 (lm b 0) (lm b 1) (lm b 2) (lm b 3) 0 0 0 0 = true := by rw [h0]; exact same_null
      have sq : same4 (lm q 0) (lm q 1) (lm q 2) (lm q 3) 0 0 0 0 = true := by rw [hq]; exact same_null
      have sr : same4 (lm r 0) (lm r 1) (lm r 2) (lm r 3) 0 0 0 0 = true := by rw [hr]; exact same_null
      clear h0 hq hr
      go_wp2
      go_ret
      exact ⟨rfl, bAl (bAl B.out)⟩
    · exact absurd h0 h1
  · rcases DD.out with ⟨h1, _⟩ | ⟨_, hq, hr, rfl⟩
    · exact absurd h1 h0
    have sb := not_same HB.out h0
    obtain ⟨iq, ir, ip, es, lt⟩ := back_div HA.out HB.out h0 hq hr
    obtain ⟨P, hP⟩ : ∃ P, Hid (q * b = P) := ⟨_, rfl⟩
    rw [hP.out] at ip es
    have IQ := hide iq; have IR := hide ir; have IP := hide ip; have ES := hide es; have LT := hide lt; have H0 := hide h0
    clear iq ir ip es lt hq hr h0 DD
    go_wp2_with fail
    refine (mul_div_down a b b _ HA.out HB.out HB.out).mono ?_
    rintro e w3 ⟨x, f, rfl, S1, hb3⟩
    obtain ⟨rfl, rfl⟩ := back_down HA.out H0.out S1.out
    have Qb := hide ((((LRow.new4 w2 (lm q 0) (lm q 1) (lm q 2) (lm q 3) 24 rfl).congr (lit_lm4 q)).past (.cells #[.int .u64 (lm r 0), .int .u64 (lm r 1), .int .u64 (lm r 2), .int .u64 (lm r 3)] 24)).after hb3 rfl)
    have Rb := hide (((LRow.new4 (w2.alloc (.cells #[.int .u64 (lm q 0), .int .u64 (lm q 1), .int .u64 (lm q 2), .int .u64 (lm q 3)] 24)) (lm r 0) (lm r 1) (lm r 2) (lm r 3) 24 (g := w2.heap.size + 1) (by simp)).congr (lit_lm4 r)).after hb3 rfl)
    replace A := hide (((A.out.past (.cells #[.int .u64 (lm q 0), .int .u64 (lm q 1), .int .u64 (lm q 2), .int .u64 (lm q 3)] 24)).past (.cells #[.int .u64 (lm r 0), .int .u64 (lm r 1), .int .u64 (lm r 2), .int .u64 (lm r 3)] 24)).after hb3 rfl)
    replace C := hide (((C.out.past (.cells #[.int .u64 (lm q 0), .int .u64 (lm q 1), .int .u64 (lm q 2), .int .u64 (lm q 3)] 24)).past (.cells #[.int .u64 (lm r 0), .int .u64 (lm r 1), .int .u64 (lm r 2), .int .u64 (lm r 3)] 24)).after hb3 rfl)
    replace B := hide (bOn (bAl (bAl B.out)) hb3)
    clear hb3 al2 cl2 ol2 an1 an2 cn1 cn2 on1 on2 al a0 a1 a2 a3 cl c0 c1 c2 c3 ol o0 o1 o2 o3 O
    generalize w2.heap.size = gq at *
    obtain ⟨al, a0, a1, a2, a3, _⟩ := A.out.own
    obtain ⟨cl, c0, c1, c2, c3, _⟩ := C.out.own
    go_wp2_with fail
    refine (mul_div_up a b b _ HA.out HB.out HB.out).mono ?_
    rintro e w4 ⟨y, g, rfl, S2, hb4⟩
    obtain ⟨rfl, rfl⟩ := back_up HA.out H0.out S2.out
    have X := hide (((LRow.new4 w3 (lm a 0) (lm a 1) (lm a 2) (lm a 3) 24 rfl).congr (lit_lm4 a)).after hb4 rfl)
    replace A := hide ((A.out.past (.cells #[.int .u64 (lm a 0), .int .u64 (lm a 1), .int .u64 (lm a 2), .int .u64 (lm a 3)] 24)).after hb4 rfl)
    replace C := hide ((C.out.past (.cells #[.int .u64 (lm a 0), .int .u64 (lm a 1), .int .u64 (lm a 2), .int .u64 (lm a 3)] 24)).after hb4 rfl)
    replace Qb := hide ((Qb.out.past (.cells #[.int .u64 (lm a 0), .int .u64 (lm a 1), .int .u64 (lm a 2), .int .u64 (lm a 3)] 24)).after hb4 rfl)
    replace Rb := hide ((Rb.out.past (.cells #[.int .u64 (lm a 0), .int .u64 (lm a 1), .int .u64 (lm a 2), .int .u64 (lm a 3)] 24)).after hb4 rfl)
    replace B := hide (bOn (bAl B.out) hb4)
    clear hb4 al a0 a1 a2 a3 cl c0 c1 c2 c3
    generalize w3.heap.size = gx at *
    obtain ⟨al, a0, a1, a2, a3, _⟩ := A.out.own
    obtain ⟨cl, c0, c1, c2, c3, _⟩ := C.out.own
    obtain ⟨xl, x0, x1, x2, x3, _⟩ := X.out.own
    obtain ⟨ql, q0, q1, q2, q3, _⟩ := Qb.out.own
    have s4 := same4_self a
    go_wp2_with fail
    refine (mul_p (P := P) _ IQ.out HB.out hP.out IP.out).mono ?_
    rintro e w5 ⟨rfl, hb5⟩
    replace A := hide ((A.out.past (.cells #[.int .u64 (lm a 0), .int .u64 (lm a 1), .int .u64 (lm a 2), .int .u64 (lm a 3)] 24)).after hb5 rfl)
    replace C := hide ((C.out.past (.cells #[.int .u64 (lm a 0), .int .u64 (lm a 1), .int .u64 (lm a 2), .int .u64 (lm a 3)] 24)).after hb5 rfl)
    replace Rb := hide ((Rb.out.past (.cells #[.int .u64 (lm a 0), .int .u64 (lm a 1), .int .u64 (lm a 2), .int .u64 (lm a 3)] 24)).after hb5 rfl)
    replace B := hide (bOn (bAl B.out) hb5)
    clear hb5 al a0 a1 a2 a3 cl c0 c1 c2 c3 xl x0 x1 x2 x3 ql q0 q1 q2 q3 X Qb
    obtain ⟨rl, r0, r1, r2, r3, _⟩ := Rb.out.own
    go_wp2_with fail
    refine (add_p (s := a) _ IP.out IR.out ES.out HA.out).mono ?_
    rintro e w6 ⟨rfl, hb6⟩
    replace A := hide ((A.out.past (.cells #[.int .u64 (lm P 0), .int .u64 (lm P 1), .int .u64 (lm P 2), .int .u64 (lm P 3)] 24)).after hb6 rfl)
    replace C := hide ((C.out.past (.cells #[.int .u64 (lm P 0), .int .u64 (lm P 1), .int .u64 (lm P 2), .int .u64 (lm P 3)] 24)).after hb6 rfl)
    replace Rb := hide ((Rb.out.past (.cells #[.int .u64 (lm P 0), .int .u64 (lm P 1), .int .u64 (lm P 2), .int .u64 (lm P 3)] 24)).after hb6 rfl)
    replace B := hide (bOn (bAl B.out) hb6)
    clear hb6 rl r0 r1 r2 r3
    obtain ⟨al, a0, a1, a2, a3, _⟩ := A.out.own
    obtain ⟨cl, c0, c1, c2, c3, _⟩ := C.out.own
    obtain ⟨rl, r0, r1, r2, r3, _⟩ := Rb.out.own
    go_wp2_with fail
    refine (cmp_lt' _ IR.out HB.out LT.out).mono ?_
    rintro e w7 ⟨rfl, hb7⟩
    replace B := hide (bOn (bAl B.out) hb7)
    clear hb7
    go_wp2
    go_ret
    exact ⟨rfl, B.out⟩
theorem wideBack_walk (a0 a1 a2 a3 b0 b1 b2 b3 : Int) (u0 : (Lit.int .u64 a0).wf = true) (u1 : (Lit.int .u64 a1).wf = true) (u2 : (Lit.int .u64 a2).wf = true) (u3 : (Lit.int .u64 a3).wf = true) (v0 : (Lit.int .u64 b0).wf = true) (v1 : (Lit.int .u64 b1).wf = true) (v2 : (Lit.int .u64 b2).wf = true) (v3 : (Lit.int .u64 b3).wf = true) (w : World) :
    Calls Try.prog 6 #[.agg #[.int .u64 a0, .int .u64 a1, .int .u64 a2, .int .u64 a3], .agg #[.int .u64 b0, .int .u64 b1, .int .u64 b2, .int .u64 b3]] w fun e w' => e = .returned (.bool true) ∧ Below w.heap.size w w' := by
  rw [big_four u0 u1 u2 u3, big_four v0 v1 v2 v3]
  exact wideBack_big _ _ w (in_four u0 u1 u2 u3) (in_four v0 v1 v2 v3)
end Go.Proofs.Ytlmjbpmpedlhlaa
