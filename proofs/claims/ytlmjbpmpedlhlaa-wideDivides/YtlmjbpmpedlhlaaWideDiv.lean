/- What wide.Divide tells of 0; '==' of two wide numbers; the contract of wide.Div over this translation. -/
import Derived.Test.YtlmjbpmpedlhlaaWideDivide
namespace Go.Proofs.Ytlmjbpmpedlhlaa
open Go.RowKit Go.Lib
attribute [local go_sem] setCell_drewN alloc_drewN eqInt

/-- Are two rows of eight limbs alike? -/
def same8 (a0 a1 a2 a3 a4 a5 a6 a7 b0 b1 b2 b3 b4 b5 b6 b7 : Int) : Bool := a0 == b0 && (a1 == b1 && (a2 == b2 && (a3 == b3 && (a4 == b4 && (a5 == b5 && (a6 == b6 && a7 == b7))))))
theorem eqWide (a0 a1 a2 a3 a4 a5 a6 a7 b0 b1 b2 b3 b4 b5 b6 b7 : Int) (w : World) : (Op.equalIn 10000 27 (.agg #[.int .u64 a0, .int .u64 a1, .int .u64 a2, .int .u64 a3, .int .u64 a4, .int .u64 a5, .int .u64 a6, .int .u64 a7]) (.agg #[.int .u64 b0, .int .u64 b1, .int .u64 b2, .int .u64 b3, .int .u64 b4, .int .u64 b5, .int .u64 b6, .int .u64 b7])).run Try.prog w = .ok (same8 a0 a1 a2 a3 a4 a5 a6 a7 b0 b1 b2 b3 b4 b5 b6 b7) w := by
  unfold same8
  have u3 := Try.underlying22
  have a3' := Try.isAgg22
  have z3 := Try.sizeOf22
  rw [show (10000 : Nat) = 9999 + 1 from rfl, Op.equalIn]
  simp only [Sem.run_bind, run_underlying Try.underlying27, Result.andThen_ok]
  simp only [Std.Legacy.Range.forIn_eq_forIn_range', Std.Legacy.Range.size, Nat.sub_zero, Nat.add_sub_cancel, Nat.div_one, List.range'_succ, List.range'_zero, List.forIn_cons, List.forIn_nil]
  go_simp
  by_cases h0 : a0 = b0
  · by_cases h1 : a1 = b1
    · by_cases h2 : a2 = b2
      · by_cases h3 : a3 = b3
        · by_cases h4 : a4 = b4
          · by_cases h5 : a5 = b5
            · by_cases h6 : a6 = b6
              · by_cases h7 : a7 = b7
                · simp [h0, h1, h2, h3, h4, h5, h6, h7]
                · simp [h0, h1, h2, h3, h4, h5, h6, h7]
              · simp [h0, h1, h2, h3, h4, h5, h6]
            · simp [h0, h1, h2, h3, h4, h5]
          · simp [h0, h1, h2, h3, h4]
        · simp [h0, h1, h2, h3]
      · simp [h0, h1, h2]
    · simp [h0, h1]
  · simp [h0]
theorem same_null : same4 (lm 0 0) (lm 0 1) (lm 0 2) (lm 0 3) 0 0 0 0 = true := by rw [lm_zero, lm_zero, lm_zero, lm_zero]; rfl
theorem wid_zero : Value.agg #[.int .u64 0, .int .u64 0, .int .u64 0, .int .u64 0, .int .u64 0, .int .u64 0, .int .u64 0, .int .u64 0] = wid 0 := by unfold wid; simp only [lm_zero]
theorem big_zero : Value.agg #[.int .u64 0, .int .u64 0, .int .u64 0, .int .u64 0] = big 0 := by unfold big; simp only [lm_zero]

set_option maxHeartbeats 1000000 in
theorem divide_zero (N : Int) (w : World) :
    Calls Try.prog 13 #[wid N, big 0] w fun e w' => e = .returned (.tuple #[wid 0, big 0, .int .i64 3]) ∧ Below w.heap.size w w' := by
  have s0 := same_null
  have W0 := hide wid_zero; have G0 := hide big_zero
  go_enter Try.func13, Try.ntmps13
  go_wp2
  refine bodyPost_ret (v := .tuple #[.agg #[.int .u64 0, .int .u64 0, .int .u64 0, .int .u64 0, .int .u64 0, .int .u64 0, .int .u64 0, .int .u64 0], .agg #[.int .u64 0, .int .u64 0, .int .u64 0, .int .u64 0], .int .i64 3]) ?_ rfl ⟨?_, ?_⟩
  · simp [results, Try.results13, go_sem]
  · rw [W0.out, G0.out]
  · exact bAl (bAl (bAl (bAl (bMe w))))
/-- What a division tells. -/
def Dd (N d q r c : Int) : Prop := (d = 0 ∧ q = 0 ∧ r = 0 ∧ c = 3) ∨ (d ≠ 0 ∧ q = N / d ∧ r = N % d ∧ c = 0)
theorem divide_any (N d : Int) (w : World) (hN : Wd N) (hd : In d) :
    Calls Try.prog 13 #[wid N, big d] w fun e w' => ∃ q r c, e = .returned (.tuple #[wid q, big r, .int .i64 c]) ∧ Hid (Dd N d q r c) ∧ Below w.heap.size w w' := by
  by_cases h : d = 0
  · subst h
    refine (divide_zero N w).mono ?_
    rintro e w' ⟨rfl, hw⟩
    exact ⟨0, 0, 3, rfl, .inl ⟨rfl, rfl, rfl, rfl⟩, hw⟩
  · refine (divide_raw N d w hN hd h).mono ?_
    rintro e w' ⟨rfl, hw⟩
    exact ⟨_, _, 0, rfl, .inr ⟨h, rfl, rfl, rfl⟩, hw⟩
theorem In.wd {a : Int} (h : In a) : Wd a := ⟨h.1, Int.lt_of_lt_of_le h.2 (by decide)⟩
theorem wid_low {a : Int} (ha : In a) (f : Nat → Int) (hf : ∀ j, j < 8 → f j = laid (fun _ => 0) (lm a) 0 0 4 j) : ∀ j, j < 8 → f j = lm a j := by
  intro j hj
  rw [hf j hj]
  have e := vl_laid (lm a) 0 4 8 (by omega)
  rw [vl_in ha, Int.pow_zero, Int.mul_one] at e
  rw [← e, lm_vl (zero_lim.laid (lm_lim a) 0 0 4) hj, e]

theorem laid_low (h : Nat → Int) : ∀ j, j < 4 → laid (fun _ => 0) h 0 0 4 j = h j := by
  intro j hj; unfold laid; rw [if_pos (by omega)]; congr 1; omega
theorem put4_size (w : World) (g : Nat) (a b c d : Int) : (put4 w g a b c d).heap.size = w.heap.size := by simp [World.setCell]
theorem LRow.put4o {w : World} {g g' n : Nat} {f : Nat → Int} {a b c d : Int} (h : LRow w g n f) (hne : g ≠ g') : LRow (put4 w g' a b c d) g n f :=
  (((h.other hne _).other hne _).other hne _).other hne _

set_option maxHeartbeats 4000000 in
theorem div_big (a d : Int) (w : World) (ha : In a) (hd : In d) :
    Calls Try.prog 18 #[big a, big d] w fun e w' => ∃ q r c, e = .returned (.tuple #[big q, big r, .int .i64 c]) ∧ Hid (Dd a d q r c) ∧ Below w.heap.size w w' := by
  have HA := hide ha; have HD := hide hd
  clear ha hd
  go_enter Try.func18, Try.ntmps18
  go_wp2
  have A := hide ((((((LRow.new4 w (lm a 0) (lm a 1) (lm a 2) (lm a 3) 24 (g := w.heap.size) (by simp)).congr (lit_lm4 a)).past (.cells #[.int .u64 (lm d 0), .int .u64 (lm d 1), .int .u64 (lm d 2), .int .u64 (lm d 3)] 24)).past (.cells #[.int .u64 0, .int .u64 0, .int .u64 0, .int .u64 0] 24)).past (.cells #[.int .u64 0, .int .u64 0, .int .u64 0, .int .u64 0] 24)).past (.cells #[.int .u64 0, .int .u64 0, .int .u64 0, .int .u64 0, .int .u64 0, .int .u64 0, .int .u64 0, .int .u64 0] 27))
  have D := hide (((((LRow.new4 (w.alloc (.cells #[.int .u64 (lm a 0), .int .u64 (lm a 1), .int .u64 (lm a 2), .int .u64 (lm a 3)] 24)) (lm d 0) (lm d 1) (lm d 2) (lm d 3) 24 (g := w.heap.size + 1) (by simp)).congr (lit_lm4 d)).past (.cells #[.int .u64 0, .int .u64 0, .int .u64 0, .int .u64 0] 24)).past (.cells #[.int .u64 0, .int .u64 0, .int .u64 0, .int .u64 0] 24)).past (.cells #[.int .u64 0, .int .u64 0, .int .u64 0, .int .u64 0, .int .u64 0, .int .u64 0, .int .u64 0, .int .u64 0] 27))
  have Q := hide ((((LRow.new4 ((w.alloc (.cells #[.int .u64 (lm a 0), .int .u64 (lm a 1), .int .u64 (lm a 2), .int .u64 (lm a 3)] 24)).alloc (.cells #[.int .u64 (lm d 0), .int .u64 (lm d 1), .int .u64 (lm d 2), .int .u64 (lm d 3)] 24)) 0 0 0 0 24 (g := w.heap.size + 1 + 1) (by simp)).congr (lit_zero (by simp) 4)).past (.cells #[.int .u64 0, .int .u64 0, .int .u64 0, .int .u64 0] 24)).past (.cells #[.int .u64 0, .int .u64 0, .int .u64 0, .int .u64 0, .int .u64 0, .int .u64 0, .int .u64 0, .int .u64 0] 27))
  have R := hide (((LRow.new4 (((w.alloc (.cells #[.int .u64 (lm a 0), .int .u64 (lm a 1), .int .u64 (lm a 2), .int .u64 (lm a 3)] 24)).alloc (.cells #[.int .u64 (lm d 0), .int .u64 (lm d 1), .int .u64 (lm d 2), .int .u64 (lm d 3)] 24)).alloc (.cells #[.int .u64 0, .int .u64 0, .int .u64 0, .int .u64 0] 24)) 0 0 0 0 24 (g := w.heap.size + 1 + 1 + 1) (by simp)).congr (lit_zero (by simp) 4)).past (.cells #[.int .u64 0, .int .u64 0, .int .u64 0, .int .u64 0, .int .u64 0, .int .u64 0, .int .u64 0, .int .u64 0] 27))
  have n0 := hide ((LRow.new8 ((((w.alloc (.cells #[.int .u64 (lm a 0), .int .u64 (lm a 1), .int .u64 (lm a 2), .int .u64 (lm a 3)] 24)).alloc (.cells #[.int .u64 (lm d 0), .int .u64 (lm d 1), .int .u64 (lm d 2), .int .u64 (lm d 3)] 24)).alloc (.cells #[.int .u64 0, .int .u64 0, .int .u64 0, .int .u64 0] 24)).alloc (.cells #[.int .u64 0, .int .u64 0, .int .u64 0, .int .u64 0] 24)) 0 0 0 0 0 0 0 0 27 (g := w.heap.size + 1 + 1 + 1 + 1) (by simp)).congr (lit_zero (by simp) 8))
  have B : Hid (Below w.heap.size w (((((w.alloc (.cells #[.int .u64 (lm a 0), .int .u64 (lm a 1), .int .u64 (lm a 2), .int .u64 (lm a 3)] 24)).alloc (.cells #[.int .u64 (lm d 0), .int .u64 (lm d 1), .int .u64 (lm d 2), .int .u64 (lm d 3)] 24)).alloc (.cells #[.int .u64 0, .int .u64 0, .int .u64 0, .int .u64 0] 24)).alloc (.cells #[.int .u64 0, .int .u64 0, .int .u64 0, .int .u64 0] 24)).alloc (.cells #[.int .u64 0, .int .u64 0, .int .u64 0, .int .u64 0, .int .u64 0, .int .u64 0, .int .u64 0, .int .u64 0] 27))) := hide (bAl (bAl (bAl (bAl (bAl (bMe w))))))
  generalize (((((w.alloc (.cells #[.int .u64 (lm a 0), .int .u64 (lm a 1), .int .u64 (lm a 2), .int .u64 (lm a 3)] 24)).alloc (.cells #[.int .u64 (lm d 0), .int .u64 (lm d 1), .int .u64 (lm d 2), .int .u64 (lm d 3)] 24)).alloc (.cells #[.int .u64 0, .int .u64 0, .int .u64 0, .int .u64 0] 24)).alloc (.cells #[.int .u64 0, .int .u64 0, .int .u64 0, .int .u64 0] 24)).alloc (.cells #[.int .u64 0, .int .u64 0, .int .u64 0, .int .u64 0, .int .u64 0, .int .u64 0, .int .u64 0, .int .u64 0] 27)) = w1 at *
  go_region_law (first | (refine step_copy_rows rfl (.tmp 9) (.tmp 10) rfl (w.heap.size + 1 + 1 + 1 + 1) w.heap.size 0 0 8 8 4 4 8 4 4 (fun _ => 0) (lm a) rfl rfl (by first | exact n0.out | exact n0.out.drew) (by first | exact A.out | exact A.out.drew) rfl (by omega) (by omega) ?_; intro w2 n1 hb2))
  replace D := hide (D.out.bar hb2 (by omega) rfl)
  replace Q := hide (Q.out.bar hb2 (by omega) rfl)
  replace R := hide (R.out.bar hb2 (by omega) rfl)
  have s1 := n0.out.lt
  replace B := hide (hb2.below B.out.drew (by omega) (by simp only [World.drew]; omega))
  replace n1 := hide (n1.congr (wid_low HA.out _ (fun _ _ => rfl)))
  clear hb2 n0 s1 A
  have v0 := n1.out.cell 0 (by omega); have v1 := n1.out.cell 1 (by omega); have v2 := n1.out.cell 2 (by omega); have v3 := n1.out.cell 3 (by omega); have v4 := n1.out.cell 4 (by omega); have v5 := n1.out.cell 5 (by omega); have v6 := n1.out.cell 6 (by omega); have v7 := n1.out.cell 7 (by omega)
  obtain ⟨_, p0, p1, p2, p3, _⟩ := D.out.own
  go_wp2_with fail
  refine (divide_any a d _ HA.out.wd HD.out).mono ?_
  rintro e w3 ⟨q, r, c, rfl, DD, hb3⟩
  replace Q := hide (Q.out.after hb3 rfl)
  replace R := hide (R.out.after hb3 rfl)
  replace B := hide (bOn B.out hb3)
  clear v0 v1 v2 v3 v4 v5 v6 v7 p0 p1 p2 p3 hb3 n1 D
  obtain ⟨_, p0, p1, p2, p3, fr⟩ := R.out.own
  go_wp2_with fail
  clear p0 p1 p2 p3 fr
  obtain ⟨gw, hgw⟩ : ∃ g, Hid (w3.heap.size = g) := ⟨_, rfl⟩
  have sw : w.heap.size + 1 + 1 + 1 < gw := by rw [← hgw.out]; exact R.out.lt
  have W := hide ((LRow.new8 (put4 w3 (w.heap.size + 1 + 1 + 1) (lm r 0) (lm r 1) (lm r 2) (lm r 3)) (lm q 0) (lm q 1) (lm q 2) (lm q 3) (lm q 4) (lm q 5) (lm q 6) (lm q 7) 27 (g := gw) (by rw [put4_size]; exact hgw.out)).congr (lit_lm8 q))
  replace Q := hide ((Q.out.put4o (g' := w.heap.size + 1 + 1 + 1) (a := lm r 0) (b := lm r 1) (c := lm r 2) (d := lm r 3) (by omega)).past (.cells #[.int .u64 (lm q 0), .int .u64 (lm q 1), .int .u64 (lm q 2), .int .u64 (lm q 3), .int .u64 (lm q 4), .int .u64 (lm q 5), .int .u64 (lm q 6), .int .u64 (lm q 7)] 27))
  replace R := hide ((((R.out.own.put (lm r 0) (lm r 1) (lm r 2) (lm r 3)).row).congr (lit_lm4 r)).past (.cells #[.int .u64 (lm q 0), .int .u64 (lm q 1), .int .u64 (lm q 2), .int .u64 (lm q 3), .int .u64 (lm q 4), .int .u64 (lm q 5), .int .u64 (lm q 6), .int .u64 (lm q 7)] 27))
  replace B := hide (bAl (o := .cells #[.int .u64 (lm q 0), .int .u64 (lm q 1), .int .u64 (lm q 2), .int .u64 (lm q 3), .int .u64 (lm q 4), .int .u64 (lm q 5), .int .u64 (lm q 6), .int .u64 (lm q 7)] 27) (put_below (g := w.heap.size + 1 + 1 + 1) (x := lm r 0) (y := lm r 1) (z := lm r 2) (u := lm r 3) B.out (by omega)))
  rw [hgw.out]
  generalize (put4 w3 (w.heap.size + 1 + 1 + 1) (lm r 0) (lm r 1) (lm r 2) (lm r 3)).alloc (.cells #[.int .u64 (lm q 0), .int .u64 (lm q 1), .int .u64 (lm q 2), .int .u64 (lm q 3), .int .u64 (lm q 4), .int .u64 (lm q 5), .int .u64 (lm q 6), .int .u64 (lm q 7)] 27) = w4 at *
  clear hgw
  go_region_law (first | (refine step_copy_rows rfl (.tmp 19) (.tmp 20) rfl (w.heap.size + 1 + 1) gw 0 0 4 4 8 8 4 8 4 (fun _ => 0) (lm q) rfl rfl (by first | exact Q.out | exact Q.out.drew) (by first | exact W.out | exact W.out.drew) rfl (by omega) (by omega) ?_; intro w5 q1 hb5))
  replace R := hide (R.out.bar hb5 (by omega) rfl)
  have s1 := Q.out.lt
  replace B := hide (hb5.below B.out.drew (by omega) (by simp only [World.drew]; omega))
  replace Q := hide (q1.congr (laid_low (lm q)))
  clear hb5 s1 W q1
  obtain ⟨_, p0, p1, p2, p3, fr⟩ := R.out.own
  obtain ⟨_, t0, t1, t2, t3, ft⟩ := Q.out.own
  go_wp2_with fail
  go_region
  go_wp2
  refine bodyPost_ret (v := .tuple #[big q, big r, .int .i64 c]) ?_ rfl ⟨q, r, c, rfl, DD, ?_⟩
  · simp [results, Try.results18, go_sem, *]
  · refine Below.drew ?_
    have a1 : w.heap.size ≤ w.heap.size + 1 + 1 := by omega
    have a2 : w.heap.size ≤ w.heap.size + 1 + 1 + 1 := by omega
    exact put_below (put_below B.out a1) a2
end Go.Proofs.Ytlmjbpmpedlhlaa
