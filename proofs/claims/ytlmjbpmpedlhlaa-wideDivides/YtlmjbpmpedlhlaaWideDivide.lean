/- The contract of wide.Divide over this translation. -/
import Derived.Test.YtlmjbpmpedlhlaaWideProd
import Derived.Test.YtlmjbpmpedlhlaaWideTake
import Derived.Test.YtlmjbpmpedlhlaaWideMath3
import Derived.Deep.RegionLaw
namespace Go.Proofs.Ytlmjbpmpedlhlaa
open Go.RowKit Go.Lib
attribute [local go_sem] setCell_drewN alloc_drewN eqInt

theorem LRow.new8 (w : World) (a0 a1 a2 a3 a4 a5 a6 a7 : Int) (t : TypeId) {g : Nat} (e : w.heap.size = g) : LRow (w.alloc (.cells #[.int .u64 a0, .int .u64 a1, .int .u64 a2, .int .u64 a3, .int .u64 a4, .int .u64 a5, .int .u64 a6, .int .u64 a7] t)) g 8 (lit [a0, a1, a2, a3, a4, a5, a6, a7]) :=
  LRow.new w [a0, a1, a2, a3, a4, a5, a6, a7] 8 rfl t e
theorem LRow.new4 (w : World) (a0 a1 a2 a3 : Int) (t : TypeId) {g : Nat} (e : w.heap.size = g) : LRow (w.alloc (.cells #[.int .u64 a0, .int .u64 a1, .int .u64 a2, .int .u64 a3] t)) g 4 (lit [a0, a1, a2, a3]) :=
  LRow.new w [a0, a1, a2, a3] 4 rfl t e
theorem LRow.new12 (w : World) (a0 a1 a2 a3 a4 a5 a6 a7 a8 a9 a10 a11 : Int) (t : TypeId) {g : Nat} (e : w.heap.size = g) : LRow (w.alloc (.cells #[.int .u64 a0, .int .u64 a1, .int .u64 a2, .int .u64 a3, .int .u64 a4, .int .u64 a5, .int .u64 a6, .int .u64 a7, .int .u64 a8, .int .u64 a9, .int .u64 a10, .int .u64 a11] t)) g 12 (lit [a0, a1, a2, a3, a4, a5, a6, a7, a8, a9, a10, a11]) :=
  LRow.new w [a0, a1, a2, a3, a4, a5, a6, a7, a8, a9, a10, a11] 12 rfl t e
theorem lit_lm8 (n : Int) : ∀ j, j < 8 → lit [lm n 0, lm n 1, lm n 2, lm n 3, lm n 4, lm n 5, lm n 6, lm n 7] j = lm n j := by
  intro j hj
  rcases (by omega : j = 0 ∨ j = 1 ∨ j = 2 ∨ j = 3 ∨ j = 4 ∨ j = 5 ∨ j = 6 ∨ j = 7) with rfl | rfl | rfl | rfl | rfl | rfl | rfl | rfl <;> rfl
theorem lit_lm4 (n : Int) : ∀ j, j < 4 → lit [lm n 0, lm n 1, lm n 2, lm n 3] j = lm n j := by
  intro j hj
  rcases (by omega : j = 0 ∨ j = 1 ∨ j = 2 ∨ j = 3) with rfl | rfl | rfl | rfl <;> rfl
theorem lit_zero {l : List Int} (h : ∀ x ∈ l, x = 0) (n : Nat) : ∀ j, j < n → lit l j = (fun _ => (0 : Int)) j := by
  intro j _
  unfold lit
  rw [List.getD_eq_getElem?_getD]
  cases hx : l[j]? with
  | none => rfl
  | some x => exact h x (List.mem_of_getElem? hx)
theorem LRow.drew {w : World} {g n : Nat} {f : Nat → Int} (h : LRow w g n f) : LRow w.drew g n f := h.of (Nat.le_refl _) rfl
theorem cut4 (g k : Nat) (hk : k ≤ 3) (w : World) : (Instr.sliceAt 24 (.pointer (some ⟨g, 0, none⟩)) (some (.int .i64 k)) none none).run Try.prog w = .ok (.slice (some ⟨g, k, none⟩) (4 - k) (4 - k)) w := by
  rcases (by omega : k = 0 ∨ k = 1 ∨ k = 2 ∨ k = 3) with rfl | rfl | rfl | rfl <;> kernel_rfl
theorem cut12 (g k : Nat) (hk : k ≤ 3) (w : World) : (Instr.sliceAt 58 (.pointer (some ⟨g, 0, none⟩)) (some (.int .i64 k)) none none).run Try.prog w = .ok (.slice (some ⟨g, k, none⟩) (12 - k) (12 - k)) w := by
  rcases (by omega : k = 0 ∨ k = 1 ∨ k = 2 ∨ k = 3) with rfl | rfl | rfl | rfl <;> kernel_rfl
theorem cut12to4 (g k : Nat) (hk : k ≤ 3) (w : World) : (Instr.sliceAt 58 (.pointer (some ⟨g, 0, none⟩)) (some (.int .i64 k)) (some (.int .i64 4)) none).run Try.prog w = .ok (.slice (some ⟨g, k, none⟩) (4 - k) (12 - k)) w := by
  rcases (by omega : k = 0 ∨ k = 1 ∨ k = 2 ∨ k = 3) with rfl | rfl | rfl | rfl <;> kernel_rfl
theorem cut5 (g k : Nat) (hk : k < 8) (w : World) : (Instr.sliceAt 58 (.pointer (some ⟨g, 0, none⟩)) (some (.int .i64 k)) (some (.int .i64 ((k : Int) + 5))) none).run Try.prog w = .ok (.slice (some ⟨g, k, none⟩) 5 (12 - k)) w := by
  rcases (by omega : k = 0 ∨ k = 1 ∨ k = 2 ∨ k = 3 ∨ k = 4 ∨ k = 5 ∨ k = 6 ∨ k = 7) with rfl | rfl | rfl | rfl | rfl | rfl | rfl | rfl <;> kernel_rfl
theorem wrap_four (i : Nat) (hi : i < 8) : IntKind.i64.wrap ((i : Int) + 4) = (i : Int) + 4 := by
  rcases (by omega : i = 0 ∨ i = 1 ∨ i = 2 ∨ i = 3 ∨ i = 4 ∨ i = 5 ∨ i = 6 ∨ i = 7) with rfl | rfl | rfl | rfl | rfl | rfl | rfl | rfl <;> decide
theorem wrap_five (i : Nat) (hi : i < 8) : IntKind.i64.wrap ((i : Int) + 4 + 1) = (i : Int) + 5 := by
  rcases (by omega : i = 0 ∨ i = 1 ∨ i = 2 ∨ i = 3 ∨ i = 4 ∨ i = 5 ∨ i = 6 ∨ i = 7) with rfl | rfl | rfl | rfl | rfl | rfl | rfl | rfl <;> decide
theorem not_same {d : Int} (hd : In d) (hp : d ≠ 0) : same4 (lm d 0) (lm d 1) (lm d 2) (lm d 3) 0 0 0 0 = false := by
  rw [same_zero (lm_bd d 0) (lm_bd d 1) (lm_bd d 2) (lm_bd d 3), four_lm hd]
  simp [hp]

set_option maxHeartbeats 4000000 in
theorem divide_raw (N d : Int) (w : World) (hN : Wd N) (hd : In d) (hp : d ≠ 0) :
    Calls Try.prog 13 #[wid N, big d] w fun e w' => e = .returned (.tuple #[wid (N / d), big (N % d), .int .i64 0]) ∧ Below w.heap.size w w' := by
  have s0 := not_same hd hp
  have HN := hide hN; have HD := hide hd; have HP := hide hp
  clear hN hd hp
  go_enter Try.func13, Try.ntmps13
  go_wp2_with fail
  refine (room_any d _ HD.out HP.out).mono ?_
  rintro e w1 ⟨k, b, rfl, M, hb1⟩
  have HM := hide M
  clear M s0
  have n0 := hide ((((((LRow.new8 w _ _ _ _ _ _ _ _ 27 rfl).congr (lit_lm8 N)).past (.cells #[.int .u64 (lm d 0), .int .u64 (lm d 1), .int .u64 (lm d 2), .int .u64 (lm d 3)] 24)).past (.cells #[.int .u64 0, .int .u64 0, .int .u64 0, .int .u64 0, .int .u64 0, .int .u64 0, .int .u64 0, .int .u64 0] 27)).past (.cells #[.int .u64 0, .int .u64 0, .int .u64 0, .int .u64 0] 24)).after hb1 rfl)
  have d0 := hide ((((((LRow.new4 (w.alloc (.cells #[.int .u64 (lm N 0), .int .u64 (lm N 1), .int .u64 (lm N 2), .int .u64 (lm N 3), .int .u64 (lm N 4), .int .u64 (lm N 5), .int .u64 (lm N 6), .int .u64 (lm N 7)] 27)) (lm d 0) (lm d 1) (lm d 2) (lm d 3) 24 (g := w.heap.size + 1) (by simp)).congr (lit_lm4 d)).past (.cells #[.int .u64 0, .int .u64 0, .int .u64 0, .int .u64 0, .int .u64 0, .int .u64 0, .int .u64 0, .int .u64 0] 27)).past (.cells #[.int .u64 0, .int .u64 0, .int .u64 0, .int .u64 0] 24))).after hb1 rfl)
  have q0 := hide (((((LRow.new8 ((w.alloc (.cells #[.int .u64 (lm N 0), .int .u64 (lm N 1), .int .u64 (lm N 2), .int .u64 (lm N 3), .int .u64 (lm N 4), .int .u64 (lm N 5), .int .u64 (lm N 6), .int .u64 (lm N 7)] 27)).alloc (.cells #[.int .u64 (lm d 0), .int .u64 (lm d 1), .int .u64 (lm d 2), .int .u64 (lm d 3)] 24)) 0 0 0 0 0 0 0 0 27 (g := w.heap.size + 1 + 1) (by simp)).congr (lit_zero (by simp) 8)).past (.cells #[.int .u64 0, .int .u64 0, .int .u64 0, .int .u64 0] 24))).after hb1 rfl)
  have r0 := hide (((LRow.new4 (((w.alloc (.cells #[.int .u64 (lm N 0), .int .u64 (lm N 1), .int .u64 (lm N 2), .int .u64 (lm N 3), .int .u64 (lm N 4), .int .u64 (lm N 5), .int .u64 (lm N 6), .int .u64 (lm N 7)] 27)).alloc (.cells #[.int .u64 (lm d 0), .int .u64 (lm d 1), .int .u64 (lm d 2), .int .u64 (lm d 3)] 24)).alloc (.cells #[.int .u64 0, .int .u64 0, .int .u64 0, .int .u64 0, .int .u64 0, .int .u64 0, .int .u64 0, .int .u64 0] 27)) 0 0 0 0 24 (g := w.heap.size + 1 + 1 + 1) (by simp)).congr (lit_zero (by simp) 4)).after hb1 rfl)
  have B := hide (bOn (bAl (bAl (bAl (bAl (bMe w))))) hb1)
  have sz := hb1.size
  simp only [World.size_alloc] at sz
  clear hb1
  obtain ⟨k3, b63⟩ : k ≤ 3 ∧ b < 64 := ⟨HM.out.k3, HM.out.b63⟩
  have kc : (k : Int) ≤ 3 := by omega
  go_wp2
  obtain ⟨gb, hgb⟩ : ∃ g, Hid (w1.heap.size = g) := ⟨_, rfl⟩
  have y0 := hide ((LRow.new4 w1 0 0 0 0 24 hgb.out).congr (lit_zero (by simp) 4))
  replace n0 := hide (n0.out.past (.cells #[.int .u64 0, .int .u64 0, .int .u64 0, .int .u64 0] 24))
  replace d0 := hide (d0.out.past (.cells #[.int .u64 0, .int .u64 0, .int .u64 0, .int .u64 0] 24))
  replace q0 := hide (q0.out.past (.cells #[.int .u64 0, .int .u64 0, .int .u64 0, .int .u64 0] 24))
  replace r0 := hide (r0.out.past (.cells #[.int .u64 0, .int .u64 0, .int .u64 0, .int .u64 0] 24))
  replace B := hide (bAl (o := .cells #[.int .u64 0, .int .u64 0, .int .u64 0, .int .u64 0] 24) B.out)
  rw [hgb.out] at sz
  rw [hgb.out]
  generalize w1.alloc (.cells #[.int .u64 0, .int .u64 0, .int .u64 0, .int .u64 0] 24) = w2 at *
  clear hgb
  have cut := fun w => cut4 gb k k3 w
  go_region_law (first | (refine step_copy_rows rfl (.tmp 23) (.tmp 24) rfl gb (w.heap.size + 1) k 0 (4 - k) (4 - k) 4 4 4 4 (4 - k) (fun _ => 0) (lm d) rfl rfl (by first | exact y0.out | exact y0.out.drew) (by first | exact d0.out | exact d0.out.drew) min_low (by omega) (by omega) ?_; intro w3 y1 hb3))
  replace n0 := hide (n0.out.bar hb3 (by omega) rfl)
  replace q0 := hide (q0.out.bar hb3 (by omega) rfl)
  replace r0 := hide (r0.out.bar hb3 (by omega) rfl)
  have sb := y0.out.lt
  replace B := hide (hb3.below B.out.drew (by omega) (by simp only [World.drew]; omega))
  clear hb3 cut y0 d0
  replace y1 := hide y1
  go_wp2_with fail
  refine (shift_up_any (n := 3) y1.out (zero_lim.laid (lm_lim d) k 0 (4 - k)) b63 (by omega)).mono ?_
  rintro e w4 ⟨rfl, y2, hb4⟩
  have Y := hide (y2.congr (f' := lm (d * 18446744073709551616 ^ k * 2 ^ b)) (fun j hj => by rw [← by_val HM.out, lm_vl (up_lim (zero_lim.laid (lm_lim d) k 0 (4 - k)) b63) hj]))
  replace n0 := hide (n0.out.bar hb4 (by omega) rfl)
  replace q0 := hide (q0.out.bar hb4 (by omega) rfl)
  replace r0 := hide (r0.out.bar hb4 (by omega) rfl)
  replace B := hide (hb4.below B.out (by omega) (by have := y1.out.lt; omega))
  clear hb4 y2 y1
  go_wp2
  obtain ⟨gr, hgr⟩ : ∃ g, Hid (w4.heap.size = g) := ⟨_, rfl⟩
  have sr : gb < gr := by rw [← hgr.out]; exact Y.out.lt
  have z0 := hide ((LRow.new12 w4 0 0 0 0 0 0 0 0 0 0 0 0 58 hgr.out).congr (lit_zero (by simp) 12))
  replace n0 := hide (n0.out.past (.cells #[.int .u64 0, .int .u64 0, .int .u64 0, .int .u64 0, .int .u64 0, .int .u64 0, .int .u64 0, .int .u64 0, .int .u64 0, .int .u64 0, .int .u64 0, .int .u64 0] 58))
  replace q0 := hide (q0.out.past (.cells #[.int .u64 0, .int .u64 0, .int .u64 0, .int .u64 0, .int .u64 0, .int .u64 0, .int .u64 0, .int .u64 0, .int .u64 0, .int .u64 0, .int .u64 0, .int .u64 0] 58))
  replace r0 := hide (r0.out.past (.cells #[.int .u64 0, .int .u64 0, .int .u64 0, .int .u64 0, .int .u64 0, .int .u64 0, .int .u64 0, .int .u64 0, .int .u64 0, .int .u64 0, .int .u64 0, .int .u64 0] 58))
  replace Y := hide (Y.out.past (.cells #[.int .u64 0, .int .u64 0, .int .u64 0, .int .u64 0, .int .u64 0, .int .u64 0, .int .u64 0, .int .u64 0, .int .u64 0, .int .u64 0, .int .u64 0, .int .u64 0] 58))
  replace B := hide (bAl (o := .cells #[.int .u64 0, .int .u64 0, .int .u64 0, .int .u64 0, .int .u64 0, .int .u64 0, .int .u64 0, .int .u64 0, .int .u64 0, .int .u64 0, .int .u64 0, .int .u64 0] 58) B.out)
  rw [hgr.out]
  generalize w4.alloc (.cells #[.int .u64 0, .int .u64 0, .int .u64 0, .int .u64 0, .int .u64 0, .int .u64 0, .int .u64 0, .int .u64 0, .int .u64 0, .int .u64 0, .int .u64 0, .int .u64 0] 58) = w5 at *
  clear hgr
  have cut := fun w => cut12 gr k k3 w
  go_region_law (first | (refine step_copy_rows rfl (.tmp 30) (.tmp 31) rfl gr w.heap.size k 0 (12 - k) (12 - k) 8 8 12 8 8 (fun _ => 0) (lm N) rfl rfl (by first | exact z0.out | exact z0.out.drew) (by first | exact n0.out | exact n0.out.drew) (min_high k3) (by omega) (by omega) ?_; intro w6 z1 hb6))
  replace q0 := hide (q0.out.bar hb6 (by omega) rfl)
  replace r0 := hide (r0.out.bar hb6 (by omega) rfl)
  replace Y := hide (Y.out.bar hb6 (by omega) rfl)
  have sb := z0.out.lt
  replace B := hide (hb6.below B.out.drew (by omega) (by simp only [World.drew]; omega))
  clear hb6 cut z0 n0 sb
  replace z1 := hide z1
  go_wp2_with fail
  refine (shift_up_any (n := 11) z1.out (zero_lim.laid (lm_lim N) k 0 8) b63 (by omega)).mono ?_
  rintro e w7 ⟨rfl, z2, hb7⟩
  replace q0 := hide (q0.out.bar hb7 (by omega) rfl)
  replace r0 := hide (r0.out.bar hb7 (by omega) rfl)
  replace Y := hide (Y.out.bar hb7 (by omega) rfl)
  replace B := hide (hb7.below B.out (by omega) (by have := z1.out.lt; omega))
  have S := hide (dv_start HM.out HN.out)
  have LS := hide (up_lim (zero_lim.laid (lm_lim N) k 0 8) b63)
  have Z := hide z2
  clear hb7 z2 z1
  obtain ⟨D, hD⟩ : ∃ D, Hid (d * 18446744073709551616 ^ k * 2 ^ b = D) := ⟨_, rfl⟩
  obtain ⟨V, hV⟩ : ∃ V, Hid (N * 18446744073709551616 ^ k * 2 ^ b = V) := ⟨_, rfl⟩
  have ID := hide HM.out.inn; have TD := hide HM.out.top
  rw [hD.out] at Y S ID TD
  rw [hV.out] at S
  generalize up (laid (fun _ => 0) (lm N) k 0 8) b = f0 at *
  go_wp2
  go_loopw [11] (fun t wr => ∃ (m : Nat) (q f : Nat → Int), m ≤ 8 ∧ t = .int .i64 ((m : Int) - 1) ∧ Hid (Dv V D m q f) ∧ Hid (Lim q) ∧ Hid (Lim f) ∧ Hid (LRow wr (w.heap.size + 1 + 1) 8 q) ∧ Hid (LRow wr gr 12 f) ∧ Hid (LRow wr gb 4 (lm D)) ∧ Hid (LRow wr (w.heap.size + 1 + 1 + 1) 4 (fun _ => 0)) ∧ Hid (Below w.heap.size w wr)) (fun t _ => (intOf t + 1).toNat)
  case atStart => exact ⟨8, fun _ => 0, f0, by omega, rfl, S, zero_lim, LS, q0, Z, Y, r0, B⟩
  case round =>
    obtain ⟨m, q, f, hm, rfl, S1, LQ, LF, Q1, Z1, Y1, R1, B1⟩ := hrel
    clear S LS q0 Z Y r0 B
    rcases Nat.eq_zero_or_pos m with h0 | h0
    · subst h0
      go_wp2_with fail
      refine (shift_down_any (m := 12) (n := 3) Z1.out LF.out b63 (by omega) (by omega)).mono ?_
      rintro e w9 ⟨rfl, z4, hb9⟩
      replace Q1 := hide (Q1.out.bar hb9 (by omega) rfl)
      replace R1 := hide (R1.out.bar hb9 (by omega) rfl)
      have sg := Z1.out.lt
      replace B1 := hide (hb9.below B1.out (by omega) (by omega))
      have Z4 := hide z4
      rw [← hV.out, ← hD.out] at S1
      obtain ⟨E1, E2⟩ := dv_end HM.out LF.out S1.out
      have HE1 := hide E1; have HE2 := hide E2; have LZ := hide (downto_lim (n := 3) LF.out b63 (3 + 1))
      clear hb9 z4 Z1 E1 E2 sg
      have cut := fun w => cut12to4 gr k k3 w
      go_wp2_with fail
      go_region_law (first | (refine step_copy_rows rfl (.tmp 52) (.tmp 54) rfl (w.heap.size + 1 + 1 + 1) gr 0 k 4 4 (4 - k) (12 - k) 4 12 (4 - k) (fun _ => 0) (downto f b 3 (3 + 1)) rfl rfl (by first | exact R1.out | exact R1.out.drew) (by first | exact Z4.out | exact Z4.out.drew) min_left (by omega) (by omega) ?_; intro w10 r1 hb10))
      replace Q1 := hide (Q1.out.bar hb10 (by omega) rfl)
      have sg := R1.out.lt
      replace B1 := hide (hb10.below B1.out.drew (by omega) (by simp only [World.drew]; omega))
      replace r1 := hide r1
      have LR := hide (zero_lim.laid LZ.out 0 k (4 - k))
      clear hb10 cut Z4 R1 sg Y1 ID TD LZ
      replace HE2 : Hid (vl (laid (fun _ => 0) (downto f b 3 (3 + 1)) 0 k (4 - k)) 4 = N % d) := HE2
      generalize laid (fun _ => 0) (downto f b 3 (3 + 1)) 0 k (4 - k) = rr at *
      obtain ⟨_, t0, t1, t2, t3, ft⟩ := r1.out.own
      have v0 := Q1.out.cell 0 (by omega); have v1 := Q1.out.cell 1 (by omega); have v2 := Q1.out.cell 2 (by omega); have v3 := Q1.out.cell 3 (by omega); have v4 := Q1.out.cell 4 (by omega); have v5 := Q1.out.cell 5 (by omega); have v6 := Q1.out.cell 6 (by omega); have v7 := Q1.out.cell 7 (by omega)
      have fv := Q1.out.fr
      go_wp2_with fail
      go_region
      go_wp2
      refine bodyPost_ret (v := .tuple #[.agg #[.int .u64 (q 0), .int .u64 (q 1), .int .u64 (q 2), .int .u64 (q 3), .int .u64 (q 4), .int .u64 (q 5), .int .u64 (q 6), .int .u64 (q 7)], .agg #[.int .u64 (rr 0), .int .u64 (rr 1), .int .u64 (rr 2), .int .u64 (rr 3)], .int .i64 0]) ?_ rfl ⟨?_, ?_⟩
      · simp [results, Try.results13, go_sem, *]
      · rw [wid_of LQ.out HE1.out, big_of LR.out HE2.out]
      · refine Below.drew ?_
        have a1 : w.heap.size ≤ w.heap.size + 1 + 1 := by omega
        have a2 : w.heap.size ≤ w.heap.size + 1 + 1 + 1 := by omega
        exact (((((((((((B1.out.setCell a1 _).setCell a1 _).setCell a1 _).setCell a1 _).setCell a1 _).setCell a1 _).setCell a1 _).setCell a1 _).setCell a2 _).setCell a2 _).setCell a2 _).setCell a2 _
    · obtain ⟨i, rfl⟩ : ∃ i, m = i + 1 := ⟨m - 1, by omega⟩
      have e1 : ((i + 1 : Nat) : Int) - 1 = i := by omega
      rw [e1]
      have i8 : i < 8 := by omega
      have cut := fun w => cut5 gr i i8 w
      have sg := Z1.out.lt
      have ic0 : (0 : Int) ≤ i := by omega
      have ic : (i : Int) < 8 := by omega
      have wA := wrap_four i i8; have wB := wrap_five i i8
      obtain ⟨_, y0, y1, y2, y3, _⟩ := Y1.out.own
      clear y0 y1 y2 y3
      have hgq : gb ≠ w.heap.size + 1 + 1 := by omega
      go_wp2
      go_region_held3 (fun w' => w'.cell? ⟨gb, 0, none⟩ = some (.int .u64 (lm D 0)) ∧ w'.cell? ⟨gb, 1, none⟩ = some (.int .u64 (lm D 1)) ∧ w'.cell? ⟨gb, 2, none⟩ = some (.int .u64 (lm D 2)) ∧ w'.cell? ⟨gb, 3, none⟩ = some (.int .u64 (lm D 3))) (first | exact ⟨Y1.out.cell 0 (by omega), Y1.out.cell 1 (by omega), Y1.out.cell 2 (by omega), Y1.out.cell 3 (by omega)⟩ | exact ⟨(Y1.out.other hgq _).cell 0 (by omega), (Y1.out.other hgq _).cell 1 (by omega), (Y1.out.other hgq _).cell 2 (by omega), (Y1.out.other hgq _).cell 3 (by omega)⟩)
        (first | (go_at_call 29; refine (take_out_any (by first | exact Z1.out | exact Z1.out.drew) LF.out (by omega) ID.out TD.out S1.out.lt).mono ?_; rintro e w8 ⟨x, f1, rfl, bx, z3, l3, hout, heq, hb8⟩; replace Y1 := hide (Y1.out.bar hb8 (by omega) rfl); replace Q1 := hide (Q1.out.bar hb8 (by omega) rfl); replace R1 := hide (R1.out.bar hb8 (by omega) rfl); replace B1 := hide (by first | exact hb8.below B1.out (by omega) (by omega) | exact hb8.below B1.out.drew (by omega) (by simp only [World.drew]; omega)); have fq := Q1.out.fr; have cq := Q1.out.cell i i8; clear hb8))
      all_goals
        go_wp2_with fail
        go_roundw
        case rel => exact ⟨i, put q i x, f1, by omega, rfl, S1.out.next i8 ID.out l3 hout heq, LQ.out.put i bx, l3, Q1.out.set i i8 x, LRow.other z3 (by simp only []; omega) _, Y1.out.other (by simp only []; omega) _, R1.out.other (by simp only []; omega) _, B1.out.setCell (by simp only []; omega) _⟩
        case measure => simp [intOf]
end Go.Proofs.Ytlmjbpmpedlhlaa
