/- Contracts of sponsionref07.May and sponsionlaw07.lives over this translation. -/
import Derived.Test.YthcahgfoganehaaDoorItnMath
namespace Go.Proofs.YthcahgfoganehaaDoor
open Go.RowKit Go.Lib
attribute [local go_sem] setCell_drewN alloc_drewN

theorem may_no_t {x : Itn} (h : ¬ x.t < 4) : may x = false := by unfold may; simp [h]
theorem may_no_o {x : Itn} (h : ¬ x.o < 16) : may x = false := by unfold may; simp [h]
theorem may_is {x : Itn} (h1 : x.t < 4) (h2 : x.o < 16) (ha : In x.a) : may x = !(same4 (lm x.a 0) (lm x.a 1) (lm x.a 2) (lm x.a 3) 0 0 0 0) := by
  rw [same4_zero ha]; unfold may
  by_cases h : x.a = 0 <;> simp [h, h1, h2]
theorem not4 {a b c d : Int} (h : 0 < a ∨ 0 < b ∨ 0 < c ∨ 0 < d) : (!(same4 a b c d 0 0 0 0)) = true := by
  have : same4 a b c d 0 0 0 0 ≠ true := fun e => by
    unfold same4 at e
    simp only [Bool.and_eq_true, beq_iff_eq] at e
    omega
  simpa using this
theorem yes4 {a b c d : Int} (h0 : a = 0) (h1 : b = 0) (h2 : c = 0) (h3 : d = 0) : (!(same4 a b c d 0 0 0 0)) = false := by
  subst h0 h1 h2 h3; rfl
set_option maxHeartbeats 8000000 in
theorem may_any (x : Itn) (hx : x.Ok) (w : World) : Calls Tryd.prog 13 #[itnV x] w fun e w' => e = .returned (.bool (may x)) ∧ Below w.heap.size w w' := by
  obtain ⟨t0, t1⟩ := hx.t
  obtain ⟨o0, o1⟩ := hx.o
  have b0 := lm_bd x.a 0
  have b1 := lm_bd x.a 1
  have b2 := lm_bd x.a 2
  have b3 := lm_bd x.a 3
  by_cases ht : x.t < 4
  · have ht' : x.t ≤ 3 := by omega
    by_cases ho : x.o < 16
    · have ho' : x.o ≤ 15 := by omega
      have HM := hide (may_is ht ho hx.a)
      clear hx
      by_cases h0 : 0 < lm x.a 0
      · have E : Hid (may x = true) := by rw [HM.out]; exact not4 (.inl h0)
        clear HM
        go_enter Tryd.func13, Tryd.ntmps13
        go_wp2
        go_ret
        exact ⟨by rw [E.out]; rfl, bAl (bMe w)⟩
      · by_cases h1 : 0 < lm x.a 1
        · have E : Hid (may x = true) := by rw [HM.out]; exact not4 (.inr (.inl h1))
          clear HM
          go_enter Tryd.func13, Tryd.ntmps13
          go_wp2
          go_ret
          exact ⟨by rw [E.out]; rfl, bAl (bMe w)⟩
        · by_cases h2 : 0 < lm x.a 2
          · have E : Hid (may x = true) := by rw [HM.out]; exact not4 (.inr (.inr (.inl h2)))
            clear HM
            go_enter Tryd.func13, Tryd.ntmps13
            go_wp2
            go_ret
            exact ⟨by rw [E.out]; rfl, bAl (bMe w)⟩
          · by_cases h3 : 0 < lm x.a 3
            · have E : Hid (may x = true) := by rw [HM.out]; exact not4 (.inr (.inr (.inr h3)))
              clear HM
              go_enter Tryd.func13, Tryd.ntmps13
              go_wp2
              go_ret
              exact ⟨by rw [E.out]; rfl, bAl (bMe w)⟩
            · have E : Hid (may x = false) := by rw [HM.out]; exact yes4 (by omega) (by omega) (by omega) (by omega)
              clear HM
              go_enter Tryd.func13, Tryd.ntmps13
              go_wp2
              go_ret
              exact ⟨by rw [E.out]; rfl, bAl (bMe w)⟩
    · have ho' : ¬ x.o ≤ 15 := by omega
      have E := hide (may_no_o ho)
      go_enter Tryd.func13, Tryd.ntmps13
      go_wp2
      go_ret
      exact ⟨by rw [E.out]; rfl, bAl (bMe w)⟩
  · have ht' : ¬ x.t ≤ 3 := by omega
    have E := hide (may_no_t ht)
    go_enter Tryd.func13, Tryd.ntmps13
    go_wp2
    go_ret
    exact ⟨by rw [E.out]; rfl, bAl (bMe w)⟩
theorem ex_bytes : ibytes ⟨1, 2, 3, 4⟩ = [0, 0, 0, 1, 2, 3, 0, 0, 0, 0, 0, 0, 0, 0, 0, 0, 0, 0, 0, 0, 0, 0, 0, 0, 0, 0, 0, 0, 0, 0, 0, 0, 0, 0, 0, 0, 0, 4] := by decide +kernel
theorem ex_V : itnV ⟨1, 2, 3, 4⟩ = itn7 1 2 3 4 0 0 0 := by
  show itn7 1 2 3 (lm 4 0) (lm 4 1) (lm 4 2) (lm 4 3) = _
  rw [show lm 4 0 = 4 by decide +kernel, show lm 4 1 = 0 by decide +kernel, show lm 4 2 = 0 by decide +kernel, show lm 4 3 = 0 by decide +kernel]
set_option maxHeartbeats 8000000 in
theorem lives7_any (w : World) : Calls Tryd.prog 5 #[] w fun e w' => e = .returned (.bool true) ∧ Below w.heap.size w w' := by
  have C := hide (ibytes_any ⟨1, 2, 3, 4⟩ ⟨by simp, by simp, by simp, by simp [In]⟩ w)
  rw [ex_V] at C
  go_enter Tryd.func5, Tryd.ntmps5
  go_wp2_with fail
  refine C.out.mono ?_
  rintro e w1 ⟨v, rfl, hv, hb⟩
  have B := hide hb
  rw [ex_bytes] at hv
  obtain ⟨oo, oc, rfl, -⟩ := hv.cell
  obtain ⟨g, rfl, -, hc, -⟩ := hv.some (by simp)
  have c3 := hc 3 (by simp)
  have c4 := hc 4 (by simp)
  have c5 := hc 5 (by simp)
  have c37 := hc 37 (by simp)
  simp only [List.getD_cons_succ, List.getD_cons_zero] at c3 c4 c5 c37
  clear hv hb hc C
  go_wp2
  go_ret
  exact ⟨rfl, B.out⟩
end Go.Proofs.YthcahgfoganehaaDoor
