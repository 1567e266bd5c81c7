/- Contracts of package sponsionref02's Row and Int over this translation: a number's digits, and the number of digits. -/
import Derived.Test.YtodjfenbbbdofaaRef1
import Derived.Test.YtodjfenbbbdofaaOwn
namespace Go.Proofs.Ytodjfenbbbdofaa
open Go.RowKit Go.Lib

theorem pw4 (k : Nat) : pw (4 * k) = 18446744073709551616 ^ k := by
  unfold pw; rw [Int.pow_mul]; rfl
theorem lm_pw (a : Int) (k : Nat) : lm a k = a / pw (4 * k) % 18446744073709551616 := by rw [pw4]; rfl
theorem mod_step (a P B : Int) (hP : 0 < P) (hB : 0 < B) : a % (P * B) = a % P + a / P % B * P := by
  have h1 := Int.emod_nonneg a (show P ≠ 0 by omega)
  have h2 := Int.emod_lt_of_pos a hP
  have h3 := Int.emod_nonneg (a / P) (show B ≠ 0 by omega)
  have h4 := Int.emod_lt_of_pos (a / P) hB
  have e1 := Int.mul_ediv_add_emod a P
  have e2 := Int.mul_ediv_add_emod (a / P) B
  have h5 : a / P % B * P ≤ (B - 1) * P := Int.mul_le_mul_of_nonneg_right (by omega) (by omega)
  have h6 : 0 ≤ a / P % B * P := Int.mul_nonneg h3 (by omega)
  have e3 : a = (a % P + a / P % B * P) + P * B * (a / P / B) := by
    have : P * (a / P) = P * (B * (a / P / B) + a / P % B) := by rw [e2]
    rw [Int.mul_add, ← Int.mul_assoc, Int.mul_comm P (a / P % B)] at this
    omega
  have h7 : (B - 1) * P = P * B - P := by rw [Int.sub_mul, Int.one_mul, Int.mul_comm]
  have e4 : a % (P * B) = ((a % P + a / P % B * P) + P * B * (a / P / B)) % (P * B) := by rw [← e3]
  rw [e4, Int.add_mul_emod_self_left, Int.emod_eq_of_lt (by omega) (by omega)]
theorem row_step {zs : List Int} {y V : Int} (ho : Ok zs) (hv : val zs + y * pw zs.length = V) :
    Ok (zs ++ [y % 65536]) ∧ val (zs ++ [y % 65536]) + y / 65536 * pw (zs ++ [y % 65536]).length = V := by
  refine ⟨ho.append (Ok.one (by omega)), ?_⟩
  rw [val_snoc, List.length_append, List.length_singleton, pw_succ, ← hv]
  have e := split_digit y (pw zs.length)
  omega
theorem less_step {y : Int} {j : Nat} (hj : j < 4) (h : y < pw (4 - j)) : y / 65536 < pw (4 - (j + 1)) := by
  have e : 4 - j = (4 - (j + 1)) + 1 := by omega
  rw [e, pw_succ] at h
  exact Int.ediv_lt_of_lt_mul (by decide) h

theorem less_all {x : Int} (h : x < 18446744073709551616) : x < pw (4 - 0) := by
  rw [show pw (4 - 0) = 18446744073709551616 by decide]; exact h

set_option maxHeartbeats 1000000 in
theorem row_new (a : Int) (w : World) (h : In a) :
    Calls Try.prog 14 #[big a] w fun e w' => ∃ ao n cap, e = .returned (.slice ao n cap) ∧ Num w' ao n cap a 16 ∧ Below w.heap.size w w' ∧ New w ao := by
  have HI := hide h
  clear h
  have lb := fun k => lm_bd a k
  go_enter Try.func14, Try.ntmps14
  go_wp2
  go_loopw [3, 7] (fun v t wr => ∃ (k : Nat) (zs : List Int), t = .int .i64 k ∧ k ≤ 4 ∧ Made w wr v zs ∧ Ok zs ∧ zs.length = 4 * k ∧ val zs = a % pw (4 * k)) (fun _ t _ => 4 - (intOf t).toNat)
  case atStart => exact ⟨0, [], rfl, by omega, ⟨World.ownsRow_nil _ _ _ _, bAl (bMe w)⟩, Ok.nil, rfl, by simp [val, pw_zero]⟩
  case round =>
    obtain ⟨k, zs0, rfl, hk, hm0, ho0, hl0, hv0⟩ := hrel
    have HO0 := hide ho0; have HL0 := hide hl0; have HV0 := hide hv0
    clear ho0 hl0 hv0
    by_cases hlt : k < 4
    · have hix : ∀ wx, (Instr.index 32 (.agg #[.int .u64 (lm a 0), .int .u64 (lm a 1), .int .u64 (lm a 2), .int .u64 (lm a 3)]) (.int .i64 (k : Int))).run Try.prog wx = .ok (.int .u64 (lm a k)) wx := by
        intro wx
        match k, hlt with
        | 0, _ => exact idx0 _ _ _ _ _
        | 1, _ => exact idx1 _ _ _ _ _
        | 2, _ => exact idx2 _ _ _ _ _
        | 3, _ => exact idx3 _ _ _ _ _
      have hki : (k : Int) < 4 := by omega
      have x0 := (lb k).1
      have x1 := (lb k).2
      have EX : Hid (lm a k = a / pw (4 * k) % 18446744073709551616) := lm_pw a k
      generalize lm a k = x at *
      go_wp2
      go_loopw [3, 5, 10] (fun v t5 t wr => ∃ (j : Nat) (y : Int) (zs : List Int), t = .int .i64 j ∧ t5 = .int .u64 y ∧ j ≤ 4 ∧ 0 ≤ y ∧ y < 18446744073709551616 ∧ y < pw (4 - j) ∧ Made w wr v zs ∧ Ok zs ∧ zs.length = 4 * k + j ∧ val zs + y * pw zs.length = a % pw (4 * k) + x * pw (4 * k)) (fun _ _ t _ => 4 - (intOf t).toNat)
      case atStart => exact ⟨0, x, zs0, rfl, rfl, by omega, x0, x1, less_all x1, hm0, HO0.out, HL0.out, by rw [HV0.out, HL0.out]⟩
      case round =>
        obtain ⟨j, y, zs, rfl, rfl, hj, y0, y1, hy, hm, ho, hl, hv⟩ := hrel
        have HY := hide hy; have HO := hide ho; have HL := hide hl; have HV := hide hv
        clear hy ho hl hv
        by_cases hjl : j < 4
        · have hji : (j : Int) < 4 := by omega
          obtain ⟨s1, s2⟩ := row_step HO.out HV.out
          have S1 := hide s1; have S2 := hide s2
          have hl' : zs.length ≤ 1048576 := by have := HL.out; omega
          clear s1 s2
          go_wp2_with (at_builtin; refine app_int rfl _ _ rfl _ zs (y % 65536) rfl rfl hm hl' ?_)
          intro v' w1 hm'
          go_wp2
          go_roundw
          case rel => exact ⟨j + 1, y / 65536, zs ++ [y % 65536], by go_num, rfl, by omega, by omega, by omega, less_step hjl HY.out, hm', S1.out, by rw [List.length_append, HL.out]; rfl, S2.out⟩
          case measure => simp [intOf]; omega
        · obtain rfl : j = 4 := by omega
          have hy0 : Hid (y = 0) := by
            have := HY.out
            rw [show pw (4 - 4) = 1 from rfl] at this
            show y = 0
            omega
          go_wp2
          go_roundw
          case rel =>
            refine ⟨k + 1, zs, by go_num, by omega, hm, HO.out, by have := HL.out; omega, ?_⟩
            have := HV.out
            rw [hy0.out, Int.zero_mul, Int.add_zero] at this
            rw [this, EX.out, show 4 * (k + 1) = 4 * k + 4 by omega, pw_add, show pw 4 = 18446744073709551616 by decide, mod_step a _ _ (pw_pos _) (by decide)]
          case measure => simp [intOf]; omega
    · obtain rfl : k = 4 := by omega
      go_wp2_with fail
      obtain ⟨ao1, cap1, rfl, hd⟩ := hm0.digs (by have := HL0.out; omega)
      refine (trim_any (zs := zs0) hd HO0.out).mono ?_
      rintro e w2 ⟨ao2, n2, cap2, vs, rfl, t1, t2, t3, t4, t5, t6, rfl⟩
      have T4 := hide t4; have T5 := hide t5
      have T6 := hide (show New w ao2 from t6 ▸ hm0.new)
      clear t4 t5 t6
      go_wp2
      go_ret
      refine ⟨_, _, _, rfl, ⟨vs, t1, t2, t3, ?_, by have := t1.1; have := T5.out; have := HL0.out; omega⟩, hm0.2, T6.out⟩
      rw [T4.out, HV0.out]
      have hi := HI.out
      unfold In at hi
      rw [show pw (4 * 4) = 115792089237316195423570985008687907853269984665640564039457584007913129639936 by decide]
      omega
theorem row_of (a : Int) (w : World) (h : In a) :
    Calls Try.prog 14 #[big a] w fun e w' => ∃ ao n cap, e = .returned (.slice ao n cap) ∧ Num w' ao n cap a 16 ∧ Below w.heap.size w w' := by
  refine (row_new a w h).mono ?_
  rintro e w' ⟨ao, n, cap, h1, h2, h3, _⟩
  exact ⟨ao, n, cap, h1, h2, h3⟩
end Go.Proofs.Ytodjfenbbbdofaa
