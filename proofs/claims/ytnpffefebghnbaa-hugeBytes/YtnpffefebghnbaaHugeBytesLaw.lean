/- The walk of HugeBytes over this translation. -/
import Derived.Test.YtnpffefebghnbaaHugeRd
import Derived.Test.YtnpffefebghnbaaHugeIs
import Derived.Laws.BytesArg
import Derived.Laws.BitsAllLaws
namespace Go.Proofs.Ytnpffefebghnbaa
open Go.RowKit Go.Lib
attribute [local go_sem] setCell_drewN alloc_drewN eqInt

theorem BSl.below {w w' : World} {ao : Option Addr} {n cap : Nat} {f : Nat → Int} (h : BSl w ao n cap f) (hb : Below w.heap.size w w') : BSl w' ao n cap f := by
  refine ⟨h.1, fun hn => ?_⟩
  obtain ⟨b, off, e, hl, hc⟩ := h.2 hn
  exact ⟨b, off, e, Nat.lt_of_lt_of_le hl hb.size, fun j hj => (hb.cell (p := ⟨b, off + j, none⟩) hl).trans (hc j hj)⟩
theorem rv_bt (a : Int) (k : Nat) (hk : k ≤ 32) : rv (bt a) k = a % 256 ^ k := by
  induction k with
  | zero => simp [rv, Int.emod_one]
  | succ k ih =>
    unfold rv
    rw [ih (by omega), Int.pow_succ, mod_step a (256 ^ k) 256 (Int.pow_pos (by decide)) (by decide)]
    unfold bt
    rw [show 31 - (31 - k) = k by omega]
theorem rv_bt_all {a : Int} (h : In a) : rv (bt a) 32 = a := by
  rw [rv_bt a 32 (by omega), show (256 : Int) ^ 32 = 115792089237316195423570985008687907853269984665640564039457584007913129639936 by decide]
  unfold In at h; omega
theorem rv_at {f : Nat → Int} (h : ∀ j, 0 ≤ f j ∧ f j < 256) (n k : Nat) (hk : k < n) : rv f n / 256 ^ k % 256 = f (31 - k) := by
  induction n with
  | zero => omega
  | succ n ih =>
    have hp : (0 : Int) < 256 ^ k := Int.pow_pos (by decide)
    unfold rv
    by_cases e : k = n
    · subst e
      have b := rv_bd h k
      have hx := h (31 - k)
      rw [Int.add_mul_ediv_right _ _ (by omega), Int.ediv_eq_zero_of_lt b.1 b.2]
      omega
    · have e2 : (256 : Int) ^ n = 256 ^ (n - k - 1) * 256 * 256 ^ k := by rw [← Int.pow_succ, ← Int.pow_add]; congr 1; omega
      rw [e2, ← Int.mul_assoc, Int.add_mul_ediv_right _ _ (by omega), ← Int.mul_assoc, Int.add_mul_emod_self_right]
      exact ih (by omega)
theorem bt_rv {f : Nat → Int} (h : ∀ j, 0 ≤ f j ∧ f j < 256) (j : Nat) (hj : j < 32) : bt (rv f 32) j = f j := by
  unfold bt
  rw [rv_at h 32 (31 - j) (by omega), show 31 - (31 - j) = j by omega]
theorem and_255 (x : Int) (h0 : 0 ≤ x) (h1 : x < 18446744073709551616) : bits .and .u64 x 255 = x % 256 := by
  rw [u64_and x 255 h0 h1 (by decide) (by decide)]
  obtain ⟨x, rfl⟩ := Int.eq_ofNat_of_zero_le h0
  have : x &&& 255 = x % 256 := Nat.and_two_pow_sub_one_eq_mod x 8
  simp only [Int.toNat_natCast]
  rw [show (255 : Int).toNat = 255 from rfl, this]
  simp
theorem byte_at {a : Int} (ha : In a) {k q : Nat} (hk : k < 32) (hq : k / 8 = 3 - q) (hq4 : q < 4) : bits .and .u64 (lm a q / 2 ^ (56 - 8 * (k % 8))) 255 = bt a k := by
  have e : 56 - 8 * (k % 8) = (31 - k) % 8 * 8 := by omega
  have b := lm_bd a q
  have p0 : (0 : Int) < 2 ^ ((31 - k) % 8 * 8) := Int.pow_pos (by decide)
  rw [e, and_255 _ (Int.ediv_nonneg b.1 (Int.le_of_lt p0)) (Int.lt_of_le_of_lt (Int.ediv_le_self _ b.1) b.2), byte_of ha (k := 31 - k) (by omega) (by omega), show 31 - (31 - k) = k by omega]
theorem i32_0 (f : Nat → Int) (w : World) : (Instr.index 46 (.agg (rowV 32 f).toArray) (.int .i64 0)).run Try.prog w = .ok (.int .u8 (f 0)) w := by kernel_rfl
theorem i32_1 (f : Nat → Int) (w : World) : (Instr.index 46 (.agg (rowV 32 f).toArray) (.int .i64 1)).run Try.prog w = .ok (.int .u8 (f 1)) w := by kernel_rfl
theorem i32_2 (f : Nat → Int) (w : World) : (Instr.index 46 (.agg (rowV 32 f).toArray) (.int .i64 2)).run Try.prog w = .ok (.int .u8 (f 2)) w := by kernel_rfl
theorem i32_3 (f : Nat → Int) (w : World) : (Instr.index 46 (.agg (rowV 32 f).toArray) (.int .i64 3)).run Try.prog w = .ok (.int .u8 (f 3)) w := by kernel_rfl
theorem i32_4 (f : Nat → Int) (w : World) : (Instr.index 46 (.agg (rowV 32 f).toArray) (.int .i64 4)).run Try.prog w = .ok (.int .u8 (f 4)) w := by kernel_rfl
theorem i32_5 (f : Nat → Int) (w : World) : (Instr.index 46 (.agg (rowV 32 f).toArray) (.int .i64 5)).run Try.prog w = .ok (.int .u8 (f 5)) w := by kernel_rfl
theorem i32_6 (f : Nat → Int) (w : World) : (Instr.index 46 (.agg (rowV 32 f).toArray) (.int .i64 6)).run Try.prog w = .ok (.int .u8 (f 6)) w := by kernel_rfl
theorem i32_7 (f : Nat → Int) (w : World) : (Instr.index 46 (.agg (rowV 32 f).toArray) (.int .i64 7)).run Try.prog w = .ok (.int .u8 (f 7)) w := by kernel_rfl
theorem i32_8 (f : Nat → Int) (w : World) : (Instr.index 46 (.agg (rowV 32 f).toArray) (.int .i64 8)).run Try.prog w = .ok (.int .u8 (f 8)) w := by kernel_rfl
theorem i32_9 (f : Nat → Int) (w : World) : (Instr.index 46 (.agg (rowV 32 f).toArray) (.int .i64 9)).run Try.prog w = .ok (.int .u8 (f 9)) w := by kernel_rfl
theorem i32_10 (f : Nat → Int) (w : World) : (Instr.index 46 (.agg (rowV 32 f).toArray) (.int .i64 10)).run Try.prog w = .ok (.int .u8 (f 10)) w := by kernel_rfl
theorem i32_11 (f : Nat → Int) (w : World) : (Instr.index 46 (.agg (rowV 32 f).toArray) (.int .i64 11)).run Try.prog w = .ok (.int .u8 (f 11)) w := by kernel_rfl
theorem i32_12 (f : Nat → Int) (w : World) : (Instr.index 46 (.agg (rowV 32 f).toArray) (.int .i64 12)).run Try.prog w = .ok (.int .u8 (f 12)) w := by kernel_rfl
theorem i32_13 (f : Nat → Int) (w : World) : (Instr.index 46 (.agg (rowV 32 f).toArray) (.int .i64 13)).run Try.prog w = .ok (.int .u8 (f 13)) w := by kernel_rfl
theorem i32_14 (f : Nat → Int) (w : World) : (Instr.index 46 (.agg (rowV 32 f).toArray) (.int .i64 14)).run Try.prog w = .ok (.int .u8 (f 14)) w := by kernel_rfl
theorem i32_15 (f : Nat → Int) (w : World) : (Instr.index 46 (.agg (rowV 32 f).toArray) (.int .i64 15)).run Try.prog w = .ok (.int .u8 (f 15)) w := by kernel_rfl
theorem i32_16 (f : Nat → Int) (w : World) : (Instr.index 46 (.agg (rowV 32 f).toArray) (.int .i64 16)).run Try.prog w = .ok (.int .u8 (f 16)) w := by kernel_rfl
theorem i32_17 (f : Nat → Int) (w : World) : (Instr.index 46 (.agg (rowV 32 f).toArray) (.int .i64 17)).run Try.prog w = .ok (.int .u8 (f 17)) w := by kernel_rfl
theorem i32_18 (f : Nat → Int) (w : World) : (Instr.index 46 (.agg (rowV 32 f).toArray) (.int .i64 18)).run Try.prog w = .ok (.int .u8 (f 18)) w := by kernel_rfl
theorem i32_19 (f : Nat → Int) (w : World) : (Instr.index 46 (.agg (rowV 32 f).toArray) (.int .i64 19)).run Try.prog w = .ok (.int .u8 (f 19)) w := by kernel_rfl
theorem i32_20 (f : Nat → Int) (w : World) : (Instr.index 46 (.agg (rowV 32 f).toArray) (.int .i64 20)).run Try.prog w = .ok (.int .u8 (f 20)) w := by kernel_rfl
theorem i32_21 (f : Nat → Int) (w : World) : (Instr.index 46 (.agg (rowV 32 f).toArray) (.int .i64 21)).run Try.prog w = .ok (.int .u8 (f 21)) w := by kernel_rfl
theorem i32_22 (f : Nat → Int) (w : World) : (Instr.index 46 (.agg (rowV 32 f).toArray) (.int .i64 22)).run Try.prog w = .ok (.int .u8 (f 22)) w := by kernel_rfl
theorem i32_23 (f : Nat → Int) (w : World) : (Instr.index 46 (.agg (rowV 32 f).toArray) (.int .i64 23)).run Try.prog w = .ok (.int .u8 (f 23)) w := by kernel_rfl
theorem i32_24 (f : Nat → Int) (w : World) : (Instr.index 46 (.agg (rowV 32 f).toArray) (.int .i64 24)).run Try.prog w = .ok (.int .u8 (f 24)) w := by kernel_rfl
theorem i32_25 (f : Nat → Int) (w : World) : (Instr.index 46 (.agg (rowV 32 f).toArray) (.int .i64 25)).run Try.prog w = .ok (.int .u8 (f 25)) w := by kernel_rfl
theorem i32_26 (f : Nat → Int) (w : World) : (Instr.index 46 (.agg (rowV 32 f).toArray) (.int .i64 26)).run Try.prog w = .ok (.int .u8 (f 26)) w := by kernel_rfl
theorem i32_27 (f : Nat → Int) (w : World) : (Instr.index 46 (.agg (rowV 32 f).toArray) (.int .i64 27)).run Try.prog w = .ok (.int .u8 (f 27)) w := by kernel_rfl
theorem i32_28 (f : Nat → Int) (w : World) : (Instr.index 46 (.agg (rowV 32 f).toArray) (.int .i64 28)).run Try.prog w = .ok (.int .u8 (f 28)) w := by kernel_rfl
theorem i32_29 (f : Nat → Int) (w : World) : (Instr.index 46 (.agg (rowV 32 f).toArray) (.int .i64 29)).run Try.prog w = .ok (.int .u8 (f 29)) w := by kernel_rfl
theorem i32_30 (f : Nat → Int) (w : World) : (Instr.index 46 (.agg (rowV 32 f).toArray) (.int .i64 30)).run Try.prog w = .ok (.int .u8 (f 30)) w := by kernel_rfl
theorem i32_31 (f : Nat → Int) (w : World) : (Instr.index 46 (.agg (rowV 32 f).toArray) (.int .i64 31)).run Try.prog w = .ok (.int .u8 (f 31)) w := by kernel_rfl
theorem idx32 (f : Nat → Int) (k : Nat) (hk : k < 32) (w : World) : (Instr.index 46 (.agg (rowV 32 f).toArray) (.int .i64 (k : Int))).run Try.prog w = .ok (.int .u8 (f k)) w := by
  have h : k = 0 ∨ k = 1 ∨ k = 2 ∨ k = 3 ∨ k = 4 ∨ k = 5 ∨ k = 6 ∨ k = 7 ∨ k = 8 ∨ k = 9 ∨ k = 10 ∨ k = 11 ∨ k = 12 ∨ k = 13 ∨ k = 14 ∨ k = 15 ∨ k = 16 ∨ k = 17 ∨ k = 18 ∨ k = 19 ∨ k = 20 ∨ k = 21 ∨ k = 22 ∨ k = 23 ∨ k = 24 ∨ k = 25 ∨ k = 26 ∨ k = 27 ∨ k = 28 ∨ k = 29 ∨ k = 30 ∨ k = 31 := by omega
  rcases h with rfl | rfl | rfl | rfl | rfl | rfl | rfl | rfl | rfl | rfl | rfl | rfl | rfl | rfl | rfl | rfl | rfl | rfl | rfl | rfl | rfl | rfl | rfl | rfl | rfl | rfl | rfl | rfl | rfl | rfl | rfl | rfl
  · exact i32_0 f w
  · exact i32_1 f w
  · exact i32_2 f w
  · exact i32_3 f w
  · exact i32_4 f w
  · exact i32_5 f w
  · exact i32_6 f w
  · exact i32_7 f w
  · exact i32_8 f w
  · exact i32_9 f w
  · exact i32_10 f w
  · exact i32_11 f w
  · exact i32_12 f w
  · exact i32_13 f w
  · exact i32_14 f w
  · exact i32_15 f w
  · exact i32_16 f w
  · exact i32_17 f w
  · exact i32_18 f w
  · exact i32_19 f w
  · exact i32_20 f w
  · exact i32_21 f w
  · exact i32_22 f w
  · exact i32_23 f w
  · exact i32_24 f w
  · exact i32_25 f w
  · exact i32_26 f w
  · exact i32_27 f w
  · exact i32_28 f w
  · exact i32_29 f w
  · exact i32_30 f w
  · exact i32_31 f w

set_option maxHeartbeats 4000000 in
theorem hugeBytes_long (a : Int) (ao : Option Addr) (n cap : Nat) (w : World) (hn : 100 < n) :
    Calls Try.prog 6 #[big a, .slice ao n cap] w fun e w' => e = .returned (.bool true) ∧ Below w.heap.size w w' := by
  have hni : (100 : Int) < (n : Int) := by omega
  go_enter Try.func6, Try.ntmps6
  go_wp2_with fail
  refine (lives2_any _).mono ?_
  rintro e w1 ⟨rfl, hb1⟩
  have B := hide (bOn (bAl (bMe w)) hb1)
  clear hb1
  go_wp2_with fail
  refine (lives2_any _).mono ?_
  rintro e w2 ⟨rfl, hb2⟩
  replace B := hide (bOn B.out hb2)
  clear hb2
  go_wp2
  go_ret
  exact ⟨rfl, B.out⟩

set_option maxRecDepth 100000 in
set_option maxHeartbeats 8000000 in
theorem hugeBytes_part (a : Int) (ao : Option Addr) (n cap : Nat) (f : Nat → Int) (w : World) (ha : In a) (hs : BSl w ao n cap f) (hf : ∀ j, 0 ≤ f j ∧ f j < 256) (hn : n ≤ 100) :
    Calls Try.prog 6 #[big a, .slice ao n cap] w fun e w' => e = .returned (.bool true) ∧ Below w.heap.size w w' := by
  have HA := hide ha; have HS := hide hs; have HF := hide hf
  clear ha hs hf
  have hni : ¬ (100 : Int) < (n : Int) := by omega
  go_enter Try.func6, Try.ntmps6
  go_wp2_with fail
  refine (lives2_any _).mono ?_
  rintro e w1 ⟨rfl, hb1⟩
  have P := hide ((Own.new w (lm a 0) (lm a 1) (lm a 2) (lm a 3) 24).after hb1 rfl)
  have B := hide (bOn (bAl (bMe w)) hb1)
  clear hb1
  obtain ⟨p5, p0, p1, p2, p3, _⟩ := P.out
  go_wp2_with fail
  refine (bytes_any a _ HA.out).mono ?_
  rintro e w2 ⟨rfl, hb2⟩
  replace P := hide (P.out.after hb2 rfl); replace B := hide (bOn B.out hb2)
  clear hb2 p0 p1 p2 p3 p5
  go_wp2_with fail
  have R0 : BRow (w2.alloc (.cells #[.int .u8 0, .int .u8 0, .int .u8 0, .int .u8 0, .int .u8 0, .int .u8 0, .int .u8 0, .int .u8 0, .int .u8 0, .int .u8 0, .int .u8 0, .int .u8 0, .int .u8 0, .int .u8 0, .int .u8 0, .int .u8 0, .int .u8 0, .int .u8 0, .int .u8 0, .int .u8 0, .int .u8 0, .int .u8 0, .int .u8 0, .int .u8 0, .int .u8 0, .int .u8 0, .int .u8 0, .int .u8 0, .int .u8 0, .int .u8 0, .int .u8 0, .int .u8 0] 46)) w2.heap.size 32 (fun _ => 0) := BRow.new w2 32 46 (g := w2.heap.size) rfl
  rw [R0.storing (P := Try.prog) (bt a)]
  have R := hide (R0.stored (bt a))
  replace P := hide ((P.out.past (.cells #[.int .u8 0, .int .u8 0, .int .u8 0, .int .u8 0, .int .u8 0, .int .u8 0, .int .u8 0, .int .u8 0, .int .u8 0, .int .u8 0, .int .u8 0, .int .u8 0, .int .u8 0, .int .u8 0, .int .u8 0, .int .u8 0, .int .u8 0, .int .u8 0, .int .u8 0, .int .u8 0, .int .u8 0, .int .u8 0, .int .u8 0, .int .u8 0, .int .u8 0, .int .u8 0, .int .u8 0, .int .u8 0, .int .u8 0, .int .u8 0, .int .u8 0, .int .u8 0] 46)).of (w' := (w2.alloc (.cells #[.int .u8 0, .int .u8 0, .int .u8 0, .int .u8 0, .int .u8 0, .int .u8 0, .int .u8 0, .int .u8 0, .int .u8 0, .int .u8 0, .int .u8 0, .int .u8 0, .int .u8 0, .int .u8 0, .int .u8 0, .int .u8 0, .int .u8 0, .int .u8 0, .int .u8 0, .int .u8 0, .int .u8 0, .int .u8 0, .int .u8 0, .int .u8 0, .int .u8 0, .int .u8 0, .int .u8 0, .int .u8 0, .int .u8 0, .int .u8 0, .int .u8 0, .int .u8 0] 46)).setCells w2.heap.size 0 (rowV 32 (bt a))) (by rw [setCells_size]; exact Nat.le_refl _) (setCells_block _ _ _ _ _ (Nat.ne_of_lt P.out.lt)))
  replace B := hide (setCells_below (bAl (o := (.cells #[.int .u8 0, .int .u8 0, .int .u8 0, .int .u8 0, .int .u8 0, .int .u8 0, .int .u8 0, .int .u8 0, .int .u8 0, .int .u8 0, .int .u8 0, .int .u8 0, .int .u8 0, .int .u8 0, .int .u8 0, .int .u8 0, .int .u8 0, .int .u8 0, .int .u8 0, .int .u8 0, .int .u8 0, .int .u8 0, .int .u8 0, .int .u8 0, .int .u8 0, .int .u8 0, .int .u8 0, .int .u8 0, .int .u8 0, .int .u8 0, .int .u8 0, .int .u8 0] 46)) B.out) (b := w2.heap.size) (B.out.size) (rowV 32 (bt a)) 0)
  clear R0
  generalize (w2.alloc (.cells #[.int .u8 0, .int .u8 0, .int .u8 0, .int .u8 0, .int .u8 0, .int .u8 0, .int .u8 0, .int .u8 0, .int .u8 0, .int .u8 0, .int .u8 0, .int .u8 0, .int .u8 0, .int .u8 0, .int .u8 0, .int .u8 0, .int .u8 0, .int .u8 0, .int .u8 0, .int .u8 0, .int .u8 0, .int .u8 0, .int .u8 0, .int .u8 0, .int .u8 0, .int .u8 0, .int .u8 0, .int .u8 0, .int .u8 0, .int .u8 0, .int .u8 0, .int .u8 0] 46)).setCells w2.heap.size 0 (rowV 32 (bt a)) = w3 at *
  generalize w2.heap.size = g5 at *
  obtain ⟨p5, p0, p1, p2, p3, _⟩ := P.out
  go_wp2_with (refine wpList_load_mid rfl 46 _ rfl g5 0 rfl (rowV 32 (bt a)) _ R.out.range Try.underlying46 rfl (info_row _) ?_)
  have hbb := fun k => (bt_bd a k).1
  have hbc := fun k => (bt_bd a k).2
  go_loop [25] (fun t => ∃ k : Nat, k ≤ 32 ∧ t = .int .i64 k) (fun t => 32 - (intOf t).toNat)
  case atStart => exact ⟨0, by omega, rfl⟩
  case round =>
    obtain ⟨k, hk, rfl⟩ := hrel
    by_cases hlt : k < 32
    · have hki : (k : Int) < 32 := by omega
      have hix := idx32 (bt a) k hlt
      have b0 := hbb k
      have b1 := hbc k
      have hc : k / 8 = 0 ∨ k / 8 = 1 ∨ k / 8 = 2 ∨ k / 8 = 3 := by omega
      rcases hc with hc | hc | hc | hc
      · have hq5 : (k : Int) / 8 = 0 := by omega
        have hand := byte_at HA.out (q := 3) hlt (by omega) (by omega)
        clear hc
        go_wp2
        go_round
        case rel => exact ⟨k + 1, by omega, by go_num⟩
        case measure => simp [intOf]; omega
      · have hq5 : (k : Int) / 8 = 1 := by omega
        have hand := byte_at HA.out (q := 2) hlt (by omega) (by omega)
        clear hc
        go_wp2
        go_round
        case rel => exact ⟨k + 1, by omega, by go_num⟩
        case measure => simp [intOf]; omega
      · have hq5 : (k : Int) / 8 = 2 := by omega
        have hand := byte_at HA.out (q := 1) hlt (by omega) (by omega)
        clear hc
        go_wp2
        go_round
        case rel => exact ⟨k + 1, by omega, by go_num⟩
        case measure => simp [intOf]; omega
      · have hq5 : (k : Int) / 8 = 3 := by omega
        have hand := byte_at HA.out (q := 0) hlt (by omega) (by omega)
        clear hc
        go_wp2
        go_round
        case rel => exact ⟨k + 1, by omega, by go_num⟩
        case measure => simp [intOf]; omega
    · obtain rfl : k = 32 := by omega
      clear hbb hbc
      go_wp2_with fail
      refine (read_ok (f := bt a) (ao := some ⟨g5, 0, none⟩) (cap := 32) ⟨Nat.le_refl _, fun _ => ⟨g5, 0, rfl, R.out.lt, fun j hj => by rw [Nat.zero_add]; exact R.out.cell j hj⟩⟩ (bt_bd a)).mono ?_
      rintro e w4 ⟨rfl, hb4⟩
      rw [rv_bt_all HA.out]
      replace P := hide (P.out.after hb4 rfl); replace B := hide (bOn B.out hb4)
      clear hb4 p0 p1 p2 p3 p5 R
      rcases Nat.lt_trichotomy n 32 with hn1 | hn1 | hn1
      · skip
        have HN := hide hn1
        have hin : In 0 := In.zero
        have hA : (n : Int) < 32 := by omega
        have HIN := hide hin
        clear hin hn1
        go_wp2_with fail
        refine (read_short HN.out).mono ?_
        rintro e w5 ⟨rfl, hb5⟩
        replace P := hide ((P.out.past (.cells #[.int .u64 (lm a 0), .int .u64 (lm a 1), .int .u64 (lm a 2), .int .u64 (lm a 3)] 24)).after hb5 rfl)
        have S := hide ((Own.new w4 (lm a 0) (lm a 1) (lm a 2) (lm a 3) 24).after hb5 rfl)
        replace B := hide (bOn (bAl (o := (.cells #[.int .u64 (lm a 0), .int .u64 (lm a 1), .int .u64 (lm a 2), .int .u64 (lm a 3)] 24)) B.out) hb5)
        clear hb5
        have hsa := same_self (a := a)
        obtain ⟨s5, s0, s1, s2, s3, _⟩ := S.out
        obtain ⟨q5, q0, q1, q2, q3, _⟩ := P.out
        go_wp2_with fail
        refine (bytes_any 0 _ HIN.out).mono ?_
        rintro e w6 ⟨rfl, hb6⟩
        have D := hide ((Own.new w5 (lm 0 0) (lm 0 1) (lm 0 2) (lm 0 3) 24).after hb6 rfl)
        replace B := hide (bOn (bAl (o := (.cells #[.int .u64 (lm 0 0), .int .u64 (lm 0 1), .int .u64 (lm 0 2), .int .u64 (lm 0 3)] 24)) B.out) hb6)
        clear hb6 s0 s1 s2 s3 s5 q0 q1 q2 q3 q5 S P hsa
        go_wp2_with fail
        have R0 : BRow (w6.alloc (.cells #[.int .u8 0, .int .u8 0, .int .u8 0, .int .u8 0, .int .u8 0, .int .u8 0, .int .u8 0, .int .u8 0, .int .u8 0, .int .u8 0, .int .u8 0, .int .u8 0, .int .u8 0, .int .u8 0, .int .u8 0, .int .u8 0, .int .u8 0, .int .u8 0, .int .u8 0, .int .u8 0, .int .u8 0, .int .u8 0, .int .u8 0, .int .u8 0, .int .u8 0, .int .u8 0, .int .u8 0, .int .u8 0, .int .u8 0, .int .u8 0, .int .u8 0, .int .u8 0] 46)) w6.heap.size 32 (fun _ => 0) := BRow.new w6 32 46 (g := w6.heap.size) rfl
        rw [R0.storing (P := Try.prog) (bt 0)]
        have R := hide (R0.stored (bt 0))
        replace D := hide ((D.out.past (.cells #[.int .u8 0, .int .u8 0, .int .u8 0, .int .u8 0, .int .u8 0, .int .u8 0, .int .u8 0, .int .u8 0, .int .u8 0, .int .u8 0, .int .u8 0, .int .u8 0, .int .u8 0, .int .u8 0, .int .u8 0, .int .u8 0, .int .u8 0, .int .u8 0, .int .u8 0, .int .u8 0, .int .u8 0, .int .u8 0, .int .u8 0, .int .u8 0, .int .u8 0, .int .u8 0, .int .u8 0, .int .u8 0, .int .u8 0, .int .u8 0, .int .u8 0, .int .u8 0] 46)).of (w' := (w6.alloc (.cells #[.int .u8 0, .int .u8 0, .int .u8 0, .int .u8 0, .int .u8 0, .int .u8 0, .int .u8 0, .int .u8 0, .int .u8 0, .int .u8 0, .int .u8 0, .int .u8 0, .int .u8 0, .int .u8 0, .int .u8 0, .int .u8 0, .int .u8 0, .int .u8 0, .int .u8 0, .int .u8 0, .int .u8 0, .int .u8 0, .int .u8 0, .int .u8 0, .int .u8 0, .int .u8 0, .int .u8 0, .int .u8 0, .int .u8 0, .int .u8 0, .int .u8 0, .int .u8 0] 46)).setCells w6.heap.size 0 (rowV 32 (bt 0))) (by rw [setCells_size]; exact Nat.le_refl _) (setCells_block _ _ _ _ _ (Nat.ne_of_lt D.out.lt)))
        replace B := hide (setCells_below (bAl (o := (.cells #[.int .u8 0, .int .u8 0, .int .u8 0, .int .u8 0, .int .u8 0, .int .u8 0, .int .u8 0, .int .u8 0, .int .u8 0, .int .u8 0, .int .u8 0, .int .u8 0, .int .u8 0, .int .u8 0, .int .u8 0, .int .u8 0, .int .u8 0, .int .u8 0, .int .u8 0, .int .u8 0, .int .u8 0, .int .u8 0, .int .u8 0, .int .u8 0, .int .u8 0, .int .u8 0, .int .u8 0, .int .u8 0, .int .u8 0, .int .u8 0, .int .u8 0, .int .u8 0] 46)) B.out) (b := w6.heap.size) (B.out.size) (rowV 32 (bt 0)) 0)
        clear R0
        generalize (w6.alloc (.cells #[.int .u8 0, .int .u8 0, .int .u8 0, .int .u8 0, .int .u8 0, .int .u8 0, .int .u8 0, .int .u8 0, .int .u8 0, .int .u8 0, .int .u8 0, .int .u8 0, .int .u8 0, .int .u8 0, .int .u8 0, .int .u8 0, .int .u8 0, .int .u8 0, .int .u8 0, .int .u8 0, .int .u8 0, .int .u8 0, .int .u8 0, .int .u8 0, .int .u8 0, .int .u8 0, .int .u8 0, .int .u8 0, .int .u8 0, .int .u8 0, .int .u8 0, .int .u8 0] 46)).setCells w6.heap.size 0 (rowV 32 (bt 0)) = w7 at *
        generalize w6.heap.size = g13 at *
        obtain ⟨_, d0, d1, d2, d3, _⟩ := D.out
        have hno := same_nought
        go_wp2
        go_quiet (fail)
        go_wp2
        go_ret
        exact ⟨rfl, bDn B.out⟩
      · skip
        obtain rfl : n = 32 := hn1
        have hin : In (rv f 32) := rv_in HF.out
        have BS := hide (HS.out.below (bAl (o := (.cells #[.int .u64 (lm a 0), .int .u64 (lm a 1), .int .u64 (lm a 2), .int .u64 (lm a 3)] 24)) B.out))
        have HIN := hide hin
        clear hin
        go_wp2_with fail
        refine (read_ok (f := f) BS.out HF.out).mono ?_
        rintro e w5 ⟨rfl, hb5⟩
        replace P := hide ((P.out.past (.cells #[.int .u64 (lm a 0), .int .u64 (lm a 1), .int .u64 (lm a 2), .int .u64 (lm a 3)] 24)).after hb5 rfl)
        have S := hide ((Own.new w4 (lm a 0) (lm a 1) (lm a 2) (lm a 3) 24).after hb5 rfl)
        replace B := hide (bOn (bAl (o := (.cells #[.int .u64 (lm a 0), .int .u64 (lm a 1), .int .u64 (lm a 2), .int .u64 (lm a 3)] 24)) B.out) hb5)
        clear hb5
        have hsa := same_self (a := a)
        obtain ⟨s5, s0, s1, s2, s3, _⟩ := S.out
        obtain ⟨q5, q0, q1, q2, q3, _⟩ := P.out
        go_wp2_with fail
        refine (bytes_any (rv f 32) _ HIN.out).mono ?_
        rintro e w6 ⟨rfl, hb6⟩
        have D := hide ((Own.new w5 (lm (rv f 32) 0) (lm (rv f 32) 1) (lm (rv f 32) 2) (lm (rv f 32) 3) 24).after hb6 rfl)
        replace B := hide (bOn (bAl (o := (.cells #[.int .u64 (lm (rv f 32) 0), .int .u64 (lm (rv f 32) 1), .int .u64 (lm (rv f 32) 2), .int .u64 (lm (rv f 32) 3)] 24)) B.out) hb6)
        clear hb6 s0 s1 s2 s3 s5 q0 q1 q2 q3 q5 S P hsa
        go_wp2_with fail
        have R0 : BRow (w6.alloc (.cells #[.int .u8 0, .int .u8 0, .int .u8 0, .int .u8 0, .int .u8 0, .int .u8 0, .int .u8 0, .int .u8 0, .int .u8 0, .int .u8 0, .int .u8 0, .int .u8 0, .int .u8 0, .int .u8 0, .int .u8 0, .int .u8 0, .int .u8 0, .int .u8 0, .int .u8 0, .int .u8 0, .int .u8 0, .int .u8 0, .int .u8 0, .int .u8 0, .int .u8 0, .int .u8 0, .int .u8 0, .int .u8 0, .int .u8 0, .int .u8 0, .int .u8 0, .int .u8 0] 46)) w6.heap.size 32 (fun _ => 0) := BRow.new w6 32 46 (g := w6.heap.size) rfl
        rw [R0.storing (P := Try.prog) (bt (rv f 32))]
        have R := hide (R0.stored (bt (rv f 32)))
        replace D := hide ((D.out.past (.cells #[.int .u8 0, .int .u8 0, .int .u8 0, .int .u8 0, .int .u8 0, .int .u8 0, .int .u8 0, .int .u8 0, .int .u8 0, .int .u8 0, .int .u8 0, .int .u8 0, .int .u8 0, .int .u8 0, .int .u8 0, .int .u8 0, .int .u8 0, .int .u8 0, .int .u8 0, .int .u8 0, .int .u8 0, .int .u8 0, .int .u8 0, .int .u8 0, .int .u8 0, .int .u8 0, .int .u8 0, .int .u8 0, .int .u8 0, .int .u8 0, .int .u8 0, .int .u8 0] 46)).of (w' := (w6.alloc (.cells #[.int .u8 0, .int .u8 0, .int .u8 0, .int .u8 0, .int .u8 0, .int .u8 0, .int .u8 0, .int .u8 0, .int .u8 0, .int .u8 0, .int .u8 0, .int .u8 0, .int .u8 0, .int .u8 0, .int .u8 0, .int .u8 0, .int .u8 0, .int .u8 0, .int .u8 0, .int .u8 0, .int .u8 0, .int .u8 0, .int .u8 0, .int .u8 0, .int .u8 0, .int .u8 0, .int .u8 0, .int .u8 0, .int .u8 0, .int .u8 0, .int .u8 0, .int .u8 0] 46)).setCells w6.heap.size 0 (rowV 32 (bt (rv f 32)))) (by rw [setCells_size]; exact Nat.le_refl _) (setCells_block _ _ _ _ _ (Nat.ne_of_lt D.out.lt)))
        replace B := hide (setCells_below (bAl (o := (.cells #[.int .u8 0, .int .u8 0, .int .u8 0, .int .u8 0, .int .u8 0, .int .u8 0, .int .u8 0, .int .u8 0, .int .u8 0, .int .u8 0, .int .u8 0, .int .u8 0, .int .u8 0, .int .u8 0, .int .u8 0, .int .u8 0, .int .u8 0, .int .u8 0, .int .u8 0, .int .u8 0, .int .u8 0, .int .u8 0, .int .u8 0, .int .u8 0, .int .u8 0, .int .u8 0, .int .u8 0, .int .u8 0, .int .u8 0, .int .u8 0, .int .u8 0, .int .u8 0] 46)) B.out) (b := w6.heap.size) (B.out.size) (rowV 32 (bt (rv f 32))) 0)
        clear R0
        generalize (w6.alloc (.cells #[.int .u8 0, .int .u8 0, .int .u8 0, .int .u8 0, .int .u8 0, .int .u8 0, .int .u8 0, .int .u8 0, .int .u8 0, .int .u8 0, .int .u8 0, .int .u8 0, .int .u8 0, .int .u8 0, .int .u8 0, .int .u8 0, .int .u8 0, .int .u8 0, .int .u8 0, .int .u8 0, .int .u8 0, .int .u8 0, .int .u8 0, .int .u8 0, .int .u8 0, .int .u8 0, .int .u8 0, .int .u8 0, .int .u8 0, .int .u8 0, .int .u8 0, .int .u8 0] 46)).setCells w6.heap.size 0 (rowV 32 (bt (rv f 32))) = w7 at *
        generalize w6.heap.size = g13 at *
        obtain ⟨_, d0, d1, d2, d3, _⟩ := D.out
        obtain ⟨b, off, rfl, hbl, hcell⟩ := HS.out.2 (by omega)
        have hcu : ∀ m, (convert 45 9 (.slice (some ⟨g13, 0, none⟩) 32 32)).run Try.prog (w7.drewN m) = .ok (.string (strOfNums ((List.range 32).map f))) (w7.drewN m) := by
          intro m
          refine run_convert_bytes_arg (w7.drewN m) 45 5 Try.underlying45 Try.underlying5 g13 0 32 32 ((List.range 32).map f) (by simp) (fun j hj => ?_) 9 Try.underlying9
          rw [Nat.zero_add]
          refine (R.out.cell j hj).trans ?_
          rw [bt_rv HF.out j hj]
          simp [hj]
        have hcb : ∀ m, (convert 45 9 (.slice (some ⟨b, off, none⟩) 32 cap)).run Try.prog (w7.drewN m) = .ok (.string (strOfNums ((List.range 32).map f))) (w7.drewN m) := by
          intro m
          refine run_convert_bytes_arg (w7.drewN m) 45 5 Try.underlying45 Try.underlying5 b off 32 cap ((List.range 32).map f) (by simp) (fun j hj => ?_) 9 Try.underlying9
          refine (B.out.cell (p := ⟨b, off + j, none⟩) hbl).trans ((hcell j hj).trans ?_)
          simp [hj]
        have HCELL := hide hcell
        clear hcell
        go_wp2
        go_quiet (fail)
        go_wp2
        go_ret
        exact ⟨rfl, bDn B.out⟩
      · skip
        have HN := hide hn1
        have hin : In 0 := In.zero
        have hA : ¬ (n : Int) < 32 := by omega
        have hB : (32 : Int) < (n : Int) := by omega
        have HIN := hide hin
        clear hin hn1
        go_wp2_with fail
        refine (read_long HN.out).mono ?_
        rintro e w5 ⟨rfl, hb5⟩
        replace P := hide ((P.out.past (.cells #[.int .u64 (lm a 0), .int .u64 (lm a 1), .int .u64 (lm a 2), .int .u64 (lm a 3)] 24)).after hb5 rfl)
        have S := hide ((Own.new w4 (lm a 0) (lm a 1) (lm a 2) (lm a 3) 24).after hb5 rfl)
        replace B := hide (bOn (bAl (o := (.cells #[.int .u64 (lm a 0), .int .u64 (lm a 1), .int .u64 (lm a 2), .int .u64 (lm a 3)] 24)) B.out) hb5)
        clear hb5
        have hsa := same_self (a := a)
        obtain ⟨s5, s0, s1, s2, s3, _⟩ := S.out
        obtain ⟨q5, q0, q1, q2, q3, _⟩ := P.out
        go_wp2_with fail
        refine (bytes_any 0 _ HIN.out).mono ?_
        rintro e w6 ⟨rfl, hb6⟩
        have D := hide ((Own.new w5 (lm 0 0) (lm 0 1) (lm 0 2) (lm 0 3) 24).after hb6 rfl)
        replace B := hide (bOn (bAl (o := (.cells #[.int .u64 (lm 0 0), .int .u64 (lm 0 1), .int .u64 (lm 0 2), .int .u64 (lm 0 3)] 24)) B.out) hb6)
        clear hb6 s0 s1 s2 s3 s5 q0 q1 q2 q3 q5 S P hsa
        go_wp2_with fail
        have R0 : BRow (w6.alloc (.cells #[.int .u8 0, .int .u8 0, .int .u8 0, .int .u8 0, .int .u8 0, .int .u8 0, .int .u8 0, .int .u8 0, .int .u8 0, .int .u8 0, .int .u8 0, .int .u8 0, .int .u8 0, .int .u8 0, .int .u8 0, .int .u8 0, .int .u8 0, .int .u8 0, .int .u8 0, .int .u8 0, .int .u8 0, .int .u8 0, .int .u8 0, .int .u8 0, .int .u8 0, .int .u8 0, .int .u8 0, .int .u8 0, .int .u8 0, .int .u8 0, .int .u8 0, .int .u8 0] 46)) w6.heap.size 32 (fun _ => 0) := BRow.new w6 32 46 (g := w6.heap.size) rfl
        rw [R0.storing (P := Try.prog) (bt 0)]
        have R := hide (R0.stored (bt 0))
        replace D := hide ((D.out.past (.cells #[.int .u8 0, .int .u8 0, .int .u8 0, .int .u8 0, .int .u8 0, .int .u8 0, .int .u8 0, .int .u8 0, .int .u8 0, .int .u8 0, .int .u8 0, .int .u8 0, .int .u8 0, .int .u8 0, .int .u8 0, .int .u8 0, .int .u8 0, .int .u8 0, .int .u8 0, .int .u8 0, .int .u8 0, .int .u8 0, .int .u8 0, .int .u8 0, .int .u8 0, .int .u8 0, .int .u8 0, .int .u8 0, .int .u8 0, .int .u8 0, .int .u8 0, .int .u8 0] 46)).of (w' := (w6.alloc (.cells #[.int .u8 0, .int .u8 0, .int .u8 0, .int .u8 0, .int .u8 0, .int .u8 0, .int .u8 0, .int .u8 0, .int .u8 0, .int .u8 0, .int .u8 0, .int .u8 0, .int .u8 0, .int .u8 0, .int .u8 0, .int .u8 0, .int .u8 0, .int .u8 0, .int .u8 0, .int .u8 0, .int .u8 0, .int .u8 0, .int .u8 0, .int .u8 0, .int .u8 0, .int .u8 0, .int .u8 0, .int .u8 0, .int .u8 0, .int .u8 0, .int .u8 0, .int .u8 0] 46)).setCells w6.heap.size 0 (rowV 32 (bt 0))) (by rw [setCells_size]; exact Nat.le_refl _) (setCells_block _ _ _ _ _ (Nat.ne_of_lt D.out.lt)))
        replace B := hide (setCells_below (bAl (o := (.cells #[.int .u8 0, .int .u8 0, .int .u8 0, .int .u8 0, .int .u8 0, .int .u8 0, .int .u8 0, .int .u8 0, .int .u8 0, .int .u8 0, .int .u8 0, .int .u8 0, .int .u8 0, .int .u8 0, .int .u8 0, .int .u8 0, .int .u8 0, .int .u8 0, .int .u8 0, .int .u8 0, .int .u8 0, .int .u8 0, .int .u8 0, .int .u8 0, .int .u8 0, .int .u8 0, .int .u8 0, .int .u8 0, .int .u8 0, .int .u8 0, .int .u8 0, .int .u8 0] 46)) B.out) (b := w6.heap.size) (B.out.size) (rowV 32 (bt 0)) 0)
        clear R0
        generalize (w6.alloc (.cells #[.int .u8 0, .int .u8 0, .int .u8 0, .int .u8 0, .int .u8 0, .int .u8 0, .int .u8 0, .int .u8 0, .int .u8 0, .int .u8 0, .int .u8 0, .int .u8 0, .int .u8 0, .int .u8 0, .int .u8 0, .int .u8 0, .int .u8 0, .int .u8 0, .int .u8 0, .int .u8 0, .int .u8 0, .int .u8 0, .int .u8 0, .int .u8 0, .int .u8 0, .int .u8 0, .int .u8 0, .int .u8 0, .int .u8 0, .int .u8 0, .int .u8 0, .int .u8 0] 46)).setCells w6.heap.size 0 (rowV 32 (bt 0)) = w7 at *
        generalize w6.heap.size = g13 at *
        obtain ⟨_, d0, d1, d2, d3, _⟩ := D.out
        have hno := same_nought
        go_wp2
        go_quiet (fail)
        go_wp2
        go_ret
        exact ⟨rfl, bDn B.out⟩
theorem hugeBytes_walk (a0 a1 a2 a3 : Int) (ao : Option Addr) (n cap : Nat) (f : Nat → Int) (w : World) (u0 : (Lit.int .u64 a0).wf = true) (u1 : (Lit.int .u64 a1).wf = true) (u2 : (Lit.int .u64 a2).wf = true) (u3 : (Lit.int .u64 a3).wf = true) (hs : BSl w ao n cap f) (hf : ∀ j, 0 ≤ f j ∧ f j < 256) :
    Calls Try.prog 6 #[.agg #[.int .u64 a0, .int .u64 a1, .int .u64 a2, .int .u64 a3], .slice ao n cap] w fun e w' => e = .returned (.bool true) ∧ Below w.heap.size w w' := by
  rw [big_four u0 u1 u2 u3]
  by_cases hn : n ≤ 100
  · exact hugeBytes_part _ _ _ _ f w (in_four u0 u1 u2 u3) hs hf hn
  · exact hugeBytes_long _ _ _ _ w (by omega)
end Go.Proofs.Ytnpffefebghnbaa
