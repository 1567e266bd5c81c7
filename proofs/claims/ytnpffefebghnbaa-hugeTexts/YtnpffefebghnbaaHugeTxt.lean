/- The contract of huge.Text over this translation; decimal digits of a number. -/
import Derived.Test.YtnpffefebghnbaaHugeShort
import Derived.Test.YtnpffefebghnbaaHugeBts
import Derived.Laws.BytesArg
namespace Go.Proofs.Ytnpffefebghnbaa
open Go.RowKit Go.Lib
attribute [local go_sem] setCell_drewN alloc_drewN eqInt

/-- The number has K decimal digits. -/
def nd (a : Int) (K : Nat) : Prop := 0 < K ∧ a / 10 ^ K = 0 ∧ a / 10 ^ (K - 1) ≠ 0
/-- Its digits, as letters. -/
def tl (a : Int) (K : Nat) : List Int := (List.range K).map fun i => 48 + a / 10 ^ (K - 1 - i) % 10
/-- The text, as far as it is written: from the end. -/
def tk (a : Int) (k j : Nat) : Int := if 78 - k ≤ j then 48 + a / 10 ^ (77 - j) % 10 else 0
theorem ten_step (a : Int) (k : Nat) : a / 10 ^ k / 10 = a / 10 ^ (k + 1) := by
  rw [Int.pow_succ, Int.ediv_ediv_of_nonneg (Int.le_of_lt (Int.pow_pos (by decide)))]
theorem ten_small {a : Int} (ha : In a) : a / 10 ^ 78 = 0 := by
  refine Int.ediv_eq_zero_of_lt ha.1 ?_
  have := ha.2
  rw [show (10 : Int) ^ 78 = 1000000000000000000000000000000000000000000000000000000000000000000000000000000 by decide]
  omega
theorem in_ten {a : Int} (ha : In a) (k : Nat) : In (a / 10 ^ k) := by
  have p : (0 : Int) < 10 ^ k := Int.pow_pos (by decide)
  have h0 := Int.ediv_nonneg ha.1 (Int.le_of_lt p)
  have h1 := Int.ediv_le_self (10 ^ k) ha.1
  unfold In at *
  omega
theorem same_nil {a : Int} (ha : In a) : same4 (lm a 0) (lm a 1) (lm a 2) (lm a 3) 0 0 0 0 = decide (a = 0) := by
  have := big_eq ha In.zero
  rwa [lm_zero, lm_zero, lm_zero, lm_zero] at this
theorem tk_next {a : Int} {k j : Nat} (hj : j < 78) (hk : k < 78) : (if j = 77 - k then 48 + a / 10 ^ k % 10 else tk a k j) = tk a (k + 1) j := by
  unfold tk
  by_cases e : j = 77 - k
  · subst e; rw [if_pos rfl, if_pos (by omega), show 77 - (77 - k) = k by omega]
  · rw [if_neg e]
    by_cases h : 78 - k ≤ j
    · rw [if_pos h, if_pos (by omega)]
    · rw [if_neg h, if_neg (by omega)]
theorem tl_get {a : Int} {K i : Nat} (h : i < K) : (tl a K).getD i 0 = 48 + a / 10 ^ (K - 1 - i) % 10 := by
  unfold tl; simp [h]
theorem tk_tl {a : Int} {K i : Nat} (h : i < K) (hK : K ≤ 78) : tk a K (78 - K + i) = (tl a K).getD i 0 := by
  rw [tl_get h]
  unfold tk
  rw [if_pos (by omega), show 77 - (78 - K + i) = K - 1 - i by omega]

theorem zero78 (w : World) : (zeroValue 72).run Try.prog w = .ok (.agg (Array.replicate 78 (.int .u8 0))) w := by kernel_rfl
theorem slice78 (g k : Nat) (h0 : 0 < k) (h1 : k ≤ 78) (w : World) : (Instr.sliceAt 72 (.pointer (some ⟨g, 0, none⟩)) (some (.int .i64 ((78 - k : Nat) : Int))) none none).run Try.prog w = .ok (.slice (some ⟨g, 78 - k, none⟩) k k) w := by
  have al : Try.prog.arrayLen 72 = 78 := by kernel_rfl
  have el : Try.prog.elem 72 = 5 := by kernel_rfl
  have hu : Try.prog.underlying 72 = some (.array (Try.prog.arrayLen 72) (Try.prog.elem 72)) := by rw [al, el]; exact Try.underlying72
  rw [run_sliceAt_array_l w 72 ⟨g, 0, none⟩ hu .i64 _ (by omega) (by rw [al]; omega), el, Try.sizeOf5]
  simp only [Result.andThen_ok, slicedAt, al, Int.toNat_natCast]
  rw [if_neg (by omega), Addr.add_mid, Nat.mul_one, Nat.zero_add, show 78 - (78 - k) = k by omega]
theorem text_zero (w : World) :
    Calls Try.prog 26 #[big 0] w fun e w' => e = .returned (.string ⟨#[48]⟩) ∧ Below w.heap.size w w' := by
  have hz := same_nil In.zero
  rw [decide_eq_true rfl] at hz
  go_enter Try.func26, Try.ntmps26
  go_wp2
  go_ret
  exact ⟨rfl, bAl (bMe w)⟩

set_option maxHeartbeats 4000000 in
theorem text_any (a : Int) (w : World) (ha : In a) (hne : a ≠ 0) :
    Calls Try.prog 26 #[big a] w fun e w' => ∃ K, nd a K ∧ K ≤ 78 ∧ e = .returned (.string (strOfNums (tl a K))) ∧ Below w.heap.size w w' := by
  have HA := hide ha
  have hz := same_nil ha
  rw [decide_eq_false hne] at hz
  have HNE := hide hne
  clear ha hne
  have hgg : w.heap.size ≤ w.heap.size + 1 := by omega
  have hg2 : w.heap.size ≠ w.heap.size + 1 := by omega
  have HGG := hide hgg; have HG2 := hide hg2
  clear hgg hg2
  have hal := zero78
  go_enter Try.func26, Try.ntmps26
  go_wp2
  clear hz hal
  go_loopw [4] (fun t wr => ∃ k : Nat, k ≤ 78 ∧ t = .int .i64 (78 - (k : Int)) ∧ (0 < k → a / 10 ^ (k - 1) ≠ 0) ∧ Below w.heap.size w wr ∧ Own wr w.heap.size (lm (a / 10 ^ k) 0) (lm (a / 10 ^ k) 1) (lm (a / 10 ^ k) 2) (lm (a / 10 ^ k) 3) ∧ BRow wr (w.heap.size + 1) 78 (tk a k)) (fun t _ => (intOf t).toNat)
  case atStart =>
    refine ⟨0, by omega, rfl, fun h => by omega, bAl (bAl (bMe w)), ?_, ?_⟩
    · rw [Int.pow_zero, Int.ediv_one]
      exact (Own.new w _ _ _ _ _).past _
    · exact (BRow.new _ 78 _ (by simp)).congr (fun j hj => by unfold tk; rw [if_neg (by omega)])
  case round =>
    obtain ⟨k, hk, rfl, hp, hb, o1, r2⟩ := hrel
    have HB := hide hb; have O1 := hide o1; have R2 := hide r2; have HP := hide hp
    clear hb r2 hp
    obtain ⟨y5, y0, y1, y2, y3, yf⟩ := o1
    have hin := in_ten HA.out k
    have HIN := hide hin
    have hz := same_nil hin
    by_cases h0 : a / 10 ^ k = 0
    · rw [decide_eq_true h0] at hz
      have H0 := hide h0
      clear h0 hin
      have hk0 : 0 < k := by
        rcases Nat.eq_zero_or_pos k with h | h
        · subst h
          have := H0.out
          rw [Int.pow_zero, Int.ediv_one] at this
          exact absurd this HNE.out
        · exact h
      have e78 : (78 : Int) - (k : Int) = ((78 - k : Nat) : Int) := by omega
      have hcv := fun wx (hc : ∀ i, i < k → wx.cell? ⟨w.heap.size + 1, 78 - k + i, none⟩ = some (.int .u8 ((tl a k).getD i 0))) => run_convert_bytes_arg (P := Try.prog) wx 45 5 Try.underlying45 Try.underlying5 (w.heap.size + 1) (78 - k) k k (tl a k) (by simp [tl]) hc 9 Try.underlying9
      have hcv' := hcv wr (fun i hi => by rw [← tk_tl hi hk]; exact R2.out.cell _ (by omega))
      clear hcv
      have hsl := slice78 (w.heap.size + 1) k hk0 hk wr
      go_wp2
      go_ret
      exact ⟨k, ⟨hk0, H0.out, HP.out hk0⟩, hk, rfl, HB.out⟩
    · rw [decide_eq_false h0] at hz
      have H0 := hide h0
      have hk78 : k < 78 := by
        rcases Nat.lt_or_ge k 78 with h | h
        · exact h
        · obtain rfl : k = 78 := by omega
          exact absurd (ten_small HA.out) h0
      clear h0 hin
      have r0 := Int.emod_nonneg (a / 10 ^ k) (show (10 : Int) ≠ 0 by decide)
      have r1 := Int.emod_lt_of_pos (a / 10 ^ k) (show (0 : Int) < 10 by decide)
      have ET := hide (ten_step a k)
      have e77 : (78 : Int) - (k : Int) - 1 = ((77 - k : Nat) : Int) := by omega
      have c2 := R2.out.cell (77 - k) (by omega)
      have f2 := R2.out.fr (77 - k)
      go_wp2_with fail
      refine (short_any (a / 10 ^ k) 10 _ HIN.out (by omega) (by omega)).mono ?_
      rintro e w2 ⟨rfl, hb2⟩
      rw [ET.out]
      obtain ⟨r, HR⟩ : ∃ r, Hid (r = a / 10 ^ k % 10) := ⟨_, rfl⟩
      rw [← HR.out] at r0 r1 ⊢
      have O2 := hide (O1.out.after hb2 rfl); have R3 := hide (R2.out.after hb2 rfl); have HB2 := hide (bOn HB.out hb2)
      clear hb2 y0 y1 y2 y3 y5 yf c2 f2 hz
      obtain ⟨y5, y0, y1, y2, y3, yf⟩ := O2.out
      have c2 := R3.out.cell (77 - k) (by omega)
      have f2 := R3.out.fr (77 - k)
      have hw8 : IntKind.u8.wrap r = r := by rw [IntKind.wrap_u8]; omega
      go_wp2
      go_roundw
      case rel =>
        refine ⟨k + 1, by omega, ?_, fun _ => H0.out, ?_, ?_, ?_⟩
        · congr 1; omega
        · exact (put_below HB2.out (Nat.le_refl _)).setCell HGG.out _
        · exact (O2.out.put _ _ _ _).set HG2.out _
        · refine BRow.congr (BRow.set (f := tk a k) ?_ (77 - k) (by omega) (48 + r)) (fun j hj => ?_)
          · exact (((R3.out.other HG2.out.symm _).other HG2.out.symm _).other HG2.out.symm _).other HG2.out.symm _
          · rw [HR.out]; exact tk_next hj hk78
      case measure => simp [intOf]; omega
end Go.Proofs.Ytnpffefebghnbaa
