/- The contract of huge.Sum over this translation. -/
import Derived.Test.YtncnilplmklccaaHugeAdd
import Derived.Test.YtncnilplmklccaaOwn
namespace Go.Proofs.Ytncnilplmklccaa
open Go.RowKit Go.Lib
attribute [local go_sem] setCell_drewN alloc_drewN

/-- A slice of numbers in memory. -/
def ISl (w : World) (ao : Option Addr) (n cap : Nat) (f : Nat → Int) : Prop :=
  n ≤ cap ∧ n ≤ 1048576 ∧ (0 < n → ∃ b off, ao = some ⟨b, off, none⟩ ∧ b < w.heap.size ∧ ∀ i, i < n → w.cell? ⟨b, off + i * 4, none⟩ = some (.int .u64 (lm (f i) 0)) ∧ w.cell? ⟨b, off + i * 4 + 1, none⟩ = some (.int .u64 (lm (f i) 1)) ∧ w.cell? ⟨b, off + i * 4 + 2, none⟩ = some (.int .u64 (lm (f i) 2)) ∧ w.cell? ⟨b, off + i * 4 + 3, none⟩ = some (.int .u64 (lm (f i) 3)))
theorem ISl.below {w w' : World} {ao : Option Addr} {n cap : Nat} {f : Nat → Int} (h : ISl w ao n cap f) (hb : Below w.heap.size w w') : ISl w' ao n cap f := by
  refine ⟨h.1, h.2.1, fun hn => ?_⟩
  obtain ⟨b, off, e, hl, hc⟩ := h.2.2 hn
  refine ⟨b, off, e, Nat.lt_of_lt_of_le hl hb.size, fun i hi => ?_⟩
  obtain ⟨c0, c1, c2, c3⟩ := hc i hi
  exact ⟨(hb.cell (p := ⟨b, off + i * 4, none⟩) hl).trans c0, (hb.cell (p := ⟨b, off + i * 4 + 1, none⟩) hl).trans c1, (hb.cell (p := ⟨b, off + i * 4 + 2, none⟩) hl).trans c2, (hb.cell (p := ⟨b, off + i * 4 + 3, none⟩) hl).trans c3⟩
/-- The sum of the first k. -/
def sums (f : Nat → Int) : Nat → Int
  | 0 => 0
  | k + 1 => sums f k + f k
theorem sums_nonneg {f : Nat → Int} (h : ∀ i, In (f i)) (k : Nat) : 0 ≤ sums f k := by
  induction k with
  | zero => simp [sums]
  | succ k ih => have := (h k).1; unfold sums; omega
theorem sums_le {f : Nat → Int} (h : ∀ i, In (f i)) {k n : Nat} (hk : k ≤ n) : sums f k ≤ sums f n := by
  obtain ⟨m, rfl⟩ := Nat.le.dest hk
  induction m with
  | zero => exact Int.le_refl _
  | succ m ih =>
    have := (h (k + m)).1
    have h2 := ih (by omega)
    show _ ≤ sums f (k + m) + f (k + m)
    omega

set_option maxHeartbeats 4000000 in
theorem sum_raw {ao : Option Addr} {n cap : Nat} {f : Nat → Int} {w : World} (hs : ISl w ao n cap f) (hf : ∀ i, In (f i)) (Q : Ending → World → Prop)
    (yes : ¬ In (sums f n) → ∀ w', Below w.heap.size w w' → Q (.returned (.tuple #[big 0, .int .i64 2])) w')
    (no : In (sums f n) → ∀ w', Below w.heap.size w w' → Q (.returned (.tuple #[big (sums f n), .int .i64 0])) w') :
    Calls Try.prog 59 #[.slice ao n cap] w Q := by
  have HY := hide yes; have HN := hide no; have HS := hide hs; have HF := hide hf
  have hn20 := hs.2.1
  have hgg : w.heap.size ≤ w.heap.size + 1 := by omega
  have hne : w.heap.size ≠ w.heap.size + 1 := by omega
  have HNE := hide hne; have HGG := hide hgg
  clear hne hgg yes no hs hf
  go_enter Try.func59, Try.ntmps59
  go_wp2
  go_loopw [10] (fun t wr => ∃ k : Nat, k ≤ n ∧ t = .int .i64 k ∧ In (sums f k) ∧ Below w.heap.size w wr ∧ Own wr w.heap.size 0 0 0 0 ∧ Own wr (w.heap.size + 1) (lm (sums f k) 0) (lm (sums f k) 1) (lm (sums f k) 2) (lm (sums f k) 3)) (fun t _ => n - (intOf t).toNat)
  case atStart =>
    refine ⟨0, Nat.zero_le _, rfl, In.zero, bAl (bAl (bMe w)), (Own.new w _ _ _ _ _).past _, ?_⟩
    have := Own.new' (w.alloc (.cells #[.int .u64 0, .int .u64 0, .int .u64 0, .int .u64 0] 55)) (g := w.heap.size + 1) 0 0 0 0 55 (by simp)
    unfold sums
    rw [lm_zero, lm_zero, lm_zero, lm_zero]
    exact this
  case round =>
    obtain ⟨k, hk, rfl, hi, hb, o1, o2⟩ := hrel
    have HI := hide hi; have HB := hide hb; have O1 := hide o1; have O2 := hide o2
    clear hi hb
    by_cases hlt : k < n
    · clear o1
      obtain ⟨y5, y0, y1, y2, y3, yf⟩ := o2
      have hki : (k : Int) < (n : Int) := by omega
      obtain ⟨b, off, rfl, hbl, hcell⟩ := HS.out.2.2 (by omega)
      obtain ⟨c0, c1, c2, c3⟩ := hcell k hlt
      replace c0 := (HB.out.cell (p := ⟨b, off + k * 4, none⟩) hbl).trans c0
      replace c1 := (HB.out.cell (p := ⟨b, off + k * 4 + 1, none⟩) hbl).trans c1
      replace c2 := (HB.out.cell (p := ⟨b, off + k * 4 + 2, none⟩) hbl).trans c2
      replace c3 := (HB.out.cell (p := ⟨b, off + k * 4 + 3, none⟩) hbl).trans c3
      have HC := hide hcell
      clear hcell
      have es : Hid (sums f (k + 1) = sums f k + f k) := rfl
      by_cases hin : In (sums f k + f k)
      · have HIN := hide hin
        clear hin
        go_wp2_with fail
        refine (huge_add_ok _ _ _ HI.out (HF.out k) HIN.out).mono ?_
        rintro e w2 ⟨rfl, hb2⟩
        replace O1 := hide ((O1.out.past (.cells #[.int .u64 (lm (f k) 0), .int .u64 (lm (f k) 1), .int .u64 (lm (f k) 2), .int .u64 (lm (f k) 3)] 55)).after hb2 rfl)
        replace O2 := hide ((O2.out.past (.cells #[.int .u64 (lm (f k) 0), .int .u64 (lm (f k) 1), .int .u64 (lm (f k) 2), .int .u64 (lm (f k) 3)] 55)).after hb2 rfl)
        replace HB := hide (bOn (bAl HB.out) hb2)
        clear hb2 y0 y1 y2 y3 yf y5 c0 c1 c2 c3
        obtain ⟨y5, y0, y1, y2, y3, yf⟩ := O2.out
        go_wp2
        go_roundw
        case rel => exact ⟨k + 1, by omega, by go_num, by rw [es.out]; exact HIN.out, put_below HB.out HGG.out, O1.out.other HNE.out, by rw [es.out]; exact O2.out.put _ _ _ _⟩
        case measure => simp [intOf]; omega
      · have HIN := hide hin
        clear hin
        go_wp2_with fail
        refine (huge_add_over _ _ _ HI.out (HF.out k) HIN.out).mono ?_
        rintro e w2 ⟨rfl, hb2⟩
        replace O1 := hide ((O1.out.past (.cells #[.int .u64 (lm (f k) 0), .int .u64 (lm (f k) 1), .int .u64 (lm (f k) 2), .int .u64 (lm (f k) 3)] 55)).after hb2 rfl)
        replace O2 := hide ((O2.out.past (.cells #[.int .u64 (lm (f k) 0), .int .u64 (lm (f k) 1), .int .u64 (lm (f k) 2), .int .u64 (lm (f k) 3)] 55)).after hb2 rfl)
        replace HB := hide (bOn (bAl HB.out) hb2)
        clear hb2 y0 y1 y2 y3 yf y5 c0 c1 c2 c3
        obtain ⟨y5, y0, y1, y2, y3, yf⟩ := O2.out
        obtain ⟨s5, s0, s1, s2, s3, sf⟩ := O1.out
        go_wp2
        have hbad : ¬ In (sums f n) := fun hin => HIN.out (by
          rw [← es.out]
          have h1 := sums_nonneg HF.out (k + 1)
          have h2 := sums_le HF.out (show k + 1 ≤ n by omega)
          unfold In at *
          omega)
        have R := HY.out hbad _ (put_below (put_below HB.out HGG.out (x := lm 0 0) (y := lm 0 1) (z := lm 0 2) (u := lm 0 3)) (Nat.le_refl _) (x := 0) (y := 0) (z := 0) (u := 0))
        rw [← ret_num0 2] at R
        refine bodyPost_ret (v := .tuple #[.agg #[.int .u64 0, .int .u64 0, .int .u64 0, .int .u64 0], .int .i64 2]) ?_ rfl R
        simp [results, Try.results59, go_sem, s0, s1, s2, s3]
    · obtain rfl : k = n := by omega
      obtain ⟨s5, s0, s1, s2, s3, sf⟩ := o1
      obtain ⟨y5, y0, y1, y2, y3, yf⟩ := o2
      go_wp2
      refine bodyPost_ret (v := .tuple #[big (sums f k), .int .i64 0]) ?_ rfl (HN.out HI.out _ (put_below HB.out (Nat.le_refl _)))
      simp [results, Try.results59, go_sem, s0, s1, s2, s3]
theorem sum_any {ao : Option Addr} {n cap : Nat} {f : Nat → Int} {w : World} (hs : ISl w ao n cap f) (hf : ∀ i, In (f i)) :
    Calls Try.prog 59 #[.slice ao n cap] w fun e w' => ∃ s c, e = .returned (.tuple #[big s, .int .i64 c]) ∧ ((In (sums f n) ∧ s = sums f n ∧ c = 0) ∨ (¬ In (sums f n) ∧ s = 0 ∧ c = 2)) ∧ Below w.heap.size w w' :=
  sum_raw hs hf _ (fun h _ hw => ⟨_, _, rfl, .inr ⟨h, rfl, rfl⟩, hw⟩) (fun h _ hw => ⟨_, _, rfl, .inl ⟨h, rfl, rfl⟩, hw⟩)
end Go.Proofs.Ytncnilplmklccaa
