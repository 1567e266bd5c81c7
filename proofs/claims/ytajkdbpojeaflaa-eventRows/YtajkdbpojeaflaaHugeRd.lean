/- The contract of huge.Read over this translation. -/
import Derived.Test.YtajkdbpojeaflaaHugeBts
import Derived.Laws.BitsAllLaws
namespace Go.Proofs.Ytajkdbpojeaflaa
open Go.RowKit Go.Lib

/-- The number of the last k of 32 bytes. -/
def rv (f : Nat → Int) : Nat → Int
  | 0 => 0
  | k + 1 => rv f k + f (31 - k) * 256 ^ k
theorem rv_bd {f : Nat → Int} (h : ∀ j, 0 ≤ f j ∧ f j < 256) (k : Nat) : 0 ≤ rv f k ∧ rv f k < 256 ^ k := by
  induction k with
  | zero => simp [rv]
  | succ k ih =>
    have hp : (0 : Int) < 256 ^ k := Int.pow_pos (by decide)
    have h1 := h (31 - k)
    have h2 := Int.mul_nonneg h1.1 (Int.le_of_lt hp)
    have h3 := Int.mul_le_mul_of_nonneg_right (show f (31 - k) ≤ 255 by omega) (Int.le_of_lt hp)
    unfold rv
    rw [Int.pow_succ]
    omega
theorem rv_in {f : Nat → Int} (h : ∀ j, 0 ≤ f j ∧ f j < 256) : In (rv f 32) := by
  have := rv_bd h 32
  unfold In
  rw [show (256 : Int) ^ 32 = 115792089237316195423570985008687907853269984665640564039457584007913129639936 by decide] at this
  exact this
/-- A slice of bytes in memory. -/
def BSl (w : World) (ao : Option Addr) (n cap : Nat) (f : Nat → Int) : Prop :=
  n ≤ cap ∧ (0 < n → ∃ b off, ao = some ⟨b, off, none⟩ ∧ b < w.heap.size ∧ ∀ j, j < n → w.cell? ⟨b, off + j, none⟩ = some (.int .u8 (f j)))
/-- Bits that lie apart are added. -/
theorem or_apart (x y m : Nat) (h : x < 2 ^ m) : x ||| (y * 2 ^ m) = x + y * 2 ^ m := by
  rw [Nat.or_comm, ← Nat.shiftLeft_eq, ← Nat.shiftLeft_add_eq_or_of_lt h, Nat.add_comm]
theorem or_apart' (x y : Int) (m : Nat) (hm : m ≤ 56) (h0 : 0 ≤ x) (h : x < 2 ^ m) (y0 : 0 ≤ y) (y1 : y < 256) : bits .or .u64 x (y * 2 ^ m) = x + y * 2 ^ m := by
  obtain ⟨x, rfl⟩ := Int.eq_ofNat_of_zero_le h0
  obtain ⟨y, rfl⟩ := Int.eq_ofNat_of_zero_le y0
  have hx : x < 2 ^ m := by
    have : ((2 ^ m : Nat) : Int) = (2 : Int) ^ m := by simp
    omega
  have hp : (2 : Nat) ^ m ≤ 2 ^ 56 := Nat.pow_le_pow_right (by omega) hm
  have hyb : y ≤ 255 := by omega
  have hy : y * 2 ^ m ≤ 255 * 2 ^ 56 := Nat.mul_le_mul hyb hp
  have e : ((y : Int) * 2 ^ m) = ((y * 2 ^ m : Nat) : Int) := by simp
  rw [e, u64_or_nat x (y * 2 ^ m) (by omega) (by omega), or_apart x y m hx]
  simp
theorem pow2_le (m : Nat) (hm : m ≤ 56) : (2 : Int) ^ m ≤ 2 ^ 56 := by
  have : (2 : Nat) ^ m ≤ 2 ^ 56 := Nat.pow_le_pow_right (by omega) hm
  have e : ((2 ^ m : Nat) : Int) = (2 : Int) ^ m := by simp
  omega
theorem or_shl (x y : Int) (m : Nat) (hm : m ≤ 56) (h0 : 0 ≤ x) (h : x < 2 ^ m) (y0 : 0 ≤ y) (y1 : y < 256) : bits .or .u64 x (IntKind.u64.wrap (y * 2 ^ m)) = x + y * 2 ^ m := by
  have p0 : (0 : Int) < 2 ^ m := Int.pow_pos (by decide)
  have p1 : (2 : Int) ^ m ≤ 2 ^ 56 := pow2_le m hm
  have q0 : 0 ≤ y * 2 ^ m := Int.mul_nonneg y0 (Int.le_of_lt p0)
  have q1 : y * 2 ^ m ≤ 255 * 2 ^ 56 := Int.mul_le_mul (by omega) p1 (by omega) (by omega)
  have e : IntKind.u64.wrap (y * 2 ^ m) = y * 2 ^ m := by rw [IntKind.wrap_u64]; omega
  rw [e, or_apart' x y m hm h0 h y0 y1]
theorem Own.set0' {w : World} {g : Nat} {a b c d : Int} (h : Own w g a b c d) (v : Int) : Own (w.setCell ⟨g, 0, none⟩ (.int .u64 v)) g v b c d := by
  obtain ⟨lt, c0, c1, c2, c3, fr⟩ := h
  exact ⟨by simpa [World.setCell] using lt, by simp [go_sem, c0], by simp [go_sem, c1], by simp [go_sem, c2], by simp [go_sem, c3], fun o => by simp [go_sem, fr]⟩
theorem Own.set1' {w : World} {g : Nat} {a b c d : Int} (h : Own w g a b c d) (v : Int) : Own (w.setCell ⟨g, 1, none⟩ (.int .u64 v)) g a v c d := by
  obtain ⟨lt, c0, c1, c2, c3, fr⟩ := h
  exact ⟨by simpa [World.setCell] using lt, by simp [go_sem, c0], by simp [go_sem, c1], by simp [go_sem, c2], by simp [go_sem, c3], fun o => by simp [go_sem, fr]⟩
theorem Own.set2' {w : World} {g : Nat} {a b c d : Int} (h : Own w g a b c d) (v : Int) : Own (w.setCell ⟨g, 2, none⟩ (.int .u64 v)) g a b v d := by
  obtain ⟨lt, c0, c1, c2, c3, fr⟩ := h
  exact ⟨by simpa [World.setCell] using lt, by simp [go_sem, c0], by simp [go_sem, c1], by simp [go_sem, c2], by simp [go_sem, c3], fun o => by simp [go_sem, fr]⟩
theorem Own.set3' {w : World} {g : Nat} {a b c d : Int} (h : Own w g a b c d) (v : Int) : Own (w.setCell ⟨g, 3, none⟩ (.int .u64 v)) g a b c v := by
  obtain ⟨lt, c0, c1, c2, c3, fr⟩ := h
  exact ⟨by simpa [World.setCell] using lt, by simp [go_sem, c0], by simp [go_sem, c1], by simp [go_sem, c2], by simp [go_sem, c3], fun o => by simp [go_sem, fr]⟩
theorem own_eq' {w : World} {g : Nat} {a b c d a' b' c' d' : Int} (h : Own w g a b c d) (e0 : a = a') (e1 : b = b') (e2 : c = c') (e3 : d = d') : Own w g a' b' c' d' := by
  subst e0 e1 e2 e3; exact h
theorem read_step {V x : Int} {k : Nat} (hk : k < 32) (h0 : 0 ≤ V) (h1 : V < 256 ^ k) (x0 : 0 ≤ x) (x1 : x < 256) :
    lm V (k / 8) < 2 ^ (k % 8 * 8) ∧ (lm (V + x * 256 ^ k) 0 = if k / 8 = 0 then lm V 0 + x * 2 ^ (k % 8 * 8) else lm V 0) ∧ (lm (V + x * 256 ^ k) 1 = if k / 8 = 1 then lm V 1 + x * 2 ^ (k % 8 * 8) else lm V 1) ∧
      (lm (V + x * 256 ^ k) 2 = if k / 8 = 2 then lm V 2 + x * 2 ^ (k % 8 * 8) else lm V 2) ∧ (lm (V + x * 256 ^ k) 3 = if k / 8 = 3 then lm V 3 + x * 2 ^ (k % 8 * 8) else lm V 3) := by
  have h : k = 0 ∨ k = 1 ∨ k = 2 ∨ k = 3 ∨ k = 4 ∨ k = 5 ∨ k = 6 ∨ k = 7 ∨ k = 8 ∨ k = 9 ∨ k = 10 ∨ k = 11 ∨ k = 12 ∨ k = 13 ∨ k = 14 ∨ k = 15 ∨ k = 16 ∨ k = 17 ∨ k = 18 ∨ k = 19 ∨ k = 20 ∨ k = 21 ∨ k = 22 ∨ k = 23 ∨ k = 24 ∨ k = 25 ∨ k = 26 ∨ k = 27 ∨ k = 28 ∨ k = 29 ∨ k = 30 ∨ k = 31 := by omega
  rcases h with rfl | rfl | rfl | rfl | rfl | rfl | rfl | rfl | rfl | rfl | rfl | rfl | rfl | rfl | rfl | rfl | rfl | rfl | rfl | rfl | rfl | rfl | rfl | rfl | rfl | rfl | rfl | rfl | rfl | rfl | rfl | rfl <;> simp only [Nat.reduceDiv, Nat.reduceMod, Nat.reduceMul, Int.reducePow, lm0, lm1, lm2, lm3, Nat.reduceEqDiff, if_true, if_false] at h1 ⊢ <;> omega
set_option maxHeartbeats 4000000 in
theorem read_ok {ao : Option Addr} {cap : Nat} {f : Nat → Int} {w : World} (hs : BSl w ao 32 cap f) (hf : ∀ j, 0 ≤ f j ∧ f j < 256) :
    Calls Try.prog 56 #[.slice ao 32 cap] w fun e w' => e = .returned (.tuple #[big (rv f 32), .int .i64 0]) ∧ Below w.heap.size w w' := by
  obtain ⟨b, off, rfl, hbl, hcell⟩ := hs.2 (by omega)
  have HS := hide hcell; have HF := hide hf
  clear hs hcell hf
  have hgg : w.heap.size ≤ w.heap.size + 1 := by omega
  have hne : w.heap.size ≠ w.heap.size + 1 := by omega
  have HNE := hide hne; have HGG := hide hgg
  clear hne hgg
  go_enter Try.func56, Try.ntmps56
  go_wp2
  go_loopw [16] (fun t wr => ∃ k : Nat, k ≤ 32 ∧ t = .int .i64 k ∧ Below w.heap.size w wr ∧ Own wr w.heap.size 0 0 0 0 ∧ Own wr (w.heap.size + 1) (lm (rv f k) 0) (lm (rv f k) 1) (lm (rv f k) 2) (lm (rv f k) 3)) (fun t _ => 32 - (intOf t).toNat)
  case atStart =>
    refine ⟨0, by omega, rfl, bAl (bAl (bMe w)), (Own.new w _ _ _ _ _).past _, ?_⟩
    exact own_eq' (Own.new' _ 0 0 0 0 _ (by simp)) (lm_zero 0).symm (lm_zero 1).symm (lm_zero 2).symm (lm_zero 3).symm
  case round =>
    obtain ⟨k, hk, rfl, hb, o1, o2⟩ := hrel
    have HB := hide hb; have O1 := hide o1; have O2 := hide o2
    clear hb
    by_cases hlt : k < 32
    · clear o1
      obtain ⟨_, y0, y1, y2, y3, yf⟩ := o2
      have hki : (k : Int) < 32 := by omega
      have fb := HF.out (31 - k)
      obtain ⟨fb0, fb1⟩ := fb
      have c1 := (HB.out.cell (p := ⟨b, off + (31 - k), none⟩) hbl).trans (HS.out (31 - k) (by omega))
      have vb := rv_bd HF.out k
      obtain ⟨st, t0, t1, t2, t3⟩ := read_step (x := f (31 - k)) hlt vb.1 vb.2 fb0 fb1
      have EV : Hid (rv f (k + 1) = rv f k + f (31 - k) * 256 ^ k) := rfl
      rw [← EV.out] at t0 t1 t2 t3
      have T0 := hide t0; have T1 := hide t1; have T2 := hide t2; have T3 := hide t3; have ST := hide st
      clear t0 t1 t2 t3 st vb
      generalize f (31 - k) = x at *
      have hc : k / 8 = 0 ∨ k / 8 = 1 ∨ k / 8 = 2 ∨ k / 8 = 3 := by omega
      rcases hc with hc | hc | hc | hc
      · have hq5 : (k : Int) / 8 = 0 := by omega
        have st := ST.out
        rw [hc] at st
        have hor := or_shl (lm (rv f k) 0) x (k % 8 * 8) (by omega) (lm_bd _ _).1 st fb0 fb1
        have HO := hide hor; have HC := hide hc
        clear hc st hor
        go_wp2
        go_region
        all_goals
          go_wp2
          go_roundw
          case rel =>
            refine ⟨k + 1, by omega, by go_num, (HB.out.setCell HGG.out _).drew, (O1.out.set HNE.out _).dn 1, ?_⟩
            rw [HO.out]
            exact own_eq' ((O2.out.set0' _).dn 1) (by rw [T0.out, if_pos HC.out]) (by rw [T1.out, if_neg (by have := HC.out; omega)]) (by rw [T2.out, if_neg (by have := HC.out; omega)]) (by rw [T3.out, if_neg (by have := HC.out; omega)])
          case measure => simp [intOf]; omega
      · have hq5 : (k : Int) / 8 = 1 := by omega
        have st := ST.out
        rw [hc] at st
        have hor := or_shl (lm (rv f k) 1) x (k % 8 * 8) (by omega) (lm_bd _ _).1 st fb0 fb1
        have HO := hide hor; have HC := hide hc
        clear hc st hor
        go_wp2
        go_region
        all_goals
          go_wp2
          go_roundw
          case rel =>
            refine ⟨k + 1, by omega, by go_num, (HB.out.setCell HGG.out _).drew, (O1.out.set HNE.out _).dn 1, ?_⟩
            rw [HO.out]
            exact own_eq' ((O2.out.set1' _).dn 1) (by rw [T0.out, if_neg (by have := HC.out; omega)]) (by rw [T1.out, if_pos HC.out]) (by rw [T2.out, if_neg (by have := HC.out; omega)]) (by rw [T3.out, if_neg (by have := HC.out; omega)])
          case measure => simp [intOf]; omega
      · have hq5 : (k : Int) / 8 = 2 := by omega
        have st := ST.out
        rw [hc] at st
        have hor := or_shl (lm (rv f k) 2) x (k % 8 * 8) (by omega) (lm_bd _ _).1 st fb0 fb1
        have HO := hide hor; have HC := hide hc
        clear hc st hor
        go_wp2
        go_region
        all_goals
          go_wp2
          go_roundw
          case rel =>
            refine ⟨k + 1, by omega, by go_num, (HB.out.setCell HGG.out _).drew, (O1.out.set HNE.out _).dn 1, ?_⟩
            rw [HO.out]
            exact own_eq' ((O2.out.set2' _).dn 1) (by rw [T0.out, if_neg (by have := HC.out; omega)]) (by rw [T1.out, if_neg (by have := HC.out; omega)]) (by rw [T2.out, if_pos HC.out]) (by rw [T3.out, if_neg (by have := HC.out; omega)])
          case measure => simp [intOf]; omega
      · have hq5 : (k : Int) / 8 = 3 := by omega
        have st := ST.out
        rw [hc] at st
        have hor := or_shl (lm (rv f k) 3) x (k % 8 * 8) (by omega) (lm_bd _ _).1 st fb0 fb1
        have HO := hide hor; have HC := hide hc
        clear hc st hor
        go_wp2
        go_region
        all_goals
          go_wp2
          go_roundw
          case rel =>
            refine ⟨k + 1, by omega, by go_num, (HB.out.setCell HGG.out _).drew, (O1.out.set HNE.out _).dn 1, ?_⟩
            rw [HO.out]
            exact own_eq' ((O2.out.set3' _).dn 1) (by rw [T0.out, if_neg (by have := HC.out; omega)]) (by rw [T1.out, if_neg (by have := HC.out; omega)]) (by rw [T2.out, if_neg (by have := HC.out; omega)]) (by rw [T3.out, if_pos HC.out])
          case measure => simp [intOf]; omega
    · obtain rfl : k = 32 := by omega
      obtain ⟨_, x0, x1, x2, x3, _⟩ := o1
      obtain ⟨_, y0, y1, y2, y3, _⟩ := o2
      go_wp2
      refine bodyPost_ret (v := .tuple #[big (rv f 32), .int .i64 0]) ?_ rfl ⟨rfl, put_below HB.out (Nat.le_refl _)⟩
      simp [results, Try.results56, go_sem, x0, x1, x2, x3]
theorem read_short {ao : Option Addr} {n cap : Nat} {w : World} (h : n < 32) :
    Calls Try.prog 56 #[.slice ao n cap] w fun e w' => e = .returned (.tuple #[big 0, .int .i64 4]) ∧ Below w.heap.size w w' := by
  have hi : (n : Int) < 32 := by omega
  go_enter Try.func56, Try.ntmps56
  go_wp2
  refine bodyPost_ret (v := .tuple #[.agg #[.int .u64 0, .int .u64 0, .int .u64 0, .int .u64 0], .int .i64 4]) ?_ rfl ⟨ret_num0 4, bAl (bMe w)⟩
  simp [results, Try.results56, go_sem]
theorem read_long {ao : Option Addr} {n cap : Nat} {w : World} (h : 32 < n) :
    Calls Try.prog 56 #[.slice ao n cap] w fun e w' => e = .returned (.tuple #[big 0, .int .i64 5]) ∧ Below w.heap.size w w' := by
  have hi : (32 : Int) < (n : Int) := by omega
  have hj : ¬ (n : Int) < 32 := by omega
  go_enter Try.func56, Try.ntmps56
  go_wp2
  refine bodyPost_ret (v := .tuple #[.agg #[.int .u64 0, .int .u64 0, .int .u64 0, .int .u64 0], .int .i64 5]) ?_ rfl ⟨ret_num0 5, bAl (bMe w)⟩
  simp [results, Try.results56, go_sem]
end Go.Proofs.Ytajkdbpojeaflaa
