/- The contract of huge.Read over this translation. -/
import Derived.Test.YtncnilplmklccaaHugeBts
import Derived.Laws.BitsAllLaws
namespace Go.Proofs.Ytncnilplmklccaa
open Go.RowKit Go.Lib

/-- The number of the last k of 32 bytes. -/
def rv (f : Nat → Int) : Nat → Int
  | 0 => 0
  | k + 1 => rv f k + f (31 - k) * 256 ^ k
theorem rv_bd {f : Nat → Int} (h : ∀ j, 0 ≤ f j ∧ f j < 256) (k : Nat) : 0 ≤ rv f k ∧ rv f k < 256 ^ k := by
  induction k with
  | zero => simp [rv]
  | succ k ih =>
    have hp : (0 : Int) < 256 ^ k := Int.pow_pos (by decide)
    have h1 := h (31 - k)
    have h2 := Int.mul_nonneg h1.1 (Int.le_of_lt hp)
    have h3 := Int.mul_le_mul_of_nonneg_right (show f (31 - k) ≤ 255 by omega) (Int.le_of_lt hp)
    unfold rv
    rw [Int.pow_succ]
    omega
theorem rv_in {f : Nat → Int} (h : ∀ j, 0 ≤ f j ∧ f j < 256) : In (rv f 32) := by
  have := rv_bd h 32
  unfold In
  rw [show (256 : Int) ^ 32 = 115792089237316195423570985008687907853269984665640564039457584007913129639936 by decide] at this
  exact this
/-- A slice of bytes in memory. -/
def BSl (w : World) (ao : Option Addr) (n cap : Nat) (f : Nat → Int) : Prop :=
  n ≤ cap ∧ (0 < n → ∃ b off, ao = some ⟨b, off, none⟩ ∧ b < w.heap.size ∧ ∀ j, j < n → w.cell? ⟨b, off + j, none⟩ = some (.int .u8 (f j)))
/-- Bits that lie apart are added. -/
theorem or_apart (x y m : Nat) (h : x < 2 ^ m) : x ||| (y * 2 ^ m) = x + y * 2 ^ m := by
  rw [Nat.or_comm, ← Nat.shiftLeft_eq, ← Nat.shiftLeft_add_eq_or_of_lt h, Nat.add_comm]
theorem or_apart' (x y : Int) (m : Nat) (hm : m ≤ 56) (h0 : 0 ≤ x) (h : x < 2 ^ m) (y0 : 0 ≤ y) (y1 : y < 256) : bits .or .u64 x (y * 2 ^ m) = x + y * 2 ^ m := by
  obtain ⟨x, rfl⟩ := Int.eq_ofNat_of_zero_le h0
  obtain ⟨y, rfl⟩ := Int.eq_ofNat_of_zero_le y0
  have hx : x < 2 ^ m := by
    have : ((2 ^ m : Nat) : Int) = (2 : Int) ^ m := by simp
    omega
  have hp : (2 : Nat) ^ m ≤ 2 ^ 56 := Nat.pow_le_pow_right (by omega) hm
  have hyb : y ≤ 255 := by omega
  have hy : y * 2 ^ m ≤ 255 * 2 ^ 56 := Nat.mul_le_mul hyb hp
  have e : ((y : Int) * 2 ^ m) = ((y * 2 ^ m : Nat) : Int) := by simp
  rw [e, u64_or_nat x (y * 2 ^ m) (by omega) (by omega), or_apart x y m hx]
  simp
theorem pow2_le (m : Nat) (hm : m ≤ 56) : (2 : Int) ^ m ≤ 2 ^ 56 := by
  have : (2 : Nat) ^ m ≤ 2 ^ 56 := Nat.pow_le_pow_right (by omega) hm
  have e : ((2 ^ m : Nat) : Int) = (2 : Int) ^ m := by simp
  omega
theorem or_shl (x y : Int) (m : Nat) (hm : m ≤ 56) (h0 : 0 ≤ x) (h : x < 2 ^ m) (y0 : 0 ≤ y) (y1 : y < 256) : bits .or .u64 x (IntKind.u64.wrap (y * 2 ^ m)) = x + y * 2 ^ m := by
  have p0 : (0 : Int) < 2 ^ m := Int.pow_pos (by decide)
  have p1 : (2 : Int) ^ m ≤ 2 ^ 56 := pow2_le m hm
  have q0 : 0 ≤ y * 2 ^ m := Int.mul_nonneg y0 (Int.le_of_lt p0)
  have q1 : y * 2 ^ m ≤ 255 * 2 ^ 56 := Int.mul_le_mul (by omega) p1 (by omega) (by omega)
  have e : IntKind.u64.wrap (y * 2 ^ m) = y * 2 ^ m := by rw [IntKind.wrap_u64]; omega
  rw [e, or_apart' x y m hm h0 h y0 y1]
theorem Own.set0' {w : World} {g : Nat} {a b c d : Int} (h : Own w g a b c d) (v : Int) : Own (w.setCell ⟨g, 0, none⟩ (.int .u64 v)) g v b c d := by
  obtain ⟨lt, c0, c1, c2, c3, fr⟩ := h
  exact ⟨by simpa [World.setCell] using lt, by simp [go_sem, c0], by simp [go_sem, c1], by simp [go_sem, c2], by simp [go_sem, c3], fun o => by simp [go_sem, fr]⟩
theorem Own.set1' {w : World} {g : Nat} {a b c d : Int} (h : Own w g a b c d) (v : Int) : Own (w.setCell ⟨g, 1, none⟩ (.int .u64 v)) g a v c d := by
  obtain ⟨lt, c0, c1, c2, c3, fr⟩ := h
  exact ⟨by simpa [World.setCell] using lt, by simp [go_sem, c0], by simp [go_sem, c1], by simp [go_sem, c2], by simp [go_sem, c3], fun o => by simp [go_sem, fr]⟩
theorem Own.set2' {w : World} {g : Nat} {a b c d : Int} (h : Own w g a b c d) (v : Int) : Own (w.setCell ⟨g, 2, none⟩ (.int .u64 v)) g a b v d := by
  obtain ⟨lt, c0, c1, c2, c3, fr⟩ := h
  exact ⟨by simpa [World.setCell] using lt, by simp [go_sem, c0], by simp [go_sem, c1], by simp [go_sem, c2], by simp [go_sem, c3], fun o => by simp [go_sem, fr]⟩
theorem Own.set3' {w : World} {g : Nat} {a b c d : Int} (h : Own w g a b c d) (v : Int) : Own (w.setCell ⟨g, 3, none⟩ (.int .u64 v)) g a b c v := by
  obtain ⟨lt, c0, c1, c2, c3, fr⟩ := h
  exact ⟨by simpa [World.setCell] using lt, by simp [go_sem, c0], by simp [go_sem, c1], by simp [go_sem, c2], by simp [go_sem, c3], fun o => by simp [go_sem, fr]⟩
theorem own_eq' {w : World} {g : Nat} {a b c d a' b' c' d' : Int} (h : Own w g a b c d) (e0 : a = a') (e1 : b = b') (e2 : c = c') (e3 : d = d') : Own w g a' b' c' d' := by
  subst e0 e1 e2 e3; exact h
theorem read_step {V x : Int} {k : Nat} (hk : k < 32) (h0 : 0 ≤ V) (h1 : V < 256 ^ k) (x0 : 0 ≤ x) (x1 : x < 256) :
    lm V (k / 8) < 2 ^ (k % 8 * 8) ∧ (lm (V + x * 256 ^ k) 0 = if k / 8 = 0 then lm V 0 + x * 2 ^ (k % 8 * 8) else lm V 0) ∧ (lm (V + x * 256 ^ k) 1 = if k / 8 = 1 then lm V 1 + x * 2 ^ (k % 8 * 8) else lm V 1) ∧
      (lm (V + x * 256 ^ k) 2 = if k / 8 = 2 then lm V 2 + x * 2 ^ (k % 8 * 8) else lm V 2) ∧ (lm (V + x * 256 ^ k) 3 = if k / 8 = 3 then lm V 3 + x * 2 ^ (k % 8 * 8) else lm V 3) := by
  have h : k = 0 ∨ k = 1 ∨ k = 2 ∨ k = 3 ∨ k = 4 ∨ k = 5 ∨ k = 6 ∨ k = 7 ∨ k = 8 ∨ k = 9 ∨ k = 10 ∨ k = 11 ∨ k = 12 ∨ k = 13 ∨ k = 14 ∨ k = 15 ∨ k = 16 ∨ k = 17 ∨ k = 18 ∨ k = 19 ∨ k = 20 ∨ k = 21 ∨ k = 22 ∨ k = 23 ∨ k = 24 ∨ k = 25 ∨ k = 26 ∨ k = 27 ∨ k = 28 ∨ k = 29 ∨ k = 30 ∨ k = 31 := by omega
  rcases h with rfl | rfl | rfl | rfl | rfl | rfl | rfl | rfl | rfl | rfl | rfl | rfl | rfl | rfl | rfl | rfl | rfl | rfl | rfl | rfl | rfl | rfl | rfl | rfl | rfl | rfl | rfl | rfl | rfl | rfl | rfl | rfl <;> simp only [Nat.reduceDiv, Nat.reduceMod, Nat.reduceMul, Int.reducePow, lm0, lm1, lm2, lm3, Nat.reduceEqDiff, if_true, if_false] at h1 ⊢ <;> omega
end Go.Proofs.Ytncnilplmklccaa
