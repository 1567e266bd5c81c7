/- A number's bytes, and back. -/
import Derived.Test.YtajkdbpojeaflaaRef4Read
import Derived.Test.YtajkdbpojeaflaaPackReader3
namespace Go.Proofs.Ytajkdbpojeaflaa
open Go.RowKit Go.Lib

theorem be_snoc (X b : Int) (k : Nat) (h0 : 0 ≤ b) (h1 : b < 256) : be (X * 256 + b) (k + 1) = be X k ++ [b] := by
  unfold be
  rw [pre_snoc]
  congr 1
  · unfold pre
    apply List.map_congr_left
    intro i hi
    have hik : i < k := List.mem_range.1 hi
    obtain ⟨m, hm⟩ : ∃ m, k = m + i + 1 := ⟨k - i - 1, by omega⟩
    subst hm
    rw [show m + i + 1 + 1 - 1 - i = m + 1 by omega, show m + i + 1 - 1 - i = m by omega, show 8 * (m + 1) = 8 + 8 * m by omega, Int.pow_add, ← Int.ediv_ediv_of_nonneg (by decide), show ((2 : Int) ^ 8) = 256 from rfl, show (X * 256 + b) / 256 = X by omega]
  · rw [show k + 1 - 1 - k = 0 by omega]
    simp
    omega
theorem be_bval {l : List Int} (h : Byt l) : ∀ k, k ≤ l.length → be (bval (l.take k)) k = l.take k
  | 0, _ => by simp [be, pre]
  | k + 1, hk => by
    have hb := h.get k
    rw [take_snoc' l k (by omega), bval_snoc, be_snoc _ _ _ hb.1 hb.2, be_bval h k (by omega)]
theorem bval_be {x : Int} {k : Nat} (h0 : 0 ≤ x) (h1 : x < 256 ^ k) : bval (be x k) = x := by
  unfold be
  rw [bval_pre x k k (Nat.le_refl _), Nat.sub_self, Nat.mul_zero]
  simp
  exact Int.emod_eq_of_lt h0 h1
theorem take32_map {l : List Int} (h : 32 ≤ l.length) : l.take 32 = (List.range 32).map (fun j => l.getD j 0) := by
  apply List.ext_getElem?
  intro j
  by_cases hj : j < 32
  · rw [List.getElem?_take, if_pos hj]
    simp [hj, show j < l.length by omega]
  · rw [List.getElem?_eq_none (by simp; omega), List.getElem?_eq_none (by simp; omega)]
theorem b32_rv {l : List Int} (hb : Byt l) (h : 32 ≤ l.length) : b32 (rv (fun j => l.getD j 0) 32) = l.take 32 := by
  rw [take32_map h]
  unfold b32
  apply List.map_congr_left
  intro j hj
  rw [bt_rv hb.get j (List.mem_range.1 hj)]
end Go.Proofs.Ytajkdbpojeaflaa
