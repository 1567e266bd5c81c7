/- An intent's bytes, and back. -/
import Derived.Test.YthcahgfoganehaaDoorItnGet
import Derived.Test.YthcahgfoganehaaDoorRef4Read
namespace Go.Proofs.YthcahgfoganehaaDoor
open Go.RowKit Go.Lib

theorem be_snoc (X b : Int) (k : Nat) (h0 : 0 ≤ b) (h1 : b < 256) : be (X * 256 + b) (k + 1) = be X k ++ [b] := by
  unfold be
  rw [pre_snoc]
  congr 1
  · unfold pre
    apply List.map_congr_left
    intro i hi
    have hik : i < k := List.mem_range.1 hi
    obtain ⟨m, hm⟩ : ∃ m, k = m + i + 1 := ⟨k - i - 1, by omega⟩
    subst hm
    rw [show m + i + 1 + 1 - 1 - i = m + 1 by omega, show m + i + 1 - 1 - i = m by omega, show 8 * (m + 1) = 8 + 8 * m by omega, Int.pow_add, ← Int.ediv_ediv_of_nonneg (by decide), show ((2 : Int) ^ 8) = 256 from rfl, show (X * 256 + b) / 256 = X by omega]
  · rw [show k + 1 - 1 - k = 0 by omega]
    simp
    omega
theorem be_bval {l : List Int} (h : Byt l) : ∀ k, k ≤ l.length → be (bval (l.take k)) k = l.take k
  | 0, _ => by simp [be, pre]
  | k + 1, hk => by
    have hb := h.get k
    rw [take_snoc' l k (by omega), bval_snoc, be_snoc _ _ _ hb.1 hb.2, be_bval h k (by omega)]
theorem bval_be {x : Int} {k : Nat} (h0 : 0 ≤ x) (h1 : x < 256 ^ k) : bval (be x k) = x := by
  unfold be
  rw [bval_pre x k k (Nat.le_refl _), Nat.sub_self, Nat.mul_zero]
  simp
  exact Int.emod_eq_of_lt h0 h1
theorem take32_map {l : List Int} (h : 32 ≤ l.length) : l.take 32 = (List.range 32).map (fun j => l.getD j 0) := by
  apply List.ext_getElem?
  intro j
  by_cases hj : j < 32
  · rw [List.getElem?_take, if_pos hj]
    simp [hj, show j < l.length by omega]
  · rw [List.getElem?_eq_none (by simp; omega), List.getElem?_eq_none (by simp; omega)]
theorem b32_rv {l : List Int} (hb : Byt l) (h : 32 ≤ l.length) : b32 (rv (fun j => l.getD j 0) 32) = l.take 32 := by
  rw [take32_map h]
  unfold b32
  apply List.map_congr_left
  intro j hj
  rw [bt_rv hb.get j (List.mem_range.1 hj)]
theorem split38 (l : List Int) : l.take 38 = l.take 4 ++ (l.drop 4).take 1 ++ (l.drop 5).take 1 ++ (l.drop 6).take 32 := by
  rw [show (38 : Nat) = 6 + 32 from rfl, List.take_add, show (6 : Nat) = 5 + 1 from rfl, List.take_add, show (5 : Nat) = 4 + 1 from rfl, List.take_add]
theorem ibytes_iof {l : List Int} (hb : Byt l) (h : 38 ≤ l.length) : ibytes (iof l) = l.take 38 := by
  unfold ibytes iof
  simp only
  rw [be_bval hb 4 (by omega), be_bval (hb.drop 4) 1 (by simp; omega), be_bval (hb.drop 5) 1 (by simp; omega), b32_rv (hb.drop 6) (by simp; omega), split38 l]
theorem iof_ibytes {x : Itn} (hx : x.Ok) (r : List Int) : iof (ibytes x ++ r) = x := by
  obtain ⟨i, t, o, a⟩ := x
  obtain ⟨h1, h2, h3, h4⟩ := hx
  simp only at h1 h2 h3 h4
  have e : ibytes ⟨i, t, o, a⟩ ++ r = be i 4 ++ (be t 1 ++ (be o 1 ++ (b32 a ++ r))) := by simp [ibytes, List.append_assoc]
  have q0 : (be i 4 ++ (be t 1 ++ (be o 1 ++ (b32 a ++ r)))).take 4 = be i 4 := List.take_left' (be_length _ _)
  have q1 : (be i 4 ++ (be t 1 ++ (be o 1 ++ (b32 a ++ r)))).drop 4 = be t 1 ++ (be o 1 ++ (b32 a ++ r)) := List.drop_left' (be_length _ _)
  have q2 : (be i 4 ++ (be t 1 ++ (be o 1 ++ (b32 a ++ r)))).drop 5 = be o 1 ++ (b32 a ++ r) := by
    rw [show (5 : Nat) = 4 + 1 from rfl, ← List.drop_drop, q1]; exact List.drop_left' (be_length _ _)
  have q3 : (be i 4 ++ (be t 1 ++ (be o 1 ++ (b32 a ++ r)))).drop 6 = b32 a ++ r := by
    rw [show (6 : Nat) = 5 + 1 from rfl, ← List.drop_drop, q2]; exact List.drop_left' (be_length _ _)
  unfold iof
  rw [e, q0, q1, q2, q3, List.take_left' (be_length _ _), List.take_left' (be_length _ _), bval_be h1.1 (by simpa using h1.2), bval_be h2.1 (by simpa using h2.2), bval_be h3.1 (by simpa using h3.2)]
  have hrv : rv (fun j => (b32 a ++ r).getD j 0) 32 = rv (bt a) 32 := rv_congr (fun j hj => by
    rw [List.getD_eq_getElem?_getD, List.getElem?_append_left (by rw [b32_length]; exact hj), ← List.getD_eq_getElem?_getD]; exact b32_get a hj) 32 (Nat.le_refl _)
  rw [hrv, rv_bt_all h4]
theorem ibytes_inj {x y : Itn} (hx : x.Ok) (hy : y.Ok) (h : ibytes x = ibytes y) : x = y := by
  have e := iof_ibytes hx []
  rw [h, iof_ibytes hy []] at e
  exact e.symm
theorem Got.one {l : List Int} {e : Int} {x y : Itn} {l1 l2 : List Int} {e1 e2 : Int} (h : Got l e x l1 e1) (k : Got l e y l2 e2) : x = y ∧ l1 = l2 ∧ e1 = e2 := by
  rcases h with ⟨h1, h2, h3, rfl, rfl, rfl⟩ | ⟨h1, h2, h3, rfl, rfl, rfl⟩ | ⟨h1, rfl, rfl, rfl⟩ <;> rcases k with ⟨k1, k2, k3, rfl, rfl, rfl⟩ | ⟨k1, k2, k3, rfl, rfl, rfl⟩ | ⟨k1, rfl, rfl, rfl⟩
  · exact ⟨rfl, rfl, rfl⟩
  · rw [h3] at k3; cases k3
  · rcases k1 with k | k
    · exact absurd h1 k
    · omega
  · rw [h3] at k3; cases k3
  · exact ⟨rfl, rfl, rfl⟩
  · rcases k1 with k | k
    · exact absurd h1 k
    · omega
  · rcases h1 with k | k
    · exact absurd k1 k
    · omega
  · rcases h1 with k | k
    · exact absurd k1 k
    · omega
  · exact ⟨rfl, rfl, rfl⟩
theorem Got.ok {l : List Int} {e : Int} {x : Itn} {l1 : List Int} {e1 : Int} (h : Got l e x l1 e1) (hl : Byt l) : x.Ok ∧ Byt l1 ∧ (e1 ≠ 0 → l1 = []) := by
  rcases h with ⟨h1, h2, h3, rfl, rfl, rfl⟩ | ⟨h1, h2, h3, rfl, rfl, rfl⟩ | ⟨h1, rfl, rfl, rfl⟩
  · exact ⟨iof_ok hl h2, hl.drop 38, fun h => absurd rfl h⟩
  · exact ⟨noItn_ok, fun x hx => by simp at hx, fun _ => rfl⟩
  · exact ⟨noItn_ok, fun x hx => by simp at hx, fun _ => rfl⟩
end Go.Proofs.YthcahgfoganehaaDoor
