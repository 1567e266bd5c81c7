/- Trees of sums: each node as a function of the leaves; rows of sums as cells. -/
import Derived.Test.YtlkmebimgpigjaaDoorDomEmpty
namespace Go.Proofs.YtlkmebimgpigjaaDoor
open Go.RowKit Go.Lib

/-- A sum: 32 bytes, one behind the other. -/
abbrev Hs := Nat → Int
/-- Each is a byte. -/
def Hok (f : Hs) : Prop := ∀ j, 0 ≤ f j ∧ f j < 256
def Hoks (L : List Hs) : Prop := ∀ f ∈ L, Hok f
theorem demp_ok (k : Nat) : Hok (demp k) := demp_bd k
theorem dnode_ok (f g : Hs) : Hok (dnode f g) := fun j => dsha_bd _ _ j
/-- The node of a level and a place. -/
def tn (L : List Hs) : Nat → Nat → Hs
  | 0, i => L.getD i (demp 0)
  | k + 1, i => dnode (tn L k (2 * i)) (tn L k (2 * i + 1))
theorem tn_zero (L : List Hs) (i : Nat) : tn L 0 i = L.getD i (demp 0) := rfl
theorem tn_next (L : List Hs) (k i : Nat) : tn L (k + 1) i = dnode (tn L k (2 * i)) (tn L k (2 * i + 1)) := rfl
theorem tn_ok {L : List Hs} (h : Hoks L) : ∀ k i, Hok (tn L k i)
  | 0, i => by
    rw [tn_zero]
    by_cases e : i < L.length
    · have : L.getD i (demp 0) = L[i] := by simp [e]
      rw [this]; exact h _ (List.getElem_mem e)
    · rw [List.getD_eq_getElem?_getD, List.getElem?_eq_none (by omega)]; exact demp_ok 0
  | _ + 1, _ => dnode_ok _ _
/-- Where there is no leaf any more. -/
theorem tn_out (L : List Hs) : ∀ k i, L.length ≤ i * 2 ^ k → tn L k i = demp k
  | 0, i, h => by
    rw [tn_zero, List.getD_eq_getElem?_getD, List.getElem?_eq_none (by simpa using h)]; rfl
  | k + 1, i, h => by
    have e : i * 2 ^ (k + 1) = 2 * i * 2 ^ k := by rw [Nat.pow_succ, Nat.mul_comm 2 i, Nat.mul_assoc, Nat.mul_comm 2]
    have h2 : 2 * i * 2 ^ k ≤ (2 * i + 1) * 2 ^ k := Nat.mul_le_mul_right _ (by omega)
    rw [tn_next, tn_out L k (2 * i) (by omega), tn_out L k (2 * i + 1) (by omega), demp_next]
/-- A node that has all its leaves hangs on these alone. -/
theorem tn_take (L : List Hs) (n : Nat) : ∀ k i, (i + 1) * 2 ^ k ≤ n → tn (L.take n) k i = tn L k i
  | 0, i, h => by
    rw [tn_zero, tn_zero, List.getD_eq_getElem?_getD, List.getD_eq_getElem?_getD, List.getElem?_take, if_pos (by simp at h; omega)]
  | k + 1, i, h => by
    have e : (i + 1) * 2 ^ (k + 1) = (2 * i + 1 + 1) * 2 ^ k := by rw [Nat.pow_succ, show 2 * i + 1 + 1 = (i + 1) * 2 by omega, Nat.mul_assoc, Nat.mul_comm 2]
    have h2 : (2 * i + 1) * 2 ^ k ≤ (2 * i + 1 + 1) * 2 ^ k := Nat.mul_le_mul_right _ (by omega)
    rw [tn_next, tn_next, tn_take L n k (2 * i) (by omega), tn_take L n k (2 * i + 1) (by omega)]
theorem tn_app (L M : List Hs) (k i : Nat) (h : (i + 1) * 2 ^ k ≤ L.length) : tn (L ++ M) k i = tn L k i := by
  have := tn_take (L ++ M) L.length k i h
  rw [List.take_left] at this
  exact this.symm
/-- The nodes of a level that have all their leaves. -/
def lv (L : List Hs) (k : Nat) : List Hs := (List.range (L.length / 2 ^ k)).map (tn L k)
theorem lv_length (L : List Hs) (k : Nat) : (lv L k).length = L.length / 2 ^ k := by simp [lv]
theorem lv_get (L : List Hs) (k i : Nat) (h : i < L.length / 2 ^ k) : (lv L k)[i]? = some (tn L k i) := by simp [lv, h]
theorem lv_zero (L : List Hs) : lv L 0 = L := by
  apply List.ext_getElem?
  intro i
  by_cases h : i < L.length
  · rw [lv_get L 0 i (by simpa using h), tn_zero]; simp [h]
  · rw [List.getElem?_eq_none (by rw [lv_length]; simpa using h), List.getElem?_eq_none (by omega)]
theorem lv_mem {L : List Hs} (h : Hoks L) (k : Nat) : Hoks (lv L k) := by
  intro f hf
  obtain ⟨i, _, rfl⟩ := List.mem_map.1 hf
  exact tn_ok h k i
theorem lv_nil (k : Nat) : lv [] k = [] := by simp [lv]
theorem lv_above (L : List Hs) (k d : Nat) (hk : d < k) (h : L.length ≤ 2 ^ d) : lv L k = [] := by
  have : (lv L k).length = 0 := by
    rw [lv_length]
    exact Nat.div_eq_of_lt (Nat.lt_of_le_of_lt h (Nat.pow_lt_pow_right (by omega) hk))
  exact List.eq_nil_of_length_eq_zero this
theorem lv_snoc (L : List Hs) (x : Hs) (k : Nat) (h : (L.length + 1) % 2 ^ k = 0) : lv (L ++ [x]) k = lv L k ++ [tn (L ++ [x]) k (L.length / 2 ^ k)] := by
  have hp : 0 < 2 ^ k := Nat.two_pow_pos k
  obtain ⟨q, hq⟩ := Nat.dvd_of_mod_eq_zero h
  have h0 : q ≠ 0 := by intro e; subst e; simp at hq
  obtain ⟨r, rfl⟩ : ∃ r, q = r + 1 := ⟨q - 1, by omega⟩
  have h1 : (L.length + 1) / 2 ^ k = r + 1 := by rw [hq, Nat.mul_div_cancel_left _ hp]
  have h2 : L.length / 2 ^ k = r := by
    have e : L.length = r * 2 ^ k + (2 ^ k - 1) := by rw [Nat.mul_comm]; rw [Nat.mul_succ] at hq; omega
    rw [e, Nat.mul_comm, Nat.mul_add_div hp, Nat.div_eq_of_lt (by omega)]; rfl
  unfold lv
  rw [List.length_append, List.length_singleton, h1, h2, List.range_succ, List.map_append]
  congr 1
  apply List.map_congr_left
  intro i hi
  have hi' : i < r := List.mem_range.1 hi
  refine tn_app L [x] k i ?_
  have : (i + 1) * 2 ^ k ≤ r * 2 ^ k := Nat.mul_le_mul_right _ (by omega)
  rw [Nat.mul_succ, Nat.mul_comm] at hq
  omega
theorem div_stays {n k : Nat} (h : (n + 1) % 2 ^ k ≠ 0) : (n + 1) / 2 ^ k = n / 2 ^ k := by
  have hp : 0 < 2 ^ k := Nat.two_pow_pos k
  rw [Nat.succ_div, if_neg (fun hd => h (Nat.mod_eq_zero_of_dvd hd)), Nat.add_zero]
theorem lv_same (L : List Hs) (x : Hs) (k : Nat) (h : (L.length + 1) % 2 ^ k ≠ 0) : lv (L ++ [x]) k = lv L k := by
  unfold lv
  rw [List.length_append, List.length_singleton, div_stays h]
  apply List.map_congr_left
  intro i hi
  have hi' : i < L.length / 2 ^ k := List.mem_range.1 hi
  refine tn_app L [x] k i ?_
  have : (i + 1) * 2 ^ k ≤ L.length / 2 ^ k * 2 ^ k := Nat.mul_le_mul_right _ (by omega)
  have := Nat.div_mul_le_self L.length (2 ^ k)
  omega
theorem lv_take (L : List Hs) (n k : Nat) (h : n ≤ L.length) : lv (L.take n) k = (lv L k).take (n / 2 ^ k) := by
  have hd : n / 2 ^ k ≤ L.length / 2 ^ k := Nat.div_le_div_right h
  unfold lv
  rw [List.length_take, Nat.min_eq_left h, ← List.map_take, List.take_range, Nat.min_eq_left hd]
  apply List.map_congr_left
  intro i hi
  have hi' : i < n / 2 ^ k := List.mem_range.1 hi
  refine tn_take L n k i ?_
  have : (i + 1) * 2 ^ k ≤ n / 2 ^ k * 2 ^ k := Nat.mul_le_mul_right _ (by omega)
  have := Nat.div_mul_le_self n (2 ^ k)
  omega
/-- The cells of sums, one behind the other. -/
def hC (L : List Hs) : List Value := (L.map (rowV 32)).flatten
theorem hC_nil : hC [] = [] := rfl
theorem hC_cons (x : Hs) (L : List Hs) : hC (x :: L) = rowV 32 x ++ hC L := by simp [hC]
theorem hC_append (L M : List Hs) : hC (L ++ M) = hC L ++ hC M := by simp [hC]
theorem hC_snoc (L : List Hs) (x : Hs) : hC (L ++ [x]) = hC L ++ rowV 32 x := by simp [hC]
theorem hC_length (L : List Hs) : (hC L).length = L.length * 32 := by
  induction L with
  | nil => simp [hC]
  | cons x r ih => rw [hC_cons, List.length_append, rowV_length, ih]; simp; omega
theorem hC_one (L : List Hs) : ∀ u ∈ hC L, u.oneCell' = true := by
  intro u hu
  obtain ⟨l, hl, hul⟩ := List.mem_flatten.1 hu
  obtain ⟨x, _, rfl⟩ := List.mem_map.1 hl
  exact rowV_one 32 x u hul
theorem hC_get : ∀ (L : List Hs) (j : Nat) (x : Hs), L[j]? = some x → ∀ i v, (rowV 32 x)[i]? = some v → (hC L)[j * 32 + i]? = some v := by
  intro L
  induction L with
  | nil => intro j x h; simp at h
  | cons y r ih =>
    intro j x h i v hv
    have hi : i < 32 := by have := (List.getElem?_eq_some_iff.1 hv).1; rwa [rowV_length] at this
    rw [hC_cons]
    cases j with
    | zero =>
      simp at h; subst h
      rw [List.getElem?_append_left (by rw [rowV_length]; omega), Nat.zero_mul, Nat.zero_add]; exact hv
    | succ j =>
      rw [List.getElem?_append_right (by rw [rowV_length]; omega), rowV_length]
      rw [show (j + 1) * 32 + i - 32 = j * 32 + i by omega]
      exact ih j x (by simpa using h) i v hv
theorem hC_take (L : List Hs) (n : Nat) : hC (L.take n) = (hC L).take (n * 32) := by
  induction L generalizing n with
  | nil => simp [hC]
  | cons x r ih =>
    cases n with
    | zero => simp [hC]
    | succ n =>
      rw [List.take_succ_cons, hC_cons, hC_cons, ih, List.take_append, rowV_length, List.take_of_length_le (l := rowV 32 x) (by rw [rowV_length]; omega)]
      rw [show (n + 1) * 32 - 32 = n * 32 by omega]
end Go.Proofs.YtlkmebimgpigjaaDoor
