/- Contracts of sponsionref04's Take, Value and IntOf over this translation. -/
import Derived.Test.YthcahgfoganehaaDoorRef4
import Derived.Test.YthcahgfoganehaaDoorPackReader3
namespace Go.Proofs.YthcahgfoganehaaDoor
open Go.RowKit Go.Lib
attribute [local go_sem] setCell_drewN alloc_drewN

theorem ret_int' {k : IntKind} {a b : Int} (h : a = b) : Ending.returned (.int k a) = .returned (.int k b) := by rw [h]
theorem str_cut (l : List Int) (i j : Nat) : (strOfNums l).extract i j = strOfNums ((l.take j).drop i) := by
  apply ByteArray.ext
  unfold strOfNums
  simp [ByteArray.data_extract, List.map_take, List.map_drop, List.drop_take]
theorem str_drop (l : List Int) (i : Nat) : (strOfNums l).extract i l.length = strOfNums (l.drop i) := by
  rw [str_cut, List.take_length]
theorem str_take (l : List Int) (j : Nat) : (strOfNums l).extract 0 j = strOfNums (l.take j) := by
  rw [str_cut, List.drop_zero]
theorem str_get {l : List Int} (h : Byt l) (k : Nat) (hk : k < (strOfNums l).size) : (((strOfNums l)[k]).toNat : Int) = l.getD k 0 := by
  have hk' : k < l.length := by rwa [strOfNums_size] at hk
  have e : (strOfNums l)[k] = UInt8.ofNat (l[k]).toNat := by
    show ((l.map fun n => UInt8.ofNat n.toNat).toArray)[k]'(by simpa using hk') = _
    rw [List.getElem_toArray, List.getElem_map]
  have e2 : l.getD k 0 = l[k] := by simp [hk']
  have hb := h.get k
  rw [e, e2]
  rw [e2] at hb
  rw [UInt8.toNat_ofNat']
  omega
theorem u64_step {l : List Int} {k : Nat} {V : Int} (v0 : 0 ≤ V) (v2 : V < 72057594037927936) (b0 : 0 ≤ l.getD k 0) (b1 : l.getD k 0 < 256) (hlt : k < l.length) : IntKind.u64.wrap (V * 256 + IntKind.u64.wrap l[k]) = V * 256 + l.getD k 0 := by
  have e : l[k] = l.getD k 0 := by simp [hlt]
  rw [e, IntKind.wrap_u64, IntKind.wrap_u64]
  omega
/-- The reader of the reference, as a value. -/
abbrev rd (l : List Int) (e : Int) : Value := .agg #[.string (strOfNums l), .int .i64 e]
theorem four_cuts (p q r s : List Int) (hp : p.length = 8) (hq : q.length = 8) (hr : r.length = 8) (hs : s.length = 8) :
    (((p ++ q ++ r ++ s).take 32).drop 24 = s ∧ ((p ++ q ++ r ++ s).take 24).drop 16 = r) ∧ ((p ++ q ++ r ++ s).take 16).drop 8 = q ∧ (p ++ q ++ r ++ s).take 8 = p := by
  have h1 : (p ++ q ++ r ++ s).take 32 = p ++ q ++ r ++ s := List.take_of_length_le (by simp only [List.length_append]; omega)
  have h2 : (p ++ q ++ r ++ s).take 24 = p ++ q ++ r := List.take_left' (by simp only [List.length_append]; omega)
  have h3 : (p ++ q ++ r ++ s).take 16 = p ++ q := by rw [List.append_assoc (p ++ q)]; exact List.take_left' (by simp only [List.length_append]; omega)
  have h4 : (p ++ q ++ r ++ s).take 8 = p := by rw [List.append_assoc (p ++ q), List.append_assoc p]; exact List.take_left' hp
  refine ⟨⟨?_, ?_⟩, ?_, h4⟩
  · rw [h1]; exact List.drop_left' (by simp only [List.length_append]; omega)
  · rw [h2]; exact List.drop_left' (by simp only [List.length_append]; omega)
  · rw [h3]; exact List.drop_left' hp
theorem bval_pre (x : Int) (k : Nat) : ∀ j, j ≤ k → bval (pre x k j) = x / 2 ^ (8 * (k - j)) % 256 ^ j
  | 0, _ => by simp [pre, bval, Int.emod_one]
  | j + 1, h => by
    rw [pre_snoc, bval_snoc, bval_pre x k j (by omega)]
    obtain ⟨m, hm⟩ : ∃ m, k = m + j + 1 := ⟨k - j - 1, by omega⟩
    subst hm
    rw [show m + j + 1 - j = m + 1 by omega, show m + j + 1 - 1 - j = m by omega, show m + j + 1 - (j + 1) = m by omega]
    have e : x / 2 ^ (8 * (m + 1)) = x / 2 ^ (8 * m) / 256 := by
      rw [show 8 * (m + 1) = 8 * m + 8 by omega, Int.pow_add, ← Int.ediv_ediv_of_nonneg (Int.le_of_lt (Int.pow_pos (by decide)))]
      rfl
    rw [e, Int.pow_succ, Int.mul_comm (256 ^ j) 256, mod_stepB (x / 2 ^ (8 * m)) 256 (256 ^ j) (by decide) (Int.pow_pos (by decide))]
    omega
theorem bval_lm (a : Int) (i : Nat) : bval (be (lm a i) 8) = lm a i := by
  unfold be
  rw [bval_pre _ 8 8 (Nat.le_refl _), Nat.sub_self, Nat.mul_zero]
  have := lm_bd a i
  simp
  omega
end Go.Proofs.YthcahgfoganehaaDoor
