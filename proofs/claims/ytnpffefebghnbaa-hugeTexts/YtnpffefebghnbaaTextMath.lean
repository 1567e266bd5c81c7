/- Decimal texts and numbers, forward and backward: no Go in sight but the letters. -/
import Derived.Test.YtnpffefebghnbaaRef2Text
import Derived.Test.YtnpffefebghnbaaHugeParse
namespace Go.Proofs.Ytnpffefebghnbaa
open Go.RowKit Go.Lib

theorem nd_unique {a : Int} {K L : Nat} (hK : nd a K) (hL : nd a L) : K = L := by
  have key : ∀ {K L : Nat}, nd a K → nd a L → ¬ K < L := by
    intro K L h1 h2 hlt
    obtain ⟨_, e, _⟩ := h1
    obtain ⟨_, _, n⟩ := h2
    apply n
    have hp : (0 : Int) < 10 ^ K := Int.pow_pos (by decide)
    have : L - 1 = K + (L - 1 - K) := by omega
    rw [this, Int.pow_add, ← Int.ediv_ediv_of_nonneg (Int.le_of_lt hp), e, Int.zero_ediv]
  have h1 := key hK hL
  have h2 := key hL hK
  omega
theorem dec_nil : dec [] = 0 := rfl
/-- The letters of the text. -/
def lt8 (a : Int) (K : Nat) : List UInt8 := (tl a K).map fun n => UInt8.ofNat n.toNat
theorem text_data (a : Int) (K : Nat) : (strOfNums (tl a K)).data.toList = lt8 a K := strOfNums_data _
theorem lt8_length (a : Int) (K : Nat) : (lt8 a K).length = K := by unfold lt8; rw [List.length_map, tl_length]
theorem lt8_get (a : Int) (K i : Nat) (h : i < K) : (lt8 a K)[i]'(by rw [lt8_length]; exact h) = UInt8.ofNat (48 + a / 10 ^ (K - 1 - i) % 10).toNat := by
  simp [lt8, tl]
theorem byte_nat (a : Int) (j : Nat) : ((UInt8.ofNat (48 + a / 10 ^ j % 10).toNat).toNat : Int) = 48 + a / 10 ^ j % 10 := by
  have h0 := Int.emod_nonneg (a / 10 ^ j) (show (10 : Int) ≠ 0 by decide)
  have h1 := Int.emod_lt_of_pos (a / 10 ^ j) (show (0 : Int) < 10 by decide)
  rw [UInt8.toNat_ofNat']
  omega
theorem lt8_dgt (a : Int) (K : Nat) : ∀ c ∈ lt8 a K, dgt c = true := by
  intro c hc
  obtain ⟨i, hi, rfl⟩ := List.getElem_of_mem hc
  rw [lt8_length] at hi
  rw [lt8_get a K i hi]
  have h0 := Int.emod_nonneg (a / 10 ^ (K - 1 - i)) (show (10 : Int) ≠ 0 by decide)
  have h1 := Int.emod_lt_of_pos (a / 10 ^ (K - 1 - i)) (show (0 : Int) < 10 by decide)
  exact dgt_of (by rw [byte_nat]; omega) (by rw [byte_nat]; omega)
theorem lt8_prefix {a : Int} {K : Nat} (h : nd a K) (j : Nat) (hj : j ≤ K) : dec ((lt8 a K).take j) = a / 10 ^ (K - j) := by
  induction j with
  | zero => rw [Nat.sub_zero, h.2.1]; simp [dec]
  | succ j ih =>
    rw [List.take_succ_eq_append_getElem (by rw [lt8_length]; omega), dec_snoc, ih (by omega), lt8_get a K j (by omega), byte_nat, show K - 1 - j = K - (j + 1) by omega, show K - j = (K - (j + 1)) + 1 by omega, ← ten_step]
    omega
theorem lt8_dec {a : Int} {K : Nat} (h : nd a K) : dec (lt8 a K) = a := by
  have := lt8_prefix h K (Nat.le_refl _)
  rwa [List.take_of_length_le (by rw [lt8_length]; exact Nat.le_refl _), Nat.sub_self, Int.pow_zero, Int.ediv_one] at this
theorem lt8_decimal {a : Int} (ha : 0 ≤ a) {K : Nat} (h : nd a K) : decimal (lt8 a K) = true := by
  have hK := h.1
  refine decimal_good (by rw [lt8_length]; exact hK) (List.all_eq_true.2 (lt8_dgt a K)) (.inl ?_)
  have e := lt8_get a K 0 hK
  intro hc
  have hb := byte_nat a (K - 1 - 0)
  rw [← e] at hb
  have h1 : a / 10 ^ (K - 1) / 10 = 0 := by rw [ten_step, show K - 1 + 1 = K by omega]; exact h.2.1
  have h2 := h.2.2
  have h3 : 0 ≤ a / 10 ^ (K - 1) := Int.ediv_nonneg ha (Int.le_of_lt (Int.pow_pos (by decide)))
  rw [Nat.sub_zero] at hb
  omega
/-- Of a decimal text the first so many letters are the number without its last digits. -/
theorem dec_prefix {l : List UInt8} (h : ∀ c ∈ l, dgt c = true) (j : Nat) (hj : j ≤ l.length) : dec (l.take j) = dec l / 10 ^ (l.length - j) := by
  have key : ∀ m, j + m ≤ l.length → dec (l.take (j + m)) / 10 ^ m = dec (l.take j) := by
    intro m
    induction m with
    | zero => intro _; rw [Int.pow_zero, Int.ediv_one, Nat.add_zero]
    | succ m ih =>
      intro hm
      have hk : j + m < l.length := by omega
      rw [← Nat.add_assoc, List.take_succ_eq_append_getElem hk, dec_snoc, Int.pow_succ, Int.mul_comm (10 ^ m) 10, ← Int.ediv_ediv_of_nonneg (show (0 : Int) ≤ 10 by decide)]
      have := dgt_bd (h _ (List.getElem_mem hk))
      have e : (dec (l.take (j + m)) * 10 + ((l[j + m].toNat : Int) - 48)) / 10 = dec (l.take (j + m)) := by omega
      rw [e]
      exact ih (by omega)
  have := key (l.length - j) (by omega)
  rw [show j + (l.length - j) = l.length by omega, List.take_of_length_le (Nat.le_refl _)] at this
  exact this.symm
theorem decimal_first {l : List UInt8} (h : decimal l = true) (hn : 1 < l.length) : (l[0]'(by omega)).toNat ≠ 48 := by
  match l, hn, h with
  | c :: d :: r, _, h => intro e; simp [decimal] at h; simp at e; exact absurd e h.2
theorem decimal_nonempty {l : List UInt8} (h : decimal l = true) : 0 < l.length := by
  match l, h with
  | c :: r, _ => simp
/-- A decimal text that isn't 0 is its number's. -/
theorem decimal_nd {l : List UInt8} (h : decimal l = true) (hz : dec l ≠ 0) : nd (dec l) l.length ∧ lt8 (dec l) l.length = l := by
  have ha := all_of_decimal h
  have hl := decimal_nonempty h
  have hd : ∀ i (hi : i < l.length), ((l[i].toNat : Int) - 48) = dec l / 10 ^ (l.length - 1 - i) % 10 := by
    intro i hi
    have e1 := dec_prefix ha (i + 1) (by omega)
    have e2 := dec_prefix ha i (by omega)
    rw [List.take_succ_eq_append_getElem hi, dec_snoc, e2] at e1
    rw [show l.length - i = (l.length - (i + 1)) + 1 by omega, ← ten_step] at e1
    have hb := dgt_bd (ha _ (List.getElem_mem hi))
    rw [show l.length - 1 - i = l.length - (i + 1) by omega]
    omega
  refine ⟨⟨hl, ?_, ?_⟩, ?_⟩
  · have := dec_prefix ha 0 (Nat.zero_le _)
    rw [Nat.sub_zero] at this
    rw [← this]; simp [dec]
  · have e1 := dec_prefix ha 1 hl
    rw [← e1]
    intro h0
    rw [List.take_succ_eq_append_getElem hl, dec_snoc] at h0
    simp only [List.take_zero, dec_nil, Int.zero_mul, Int.zero_add] at h0
    by_cases hn : 1 < l.length
    · exact decimal_first h hn (by omega)
    · apply hz
      have : l.length = 1 := by omega
      have e2 := dec_prefix ha 1 hl
      rw [this, Nat.sub_self, Int.pow_zero, Int.ediv_one, List.take_succ_eq_append_getElem hl, dec_snoc] at e2
      simp only [List.take_zero, dec_nil, Int.zero_mul, Int.zero_add] at e2
      rw [← e2]
      omega
  · apply List.ext_getElem
    · rw [lt8_length]
    · intro i h1 h2
      rw [lt8_get _ _ i h2]
      apply UInt8.toNat_inj.1
      have hb := byte_nat (dec l) (l.length - 1 - i)
      have := hd i h2
      omega
theorem decimal_zero {l : List UInt8} (h : decimal l = true) (hz : dec l = 0) : l = [48] := by
  have ha := all_of_decimal h
  have hl := decimal_nonempty h
  have e1 := dec_prefix ha 1 hl
  rw [hz, Int.zero_ediv, List.take_succ_eq_append_getElem hl, dec_snoc] at e1
  simp only [List.take_zero, dec_nil, Int.zero_mul, Int.zero_add] at e1
  by_cases hn : 1 < l.length
  · exact absurd (by omega) (decimal_first h hn)
  · obtain ⟨c, rfl⟩ := List.length_eq_one_iff.1 (show l.length = 1 by omega)
    simp at e1
    rw [UInt8.toNat_inj.1 (show c.toNat = (48 : UInt8).toNat by show c.toNat = 48; omega)]
theorem dec_le' {l : List UInt8} (h : ∀ c ∈ l, dgt c = true) {j k : Nat} (hjk : j ≤ k) : dec (l.take j) ≤ dec (l.take k) := by
  obtain ⟨m, rfl⟩ := Nat.le.dest hjk
  induction m with
  | zero => exact Int.le_refl _
  | succ m ih => exact Int.le_trans (ih (by omega)) (dec_up h (j + m))
/-- A text of more than 78 letters is no number of 256 bits. -/
theorem long_over {l : List UInt8} (h : decimal l = true) (hn : 78 < l.length) : ¬ In (dec l) := by
  intro hin
  have ha := all_of_decimal h
  have e := dec_prefix ha (l.length - 78) (by omega)
  rw [show l.length - (l.length - 78) = 78 by omega, ten_small hin] at e
  have e1 := dec_le' ha (show 1 ≤ l.length - 78 by omega)
  have hl : 0 < l.length := by omega
  rw [e, List.take_succ_eq_append_getElem hl, dec_snoc] at e1
  simp only [List.take_zero, dec_nil, Int.zero_mul, Int.zero_add] at e1
  have hf := decimal_first h (by omega)
  have hb := dgt_bd (ha _ (List.getElem_mem hl))
  omega
end Go.Proofs.Ytnpffefebghnbaa
