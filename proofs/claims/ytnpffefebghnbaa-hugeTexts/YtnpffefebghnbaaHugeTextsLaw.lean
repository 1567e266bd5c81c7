/- The walk of HugeTexts over this translation. -/
import Derived.Test.YtnpffefebghnbaaTextMath
import Derived.Test.YtnpffefebghnbaaRef2Parse
import Derived.Test.YtnpffefebghnbaaHugeIs
namespace Go.Proofs.Ytnpffefebghnbaa
open Go.RowKit Go.Lib
attribute [local go_sem] setCell_drewN alloc_drewN eqInt

/-- A number's text. -/
def Canon (a : Int) (s : ByteArray) : Prop := decimal s.data.toList = true ∧ dec s.data.toList = a ∧ s.size ≤ 78
theorem bytes_eq {a b : ByteArray} (h : a.data.toList = b.data.toList) : a = b := by
  apply ByteArray.ext
  exact Array.toList_inj.1 h
theorem canon_eq {a : Int} {s t : ByteArray} (h1 : decimal s.data.toList = true) (h2 : dec s.data.toList = a) (g1 : decimal t.data.toList = true) (g2 : dec t.data.toList = a) : s = t := by
  apply bytes_eq
  by_cases hz : a = 0
  · rw [decimal_zero h1 (h2.trans hz), decimal_zero g1 (g2.trans hz)]
  · obtain ⟨n1, e1⟩ := decimal_nd h1 (by rw [h2]; exact hz)
    obtain ⟨n2, e2⟩ := decimal_nd g1 (by rw [g2]; exact hz)
    rw [h2] at n1 e1
    rw [g2] at n2 e2
    rw [← e1, ← e2, nd_unique n1 n2]
theorem canon_zero : Canon 0 ⟨#[48]⟩ := ⟨rfl, rfl, by decide⟩
theorem canon_nd {a : Int} (ha : In a) {K : Nat} (h : nd a K) (hK : K ≤ 78) : Canon a (strOfNums (tl a K)) := by
  refine ⟨?_, ?_, ?_⟩
  · rw [text_data]; exact lt8_decimal ha.1 h
  · rw [text_data]; exact lt8_dec h
  · rw [strOfNums_size, tl_length]; exact hK
theorem text_x (a : Int) (w : World) (ha : In a) :
    Calls Try.prog 26 #[big a] w fun e w' => ∃ s, e = .returned (.string s) ∧ Canon a s ∧ Below w.heap.size w w' := by
  by_cases h : a = 0
  · subst h
    refine (text_zero w).mono ?_
    rintro e w' ⟨rfl, hw⟩
    exact ⟨_, rfl, canon_zero, hw⟩
  · refine (text_any a w ha h).mono ?_
    rintro e w' ⟨K, h1, h2, rfl, hw⟩
    exact ⟨_, rfl, canon_nd ha h1 h2, hw⟩
theorem rtext_x (a : Int) (w : World) (ha : In a) :
    Calls Try.prog 28 #[big a] w fun e w' => ∃ s, e = .returned (.string s) ∧ Canon a s ∧ Below w.heap.size w w' := by
  by_cases h : a = 0
  · subst h
    refine (rtext_zero w).mono ?_
    rintro e w' ⟨rfl, hw⟩
    exact ⟨_, rfl, canon_zero, hw⟩
  · refine (rtext_any a w ha h).mono ?_
    rintro e w' ⟨K, h1, h2, rfl, hw⟩
    exact ⟨_, rfl, canon_nd ha h1 h2, hw⟩
theorem parse_any (s : ByteArray) (w : World) (hs : s.size ≤ maxLen) :
    Calls Try.prog 27 #[.string s] w fun e w' => ∃ v c, e = .returned (.tuple #[big v, .int .i64 c]) ∧ ((decimal s.data.toList = false ∧ v = 0 ∧ c = 6) ∨ (decimal s.data.toList = true ∧ ¬ In (dec s.data.toList) ∧ v = 0 ∧ c = 2) ∨ (decimal s.data.toList = true ∧ In (dec s.data.toList) ∧ v = dec s.data.toList ∧ c = 0)) ∧ Below w.heap.size w w' := by
  cases hd : decimal s.data.toList with
  | false =>
    refine (parse_form s w hs hd).mono ?_
    rintro e w' ⟨rfl, hw⟩
    exact ⟨_, _, rfl, .inl ⟨rfl, rfl, rfl⟩, hw⟩
  | true =>
    by_cases hi : In (dec s.data.toList)
    · refine (parse_ok s w hs hd hi).mono ?_
      rintro e w' ⟨rfl, hw⟩
      exact ⟨_, _, rfl, .inr (.inr ⟨rfl, hi, rfl, rfl⟩), hw⟩
    · refine (parse_over s w hs hd hi).mono ?_
      rintro e w' ⟨rfl, hw⟩
      exact ⟨_, _, rfl, .inr (.inl ⟨rfl, hi, rfl, rfl⟩), hw⟩
theorem small_len {n : Nat} (h : n ≤ 200) : n ≤ maxLen := by unfold maxLen; omega

set_option maxHeartbeats 4000000 in
theorem hugeTexts_long (a : Int) (s : ByteArray) (w : World) (hn : 200 < s.size) :
    Calls Try.prog 7 #[big a, .string s] w fun e w' => e = .returned (.bool true) ∧ Below w.heap.size w w' := by
  have hni : (200 : Int) < (s.size : Int) := by omega
  go_enter Try.func7, Try.ntmps7
  go_wp2_with fail
  refine (lives2_any _).mono ?_
  rintro e w1 ⟨rfl, hb1⟩
  have B := hide (bOn (bAl (bMe w)) hb1)
  clear hb1
  go_wp2_with fail
  refine (lives2_any _).mono ?_
  rintro e w2 ⟨rfl, hb2⟩
  replace B := hide (bOn B.out hb2)
  clear hb2
  go_wp2
  go_ret
  exact ⟨rfl, B.out⟩

set_option maxHeartbeats 8000000 in
theorem hugeTexts_part (a : Int) (s : ByteArray) (w : World) (ha : In a) (hn : s.size ≤ 200) :
    Calls Try.prog 7 #[big a, .string s] w fun e w' => e = .returned (.bool true) ∧ Below w.heap.size w w' := by
  have HA := hide ha
  clear ha
  have hni : ¬ (200 : Int) < (s.size : Int) := by omega
  go_enter Try.func7, Try.ntmps7
  go_wp2_with fail
  refine (lives2_any _).mono ?_
  rintro e w1 ⟨rfl, hb1⟩
  have P := hide ((Own.new w (lm a 0) (lm a 1) (lm a 2) (lm a 3) 24).after hb1 rfl)
  have B := hide (bOn (bAl (bMe w)) hb1)
  clear hb1
  obtain ⟨p5, p0, p1, p2, p3, _⟩ := P.out
  go_wp2_with fail
  refine (text_x a _ HA.out).mono ?_
  rintro e w2 ⟨t, rfl, ht, hb2⟩
  have HT := hide ht
  replace P := hide (P.out.after hb2 rfl); replace B := hide (bOn B.out hb2)
  clear ht hb2 p0 p1 p2 p3 p5
  go_wp2_with fail
  have PT := parse_ok t w2 (small_len (by have := HT.out.2.2; omega)) HT.out.1 (by rw [HT.out.2.1]; exact HA.out)
  rw [HT.out.2.1] at PT
  refine PT.mono ?_
  clear PT
  rintro e w3 ⟨rfl, hb3⟩
  replace P := hide (P.out.after hb3 rfl); replace B := hide (bOn B.out hb3)
  clear hb3
  obtain ⟨p5, p0, p1, p2, p3, _⟩ := P.out
  have hsa := same_self (a := a)
  go_wp2_with fail
  refine (rtext_x a _ HA.out).mono ?_
  rintro e w4 ⟨t', rfl, ht', hb4⟩
  obtain rfl : t' = t := canon_eq ht'.1 ht'.2.1 HT.out.1 HT.out.2.1
  replace P := hide ((P.out.past (.cells #[.int .u64 (lm a 0), .int .u64 (lm a 1), .int .u64 (lm a 2), .int .u64 (lm a 3)] 24)).after hb4 rfl)
  have S := hide ((Own.new w3 (lm a 0) (lm a 1) (lm a 2) (lm a 3) 24).after hb4 rfl)
  replace B := hide (bOn (bAl (o := .cells #[.int .u64 (lm a 0), .int .u64 (lm a 1), .int .u64 (lm a 2), .int .u64 (lm a 3)] 24) B.out) hb4)
  clear hb4 ht' p0 p1 p2 p3 p5
  obtain ⟨p5, p0, p1, p2, p3, _⟩ := P.out
  obtain ⟨s5, s0, s1, s2, s3, _⟩ := S.out
  go_wp2_with fail
  refine (parse_any s _ (small_len hn)).mono ?_
  rintro e w5 ⟨v, c, rfl, hv, hb5⟩
  have HV := hide hv
  replace B := hide (bOn B.out hb5)
  clear hb5 hv p0 p1 p2 p3 p5 s0 s1 s2 s3 s5 P S hsa
  go_wp2_with fail
  refine (rparse_any s _ (small_len hn)).mono ?_
  rintro e w6 ⟨v', c', rfl, hv', hb6⟩
  have eq : v' = v ∧ c' = c := by
    rcases HV.out with ⟨h1, h2, h3⟩ | ⟨h1, h2, h3, h4⟩ | ⟨h1, h2, h3, h4⟩ <;> rcases hv' with ⟨g1, g2, g3⟩ | ⟨g1, g2, g3, g4⟩ | ⟨g1, g2, g3, g4⟩
    · exact ⟨g2.trans h2.symm, g3.trans h3.symm⟩
    · rw [h1] at g1; cases g1
    · rw [h1] at g1; cases g1
    · rw [h1] at g1; cases g1
    · exact ⟨g3.trans h3.symm, g4.trans h4.symm⟩
    · exact absurd g2 h2
    · rw [h1] at g1; cases g1
    · rcases g2 with g2 | g2
      · exact absurd h2 (long_over h1 (by rw [Array.length_toList]; exact g2))
      · exact absurd h2 g2
    · exact ⟨g3.trans h3.symm, g4.trans h4.symm⟩
  obtain ⟨rfl, rfl⟩ := eq
  clear hv'
  have S := hide ((Own.new w5 (lm v' 0) (lm v' 1) (lm v' 2) (lm v' 3) 24).after hb6 rfl)
  replace B := hide (bOn (bAl (o := .cells #[.int .u64 (lm v' 0), .int .u64 (lm v' 1), .int .u64 (lm v' 2), .int .u64 (lm v' 3)] 24) B.out) hb6)
  clear hb6
  obtain ⟨s5, s0, s1, s2, s3, _⟩ := S.out
  have hsv := same_self (a := v')
  by_cases hc : c' = 0
  · have hd : Hid (decimal s.data.toList = true ∧ In v' ∧ dec s.data.toList = v') := by
      rcases HV.out with ⟨h1, h2, h3⟩ | ⟨h1, h2, h3, h4⟩ | ⟨h1, h2, h3, h4⟩
      · omega
      · omega
      · exact ⟨h1, by rw [h3]; exact h2, h3.symm⟩
    subst hc
    go_wp2_with fail
    refine (text_x v' _ hd.out.2.1).mono ?_
    rintro e w7 ⟨u, rfl, hu, hb7⟩
    obtain rfl : u = s := canon_eq hu.1 hu.2.1 hd.out.1 hd.out.2.2
    have S7 := hide ((S.out.past (.cells #[.int .u64 (lm v' 0), .int .u64 (lm v' 1), .int .u64 (lm v' 2), .int .u64 (lm v' 3)] 24)).after hb7 rfl)
    replace B := hide (bOn (bAl (o := .cells #[.int .u64 (lm v' 0), .int .u64 (lm v' 1), .int .u64 (lm v' 2), .int .u64 (lm v' 3)] 24) B.out) hb7)
    clear hb7 hu
    go_wp2
    go_ret
    exact ⟨rfl, B.out⟩
  · have hcb : (c' != 0) = true := by rw [bne_iff_ne]; exact hc
    have HC := hide hc
    clear hc
    go_wp2
    go_ret
    exact ⟨rfl, bAl B.out⟩
theorem hugeTexts_walk (a0 a1 a2 a3 : Int) (s : ByteArray) (u0 : (Lit.int .u64 a0).wf = true) (u1 : (Lit.int .u64 a1).wf = true) (u2 : (Lit.int .u64 a2).wf = true) (u3 : (Lit.int .u64 a3).wf = true) (_hs : s.size ≤ maxLen) (w : World) :
    Calls Try.prog 7 #[.agg #[.int .u64 a0, .int .u64 a1, .int .u64 a2, .int .u64 a3], .string s] w fun e w' => e = .returned (.bool true) ∧ Below w.heap.size w w' := by
  rw [big_four u0 u1 u2 u3]
  by_cases hn : s.size ≤ 200
  · exact hugeTexts_part _ _ w (in_four u0 u1 u2 u3) hn
  · exact hugeTexts_long _ _ w (by omega)
end Go.Proofs.Ytnpffefebghnbaa
