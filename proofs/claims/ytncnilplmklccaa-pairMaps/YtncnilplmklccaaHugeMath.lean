/- Plain arithmetic of numbers of 256 bits as four limbs: no Go in sight. -/
namespace Go.Proofs.Ytncnilplmklccaa

/-- A number's limb: how often 2^(64*i) is in it, without what lies above. -/
def lm (n : Int) (i : Nat) : Int := n / 18446744073709551616 ^ i % 18446744073709551616
/-- Four limbs, together. -/
def four (a b c d : Int) : Int := a + 18446744073709551616 * b + 340282366920938463463374607431768211456 * c + 6277101735386680763835789423207666416102355444464034512896 * d
/-- A number of at most 256 bits. -/
def In (n : Int) : Prop := 0 ≤ n ∧ n < 115792089237316195423570985008687907853269984665640564039457584007913129639936

theorem lm_bd (n : Int) (i : Nat) : 0 ≤ lm n i ∧ lm n i < 18446744073709551616 := by unfold lm; omega
theorem lm0 (n : Int) : lm n 0 = n % 18446744073709551616 := by unfold lm; simp
theorem lm1 (n : Int) : lm n 1 = n / 18446744073709551616 % 18446744073709551616 := by unfold lm; simp
theorem lm2 (n : Int) : lm n 2 = n / 340282366920938463463374607431768211456 % 18446744073709551616 := by unfold lm; simp
theorem lm3 (n : Int) : lm n 3 = n / 6277101735386680763835789423207666416102355444464034512896 % 18446744073709551616 := by unfold lm; simp
theorem four_lm {n : Int} (h : In n) : four (lm n 0) (lm n 1) (lm n 2) (lm n 3) = n := by
  unfold In at h; unfold four; rw [lm0, lm1, lm2, lm3]; omega
theorem four_in {a b c d : Int} (ha : 0 ≤ a ∧ a < 18446744073709551616) (hb : 0 ≤ b ∧ b < 18446744073709551616) (hc : 0 ≤ c ∧ c < 18446744073709551616) (hd : 0 ≤ d ∧ d < 18446744073709551616) : In (four a b c d) := by
  unfold In four; omega
theorem lm_four {a b c d : Int} (ha : 0 ≤ a ∧ a < 18446744073709551616) (hb : 0 ≤ b ∧ b < 18446744073709551616) (hc : 0 ≤ c ∧ c < 18446744073709551616) (hd : 0 ≤ d ∧ d < 18446744073709551616) :
    lm (four a b c d) 0 = a ∧ lm (four a b c d) 1 = b ∧ lm (four a b c d) 2 = c ∧ lm (four a b c d) 3 = d := by
  rw [lm0, lm1, lm2, lm3]; unfold four; omega
theorem lm_zero (i : Nat) : lm 0 i = 0 := by unfold lm; simp
/-- Four limbs that make a number are its own. -/
theorem lm_of {n a b c d : Int} (h : n = four a b c d) (ha : 0 ≤ a ∧ a < 18446744073709551616) (hb : 0 ≤ b ∧ b < 18446744073709551616) (hc : 0 ≤ c ∧ c < 18446744073709551616) (hd : 0 ≤ d ∧ d < 18446744073709551616) :
    a = lm n 0 ∧ b = lm n 1 ∧ c = lm n 2 ∧ d = lm n 3 := by
  subst h; obtain ⟨h0, h1, h2, h3⟩ := lm_four ha hb hc hd
  exact ⟨h0.symm, h1.symm, h2.symm, h3.symm⟩
theorem In.zero : In 0 := by unfold In; omega
theorem lm_inj {n m : Int} (hn : In n) (hm : In m) (h0 : lm n 0 = lm m 0) (h1 : lm n 1 = lm m 1) (h2 : lm n 2 = lm m 2) (h3 : lm n 3 = lm m 3) : n = m := by
  rw [← four_lm hn, ← four_lm hm, h0, h1, h2, h3]
end Go.Proofs.Ytncnilplmklccaa
