/- The contract of wide.guess over this translation; plain arithmetic of a quotient's limb. -/
import Derived.Test.YtlmjbpmpedlhlaaWideSub
namespace Go.Proofs.Ytlmjbpmpedlhlaa
open Go.RowKit Go.Lib

theorem guess_any (hi lo top : Int) (hh : 0 ≤ hi ∧ hi < 18446744073709551616) (hl : 0 ≤ lo ∧ lo < 18446744073709551616) (ht : 0 < top) (ht1 : top < 18446744073709551616) (w : World) :
    Calls Try.prog 40 #[.int .u64 hi, .int .u64 lo, .int .u64 top] w fun e w' => ∃ q, e = .returned (.int .u64 q) ∧ (0 ≤ q ∧ q < 18446744073709551616) ∧ Hid ((hi < top → hi * 18446744073709551616 + lo < (q + 1) * top) ∧ (top ≤ hi → q = 18446744073709551615)) ∧ Below w.heap.size w w' := by
  by_cases h : hi < top
  · have p0 : 0 ≤ (hi * 18446744073709551616 + lo) / top := Int.ediv_nonneg (by omega) (by omega)
    have p1 : (hi * 18446744073709551616 + lo) / top < 18446744073709551616 := by
      refine Int.ediv_lt_of_lt_mul ht ?_
      have : hi + 1 ≤ top := by omega
      omega
    have p2 : hi * 18446744073709551616 + lo < ((hi * 18446744073709551616 + lo) / top + 1) * top := Int.lt_ediv_add_one_mul_self _ ht
    have H2 := hide p2; have H0 := hide p0; have H1 := hide p1; have HH := hide h
    clear p0 p1 p2
    have hh1 := hh.1; have hl1 := hl.1; have hl2 := hl.2
    go_enter Try.func40, Try.ntmps40
    go_wp2_with fail
    refine (div_ok hi lo top hh1 hl1 hl2 h ht1 _).mono ?_
    rintro e w1 ⟨rfl, n, rfl⟩
    generalize (hi * 18446744073709551616 + lo) / top = q at *
    go_wp2
    go_ret
    exact ⟨q, rfl, ⟨H0.out, H1.out⟩, ⟨fun _ => H2.out, fun hge => absurd hge (by have := HH.out; omega)⟩, below_draws w n⟩
  · have h' : top ≤ hi := by omega
    have HH := hide h'
    go_enter Try.func40, Try.ntmps40
    go_wp2_with fail
    refine (div_over hi lo top ht h' _).mono ?_
    rintro e w1 ⟨rfl, rfl⟩
    go_wp2
    go_ret
    exact ⟨_, rfl, by omega, ⟨fun hlt => absurd hlt (by have := HH.out; omega), fun _ => rfl⟩, bMe _⟩

/-- A guess is never too small. -/
theorem guess_low {f : Nat → Int} {o : Nat} {d q : Int} (L : Lim f) (hd : In d) (hu : four (f (o + 1)) (f (o + 2)) (f (o + 3)) (f (o + 4)) < d) (hq : 0 ≤ q)
    (hg : (f (o + 4) < lm d 3 → f (o + 4) * 18446744073709551616 + f (o + 3) < (q + 1) * lm d 3) ∧ (lm d 3 ≤ f (o + 4) → q = 18446744073709551615)) : five f o - q * d < d := by
  have k0 := L o; have k1 := L (o + 1); have k2 := L (o + 2); have k3 := L (o + 3); have k4 := L (o + 4)
  by_cases h : f (o + 4) < lm d 3
  · have h1 := hg.1 h
    have e := four_lm hd
    have b0 := lm_bd d 0; have b1 := lm_bd d 1; have b2 := lm_bd d 2
    have h2 : (q + 1) * (6277101735386680763835789423207666416102355444464034512896 * lm d 3) ≤ (q + 1) * d := by
      refine Int.mul_le_mul_of_nonneg_left ?_ (by omega)
      unfold four at e
      omega
    rw [Int.mul_left_comm, Int.add_mul, Int.one_mul] at h2
    rw [Int.add_mul, Int.one_mul] at h1
    rw [Int.add_mul, Int.one_mul] at h2
    generalize q * lm d 3 = t at *
    generalize q * d = u at *
    unfold five four
    omega
  · have h1 := hg.2 (by omega)
    subst h1
    unfold five
    unfold four at *
    omega
/-- What holds of a limb's quotient while it is mended. -/
structure Mend (R d q br F : Int) : Prop where
  q0 : 0 ≤ q
  q1 : q < 18446744073709551616
  b0 : 0 ≤ br
  b1 : br ≤ 1
  eq : R - q * d = F - 2135987035920910082395021706169552114602704522356652769947041607822219725780640550022962086936576 * br
  lt : R - q * d < d
theorem five_bd {f : Nat → Int} (L : Lim f) (o : Nat) : 0 ≤ five f o ∧ five f o < 2135987035920910082395021706169552114602704522356652769947041607822219725780640550022962086936576 := by
  have k0 := L o; have k1 := L (o + 1); have k2 := L (o + 2); have k3 := L (o + 3); have k4 := L (o + 4)
  unfold five four; omega
theorem Mend.pos {R d q br F : Int} (h : Mend R d q br F) (hR : 0 ≤ R) (hF : F < 2135987035920910082395021706169552114602704522356652769947041607822219725780640550022962086936576) (hb : br ≠ 0) : 1 ≤ q := by
  have b := h.b0; have c := h.b1
  obtain rfl : br = 1 := by omega
  have e := h.eq
  rcases Int.lt_or_eq_of_le h.q0 with h0 | h0
  · omega
  · subst h0
    simp only [Int.zero_mul] at e
    omega
theorem Mend.next {R d q br F F' c : Int} (h : Mend R d q br F) (hR : 0 ≤ R) (hF : F < 2135987035920910082395021706169552114602704522356652769947041607822219725780640550022962086936576) (hb : br ≠ 0) (hc : 0 ≤ c ∧ c ≤ 1)
    (e2 : F + d = F' + 2135987035920910082395021706169552114602704522356652769947041607822219725780640550022962086936576 * c) : Mend R d (q - 1) (br - c) F' := by
  have p := h.pos hR hF hb
  have b := h.b0; have b1 := h.b1; have q1 := h.q1
  obtain rfl : br = 1 := by omega
  have e := h.eq
  have e3 : (q - 1) * d = q * d - d := by rw [Int.sub_mul, Int.one_mul]
  refine ⟨by omega, by omega, by omega, by omega, ?_, ?_⟩
  · rw [e3]; omega
  · rw [e3]; omega
theorem Mend.done {R d q F : Int} (h : Mend R d q 0 F) : R = q * d + F ∧ F < d := by
  have e := h.eq
  have l := h.lt
  omega
end Go.Proofs.Ytlmjbpmpedlhlaa
