/- The contracts of wide.shiftUp and wide.shiftDown over this translation. -/
import Derived.Test.YtlmjbpmpedlhlaaWideBase
namespace Go.Proofs.Ytlmjbpmpedlhlaa
open Go.RowKit Go.Lib
attribute [local go_sem] setCell_drewN alloc_drewN

theorem two_split {b : Nat} (hb : b ≤ 64) : (2 : Int) ^ b * 2 ^ (64 - b) = 18446744073709551616 := by
  rw [← Int.pow_add, show b + (64 - b) = 64 by omega]; rfl
theorem two_pos (b : Nat) : 0 < (2 : Int) ^ b := Int.pow_pos (by decide)
theorem shr_lt {y : Int} {b : Nat} (hb : b ≤ 64) (hy : y < 18446744073709551616) : y / 2 ^ (64 - b) < 2 ^ b :=
  Int.ediv_lt_of_lt_mul (two_pos _) (by rw [two_split hb]; exact hy)
theorem two_le {b : Nat} (hb : b ≤ 64) : (2 : Int) ^ b ≤ 18446744073709551616 := by
  rw [← two_split hb]
  have h1 := two_pos b; have h2 := two_pos (64 - b)
  have := Int.mul_le_mul_of_nonneg_left (show 1 ≤ (2 : Int) ^ (64 - b) by omega) (Int.le_of_lt h1)
  omega
/-- Bits that were shifted up, and what came in below. -/
theorem or_up {x y : Int} {b : Nat} (hb : b ≤ 64) (hy0 : 0 ≤ y) (hy : y < 18446744073709551616) :
    bits .or .u64 (IntKind.u64.wrap (x * 2 ^ b)) (y / 2 ^ (64 - b)) = x * 2 ^ b % 18446744073709551616 + y / 2 ^ (64 - b) := by
  rw [IntKind.wrap_u64]
  have h1 := shr_lt hb hy
  have h2 := two_le hb
  have h3 : 0 ≤ y / 2 ^ (64 - b) := Int.ediv_nonneg hy0 (Int.le_of_lt (two_pos _))
  refine or_low b _ _ (by omega) h3 ?_ h1 (by omega) (by omega)
  rw [Int.emod_emod_of_dvd _ (show (2 : Int) ^ b ∣ 18446744073709551616 from ⟨_, (two_split hb).symm⟩)]
  exact Int.mul_emod_left _ _
theorem or_turn {a b : Int} (ha : 0 ≤ a) (hb : 0 ≤ b) (ha' : a < 18446744073709551616) (hb' : b < 18446744073709551616) : bits .or .u64 a b = bits .or .u64 b a := by
  obtain ⟨A, rfl⟩ := Int.eq_ofNat_of_zero_le ha
  obtain ⟨B, rfl⟩ := Int.eq_ofNat_of_zero_le hb
  rw [bits_or_u64_nat A B (by omega) (by omega), bits_or_u64_nat B A (by omega) (by omega), Nat.or_comm]
theorem or_down {x y : Int} {b : Nat} (hb : b ≤ 64) (hx0 : 0 ≤ x) (hx : x < 18446744073709551616) :
    bits .or .u64 (x / 2 ^ b) (IntKind.u64.wrap (y * 2 ^ (64 - b))) = x / 2 ^ b + y * 2 ^ (64 - b) % 18446744073709551616 := by
  have h1 := shr_lt (b := 64 - b) (by omega) hx
  rw [show 64 - (64 - b) = b by omega] at h1
  have h2 := two_le (b := 64 - b) (by omega)
  have h3 : 0 ≤ x / 2 ^ b := Int.ediv_nonneg hx0 (Int.le_of_lt (two_pos _))
  have e := or_up (x := y) (y := x) (b := 64 - b) (by omega) hx0 hx
  rw [show 64 - (64 - b) = b by omega] at e
  rw [or_turn h3 (by rw [IntKind.wrap_u64]; omega) (by omega) (by rw [IntKind.wrap_u64]; omega), e, Int.add_comm]

/-- A row shifted up by b bits. -/
def up (f : Nat → Int) (b : Nat) : Nat → Int := fun j => f j * 2 ^ b % 18446744073709551616 + if j = 0 then 0 else f (j - 1) / 2 ^ (64 - b)
/-- The same, of the limbs above i alone. -/
def upto (f : Nat → Int) (b i : Nat) : Nat → Int := fun j => if i < j then up f b j else f j
theorem upto_here (f : Nat → Int) (b i j : Nat) (h : j ≤ i) : upto f b i j = f j := by unfold upto; rw [if_neg (by omega)]

set_option maxHeartbeats 1000000 in
theorem shift_up_any {g n cap b : Nat} {f : Nat → Int} {w : World} (R : LRow w g (n + 1) f) (L : Lim f) (hb : b < 64) (hn : n < 100) :
    Calls Try.prog 28 #[.slice (some ⟨g, 0, none⟩) (n + 1) cap, .int .i64 b] w fun e w' => e = .returned (.tuple #[]) ∧ LRow w' g (n + 1) (up f b) ∧ Bar g w w' := by
  have HL := hide L; have HR0 := hide R
  clear L R
  go_enter Try.func28, Try.ntmps28
  go_wp2
  go_loopw [4] (fun t wr => ∃ i : Nat, i ≤ n ∧ t = .int .i64 i ∧ LRow wr g (n + 1) (upto f b i) ∧ Bar g w wr) (fun t _ => (intOf t).toNat)
  case atStart => exact ⟨n, Nat.le_refl _, rfl, HR0.out.congr fun j hj => (upto_here f b n j (by omega)).symm, Bar.refl _ _⟩
  case round =>
    obtain ⟨i, hi, rfl, R1, B1⟩ := hrel
    have c0 := R1.cell i (by omega)
    have fr := R1.fr
    rw [upto_here f b i i (by omega)] at c0
    by_cases h0 : 0 < i
    · have c1 := R1.cell (i - 1) (by omega)
      rw [upto_here f b i (i - 1) (by omega)] at c1
      have HR := hide R1; have HB := hide B1
      clear R1 B1
      have e1 : (64 : Int) - b = ((64 - b : Nat) : Int) := by omega
      have e2 : (i : Int) - 1 = ((i - 1 : Nat) : Int) := by omega
      go_wp2
      go_region
      go_wp2
      go_roundw
      case rel =>
        refine ⟨i - 1, by omega, rfl, ?_, (HB.out.set i _).drew⟩
        have l1 := HL.out (i - 1)
        rw [or_up (by omega) l1.1 l1.2]
        refine (((HR.out.set i (by omega) _).dn 1).congr fun j hj => ?_)
        unfold put upto
        by_cases e : j = i
        · subst e
          rw [if_pos rfl, if_pos (by omega)]
          unfold up
          rw [if_neg (by omega)]
        · rw [if_neg e]
          by_cases e3 : i < j
          · rw [if_pos e3, if_pos (by omega)]
          · rw [if_neg e3, if_neg (by omega)]
      case measure => simp [intOf]; omega
    · obtain rfl : i = 0 := by omega
      have HR := hide R1; have HB := hide B1
      clear R1 B1
      go_wp2
      go_end0
      refine ⟨rfl, ?_, HB.out.set 0 _⟩
      refine (HR.out.set 0 (by omega) _).congr fun j hj => ?_
      unfold put upto
      by_cases e : j = 0
      · subst e
        rw [if_pos rfl]
        unfold up
        rw [if_pos rfl, IntKind.wrap_u64, Int.add_zero]
      · rw [if_neg e, if_pos (by omega)]

/-- A row shifted down by b bits, whose last limb is n. -/
def down (f : Nat → Int) (b n : Nat) : Nat → Int := fun j => f j / 2 ^ b + if j = n then 0 else f (j + 1) * 2 ^ (64 - b) % 18446744073709551616
/-- The same, of the limbs below i alone. -/
def downto (f : Nat → Int) (b n i : Nat) : Nat → Int := fun j => if j < i then down f b n j else f j
theorem downto_here (f : Nat → Int) (b n i j : Nat) (h : i ≤ j) : downto f b n i j = f j := by unfold downto; rw [if_neg (by omega)]

set_option maxHeartbeats 1000000 in
theorem shift_down_any {g m n cap b : Nat} {f : Nat → Int} {w : World} (R : LRow w g m f) (L : Lim f) (hb : b < 64) (hn : n < 100) (hm : n + 1 ≤ m) :
    Calls Try.prog 30 #[.slice (some ⟨g, 0, none⟩) (n + 1) cap, .int .i64 b] w fun e w' => e = .returned (.tuple #[]) ∧ LRow w' g m (downto f b n (n + 1)) ∧ Bar g w w' := by
  have HL := hide L; have HR0 := hide R
  clear L R
  go_enter Try.func30, Try.ntmps30
  go_wp2
  go_loopw [10] (fun t wr => ∃ i : Nat, i ≤ n ∧ t = .int .i64 i ∧ LRow wr g m (downto f b n i) ∧ Bar g w wr) (fun t _ => n - (intOf t).toNat)
  case atStart => exact ⟨0, Nat.zero_le _, rfl, HR0.out.congr fun j hj => (downto_here f b n 0 j (by omega)).symm, Bar.refl _ _⟩
  case round =>
    obtain ⟨i, hi, rfl, R1, B1⟩ := hrel
    have c0 := R1.cell i (by omega)
    have fr := R1.fr
    rw [downto_here f b n i i (by omega)] at c0
    by_cases h0 : i < n
    · have c1 := R1.cell (i + 1) (by omega)
      rw [downto_here f b n i (i + 1) (by omega)] at c1
      have HR := hide R1; have HB := hide B1
      clear R1 B1
      have e1 : (64 : Int) - b = ((64 - b : Nat) : Int) := by omega
      go_wp2
      go_region
      go_wp2
      go_roundw
      case rel =>
        refine ⟨i + 1, by omega, rfl, ?_, (HB.out.set i _).drew⟩
        have l1 := HL.out i
        rw [or_down (by omega) l1.1 l1.2]
        refine (((HR.out.set i (by omega) _).dn 1).congr fun j hj => ?_)
        unfold put downto
        by_cases e : j = i
        · subst e
          rw [if_pos rfl, if_pos (by omega)]
          unfold down
          rw [if_neg (by omega)]
        · rw [if_neg e]
          by_cases e3 : j < i
          · rw [if_pos e3, if_pos (by omega)]
          · rw [if_neg e3, if_neg (by omega)]
      case measure => simp [intOf]; omega
    · obtain rfl : i = n := by omega
      have HR := hide R1; have HB := hide B1
      clear R1 B1
      go_wp2
      go_end0
      refine ⟨rfl, ?_, HB.out.set i _⟩
      refine (HR.out.set i (by omega) _).congr fun j hj => ?_
      unfold put downto
      by_cases e : j = i
      · subst e
        rw [if_pos rfl, if_pos (by omega)]
        unfold down
        rw [if_pos rfl, Int.add_zero]
      · rw [if_neg e]
        by_cases e3 : j < i
        · rw [if_pos e3, if_pos (by omega)]
        · rw [if_neg e3, if_neg (by omega)]
end Go.Proofs.Ytlmjbpmpedlhlaa
