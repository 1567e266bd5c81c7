/- Contracts of package limb's functions over this translation: each call returns the plain number that the name says; the world is as it was. -/
import Derived.Test.YtncnilplmklccaaChecked
import Derived.Test.YtncnilplmklccaaLimbMath
import Derived.Test.YtncnilplmklccaaHide
import Derived.WalkKit
import Derived.WalkSpells
import Derived.WalkLawsBesides
import Derived.Laws.Externs
import Derived.Laws.Bits64b
import Derived.Laws.MathBits
import Derived.Deep.Light
import Derived.Shelf.Spec.BitsCarry
import Derived.WalkMore
import Derived.ScopeJumps
import Derived.RegionTactic
import Derived.Deep.QuietTactic
import Derived.BigQuiet
namespace Go.Proofs.Ytncnilplmklccaa
open Go.RowKit Go.Lib

/-- What a carry counts as. -/
def one (c : Int) : Int := if c = 0 then 0 else 1
theorem one_bd (c : Int) : 0 ≤ one c ∧ one c ≤ 1 := by unfold one; split <;> omega

theorem one_any (c : Int) (w : World) :
    Calls Try.prog 66 #[.int .u64 c] w fun e w' => e = .returned (.int .u64 (one c)) ∧ w' = w := by
  by_cases h : c = 0
  · subst h
    go_enter Try.func66, Try.ntmps66
    go_wp2
    go_ret
    exact ⟨rfl, rfl⟩
  · have hb : (c != 0) = true := by simp [h]
    have e : one c = 1 := by unfold one; rw [if_neg h]
    rw [e]
    clear e h
    go_enter Try.func66, Try.ntmps66
    go_wp2
    go_ret
    exact ⟨rfl, rfl⟩

theorem add64 (x y c : Int) (hx : 0 ≤ x) (hy : 0 ≤ y) (hc0 : 0 ≤ c) (hc : c ≤ 1) (w : World) : (callFunc 65 #[.int .u64 x, .int .u64 y, .int .u64 c]).run Try.prog w =
    .ok (.value (.tuple #[.int .u64 ((x + y + c) % 18446744073709551616), .int .u64 ((x + y + c) / 18446744073709551616)])) w := by
  rw [run_callFunc_extern Try.func65 (by kernel_rfl) (by kernel_rfl) (by kernel_rfl) (e := add64Entry) (by kernel_rfl), run_add64 x y c hx hy hc0 hc]
  rfl

theorem limb_add_any (a b c : Int) (ha : 0 ≤ a) (hb : 0 ≤ b) (w : World) :
    Calls Try.prog 57 #[.int .u64 a, .int .u64 b, .int .u64 c] w fun e w' =>
      e = .returned (.tuple #[.int .u64 ((a + b + one c) % 18446744073709551616), .int .u64 ((a + b + one c) / 18446744073709551616)]) ∧ w' = w := by
  obtain ⟨k0, k1⟩ := one_bd c
  go_enter Try.func57, Try.ntmps57
  go_wp2_with (first | (go_at_call 66; refine (one_any _ _).mono ?_; rintro e w' ⟨rfl, rfl⟩) | simp only [add64 a b _ ha hb k0 k1])
  go_ret2
  exact ⟨rfl, rfl⟩


theorem len_close (x y : Int) (k : Nat) (K : Int) (hK : K = k) (hk : k ≤ 56) (e : y.toNat = x.toNat / 2 ^ k) (h : y.toNat ≠ 0) (h8 : y.toNat < 256) :
    wrap64 (K + wrap64 ((bitLen y.toNat : Nat) : Int)) = ((bitLen x.toNat : Nat) : Int) := by
  have l := bitLen_le8 y.toNat h8
  have s := bitLen_shift x.toNat k (by rw [← e]; exact h)
  rw [← e] at s
  unfold wrap64
  omega
theorem len_close0 (x : Int) (h8 : x.toNat < 256) : wrap64 (wrap64 ((bitLen x.toNat : Nat) : Int)) = ((bitLen x.toNat : Nat) : Int) := by
  have l := bitLen_le8 x.toNat h8
  unfold wrap64
  omega

set_option maxHeartbeats 1000000 in
set_option maxRecDepth 100000 in
theorem len64_any (x : Int) (h0 : 0 ≤ x) (h1 : x ≤ 18446744073709551615) (w : World) :
    Calls Try.prog 92 #[.int .u64 x] w fun e w' => e = .returned (.int .i64 (bitLen x.toNat)) ∧ w' = w := by
  go_enter Try.func92, Try.ntmps92
  go_wp2
  all_goals (go_ret; refine ⟨congrArg Ending.returned (congrArg (Value.int IntKind.i64) ?_), rfl⟩; go_light; rw [len8tab_get])
  · exact len_close x _ 56 56 rfl (by omega) (by omega) (by omega) (by omega)
  · exact len_close x _ 48 48 rfl (by omega) (by omega) (by omega) (by omega)
  · exact len_close x _ 40 40 rfl (by omega) (by omega) (by omega) (by omega)
  · exact len_close x _ 32 32 rfl (by omega) (by omega) (by omega) (by omega)
  · exact len_close x _ 24 24 rfl (by omega) (by omega) (by omega) (by omega)
  · exact len_close x _ 16 16 rfl (by omega) (by omega) (by omega) (by omega)
  · exact len_close x _ 8 8 rfl (by omega) (by omega) (by omega) (by omega)
  · exact len_close0 x (by omega)

/-- The borrow of a difference. -/
def bor (x y : Int) : Int := if x < y then 1 else 0
theorem bor_bd (x y : Int) : 0 ≤ bor x y ∧ bor x y ≤ 1 := by unfold bor; split <;> omega

theorem sub64 (x y b : Int) (hx : 0 ≤ x) (hy : 0 ≤ y) (hy' : y < 18446744073709551616) (hb0 : 0 ≤ b) (hb : b ≤ 1) (w : World) : (callFunc 80 #[.int .u64 x, .int .u64 y, .int .u64 b]).run Try.prog w =
    .ok (.value (.tuple #[.int .u64 ((x - y - b) % 18446744073709551616), .int .u64 (bor x (y + b))])) w := by
  obtain ⟨x, rfl⟩ := Int.eq_ofNat_of_zero_le hx
  obtain ⟨y, rfl⟩ := Int.eq_ofNat_of_zero_le hy
  obtain ⟨b, rfl⟩ := Int.eq_ofNat_of_zero_le hb0
  have e1 : (((x + 18446744073709551616 - y - b) % 18446744073709551616 : Nat) : Int) = ((x : Int) - y - b) % 18446744073709551616 := by omega
  have e2 : ((if x < y + b then 1 else 0 : Nat) : Int) = bor x (y + b) := by unfold bor; split <;> split <;> omega
  rw [← e1, ← e2]
  rw [run_callFunc_extern Try.func80 (by kernel_rfl) (by kernel_rfl) (by kernel_rfl) (e := sub64Entry) (by kernel_rfl), run_sub64 x y b (by omega)]
  rfl

theorem limb_sub_any (a b c : Int) (ha : 0 ≤ a) (hb : 0 ≤ b) (hb1 : b < 18446744073709551616) (w : World) :
    Calls Try.prog 76 #[.int .u64 a, .int .u64 b, .int .u64 c] w fun e w' =>
      e = .returned (.tuple #[.int .u64 ((a - b - one c) % 18446744073709551616), .int .u64 (bor a (b + one c))]) ∧ w' = w := by
  obtain ⟨k0, k1⟩ := one_bd c
  go_enter Try.func76, Try.ntmps76
  go_wp2_with (first | (go_at_call 66; refine (one_any _ _).mono ?_; rintro e w' ⟨rfl, rfl⟩) | simp only [sub64 a b _ ha hb hb1 k0 k1])
  go_ret2
  exact ⟨rfl, rfl⟩

theorem and_low32w (z : Int) : bits .and .u64 (z % 18446744073709551616) 4294967295 = z % 18446744073709551616 % 4294967296 := and_low32 _ (by omega) (by omega)
theorem ret_pair {a b c d : Int} (h1 : a = c) (h2 : b = d) : Ending.returned (.tuple #[.int .u64 a, .int .u64 b]) = .returned (.tuple #[.int .u64 c, .int .u64 d]) := by rw [h1, h2]
/-- The ways behind a test, in the walk's own words. -/
theorem w_jump {rest next y q over : Int} (R : Range rest next y) (I : Inv rest next y q over)
    (h : bits .or .u64 (IntKind.u64.wrap (over * 4294967296)) next < IntKind.u64.wrap (q * (y % 4294967296))) (h2 : IntKind.u64.wrap (over + y / 4294967296) ≤ 4294967295) :
    IntKind.u64.wrap (q - 1) = q - 1 ∧ IntKind.u64.wrap (over + y / 4294967296) = over + y / 4294967296 ∧ Inv rest next y (q - 1) (over + y / 4294967296) ∧ (q - 1).toNat < q.toNat := by
  simp only [IntKind.wrap_u64] at *
  rw [test_iff R I] at h
  obtain ⟨h3, h4⟩ := too_great R I h
  have := I.q1; have := I.o0; have := I.o1; have := R.y0; have := R.y1
  have e1 : (q - 1) % 18446744073709551616 = q - 1 := by omega
  have e2 : (over + y / 4294967296) % 18446744073709551616 = over + y / 4294967296 := by omega
  exact ⟨e1, e2, inv_next R I h (by omega), by omega⟩
theorem w_over {rest next y q over : Int} (R : Range rest next y) (I : Inv rest next y q over)
    (h : bits .or .u64 (IntKind.u64.wrap (over * 4294967296)) next < IntKind.u64.wrap (q * (y % 4294967296))) (h2 : 4294967295 < IntKind.u64.wrap (over + y / 4294967296)) :
    IntKind.u64.wrap (q - 1) = (rest * 4294967296 + next) / y := by
  simp only [IntKind.wrap_u64] at *
  rw [test_iff R I] at h
  obtain ⟨h3, h4⟩ := too_great R I h
  have := I.q1; have := I.o0; have := I.o1; have := R.y0; have := R.y1
  have e1 : (q - 1) % 18446744073709551616 = q - 1 := by omega
  rw [e1]
  exact done_over R I h (by omega)
theorem w_not {rest next y q over : Int} (R : Range rest next y) (I : Inv rest next y q over)
    (h : IntKind.u64.wrap (q * (y % 4294967296)) ≤ bits .or .u64 (IntKind.u64.wrap (over * 4294967296)) next) :
    q = (rest * 4294967296 + next) / y := by
  simp only [IntKind.wrap_u64] at *
  have h' := mt (test_iff R I).2 (Int.not_lt.2 h)
  exact done_not R I h'
theorem w_left {rest next y q : Int} (R : Range rest next y) (h : q = (rest * 4294967296 + next) / y) :
    IntKind.u64.wrap (IntKind.u64.wrap (IntKind.u64.wrap (rest * 4294967296) + next) - IntKind.u64.wrap (q * y)) = (rest * 4294967296 + next) % y := by
  simp only [IntKind.wrap_u64]
  rw [h]
  exact left_over R

theorem ret_trip {a b c d : Int} {k : Int} (h1 : a = c) (h2 : b = d) : Ending.returned (.tuple #[.int .u64 a, .int .u64 b, .int .i64 k]) = .returned (.tuple #[.int .u64 c, .int .u64 d, .int .i64 k]) := by rw [h1, h2]
theorem add_live (w : World) : Calls Try.prog 57 #[.int .u64 18446744073709551615, .int .u64 1, .int .u64 0] w fun e w' => e = .returned (.tuple #[.int .u64 0, .int .u64 1]) ∧ w' = w := by
  refine (limb_add_any 18446744073709551615 1 0 (by omega) (by omega) w).mono ?_
  rintro e w' ⟨rfl, rfl⟩
  exact ⟨ret_pair (by decide) (by decide), rfl⟩
theorem below_draws (w : World) (n : Nat) : Below w.heap.size w (w.drewN n) := below_drewN (Below.refl _ _) n
end Go.Proofs.Ytncnilplmklccaa
