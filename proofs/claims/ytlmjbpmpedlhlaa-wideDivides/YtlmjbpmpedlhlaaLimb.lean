/- Contracts of package limb's functions over this translation: each call returns the plain number that the name says; the world is as it was. -/
import Derived.Test.YtlmjbpmpedlhlaaChecked
import Derived.Test.YtlmjbpmpedlhlaaLimbMath
import Derived.Test.YtlmjbpmpedlhlaaHide
import Derived.WalkKit
import Derived.WalkSpells
import Derived.WalkLawsBesides
import Derived.Laws.Externs
import Derived.Laws.Bits64b
import Derived.Laws.MathBits
import Derived.Deep.Light
import Derived.Shelf.Spec.BitsCarry
import Derived.WalkMore
import Derived.ScopeJumps
import Derived.RegionTactic
import Derived.Deep.QuietTactic
import Derived.BigQuiet
namespace Go.Proofs.Ytlmjbpmpedlhlaa
open Go.RowKit Go.Lib

/-- What a carry counts as. -/
def one (c : Int) : Int := if c = 0 then 0 else 1
theorem one_bd (c : Int) : 0 ≤ one c ∧ one c ≤ 1 := by unfold one; split <;> omega

theorem one_any (c : Int) (w : World) :
    Calls Try.prog 45 #[.int .u64 c] w fun e w' => e = .returned (.int .u64 (one c)) ∧ w' = w := by
  by_cases h : c = 0
  · subst h
    go_enter Try.func45, Try.ntmps45
    go_wp2
    go_ret
    exact ⟨rfl, rfl⟩
  · have hb : (c != 0) = true := by simp [h]
    have e : one c = 1 := by unfold one; rw [if_neg h]
    rw [e]
    clear e h
    go_enter Try.func45, Try.ntmps45
    go_wp2
    go_ret
    exact ⟨rfl, rfl⟩

theorem add64 (x y c : Int) (hx : 0 ≤ x) (hy : 0 ≤ y) (hc0 : 0 ≤ c) (hc : c ≤ 1) (w : World) : (callFunc 44 #[.int .u64 x, .int .u64 y, .int .u64 c]).run Try.prog w =
    .ok (.value (.tuple #[.int .u64 ((x + y + c) % 18446744073709551616), .int .u64 ((x + y + c) / 18446744073709551616)])) w := by
  rw [run_callFunc_extern Try.func44 (by kernel_rfl) (by kernel_rfl) (by kernel_rfl) (e := add64Entry) (by kernel_rfl), run_add64 x y c hx hy hc0 hc]
  rfl

theorem limb_add_any (a b c : Int) (ha : 0 ≤ a) (hb : 0 ≤ b) (w : World) :
    Calls Try.prog 36 #[.int .u64 a, .int .u64 b, .int .u64 c] w fun e w' =>
      e = .returned (.tuple #[.int .u64 ((a + b + one c) % 18446744073709551616), .int .u64 ((a + b + one c) / 18446744073709551616)]) ∧ w' = w := by
  obtain ⟨k0, k1⟩ := one_bd c
  go_enter Try.func36, Try.ntmps36
  go_wp2_with (first | (go_at_call 45; refine (one_any _ _).mono ?_; rintro e w' ⟨rfl, rfl⟩) | simp only [add64 a b _ ha hb k0 k1])
  go_ret2
  exact ⟨rfl, rfl⟩


theorem len_close (x y : Int) (k : Nat) (K : Int) (hK : K = k) (hk : k ≤ 56) (e : y.toNat = x.toNat / 2 ^ k) (h : y.toNat ≠ 0) (h8 : y.toNat < 256) :
    wrap64 (K + wrap64 ((bitLen y.toNat : Nat) : Int)) = ((bitLen x.toNat : Nat) : Int) := by
  have l := bitLen_le8 y.toNat h8
  have s := bitLen_shift x.toNat k (by rw [← e]; exact h)
  rw [← e] at s
  unfold wrap64
  omega
theorem len_close0 (x : Int) (h8 : x.toNat < 256) : wrap64 (wrap64 ((bitLen x.toNat : Nat) : Int)) = ((bitLen x.toNat : Nat) : Int) := by
  have l := bitLen_le8 x.toNat h8
  unfold wrap64
  omega

set_option maxHeartbeats 1000000 in
set_option maxRecDepth 100000 in
theorem len64_any (x : Int) (h0 : 0 ≤ x) (h1 : x ≤ 18446744073709551615) (w : World) :
    Calls Try.prog 47 #[.int .u64 x] w fun e w' => e = .returned (.int .i64 (bitLen x.toNat)) ∧ w' = w := by
  go_enter Try.func47, Try.ntmps47
  go_wp2
  all_goals (go_ret; refine ⟨congrArg Ending.returned (congrArg (Value.int IntKind.i64) ?_), rfl⟩; go_light; rw [len8tab_get])
  · exact len_close x _ 56 56 rfl (by omega) (by omega) (by omega) (by omega)
  · exact len_close x _ 48 48 rfl (by omega) (by omega) (by omega) (by omega)
  · exact len_close x _ 40 40 rfl (by omega) (by omega) (by omega) (by omega)
  · exact len_close x _ 32 32 rfl (by omega) (by omega) (by omega) (by omega)
  · exact len_close x _ 24 24 rfl (by omega) (by omega) (by omega) (by omega)
  · exact len_close x _ 16 16 rfl (by omega) (by omega) (by omega) (by omega)
  · exact len_close x _ 8 8 rfl (by omega) (by omega) (by omega) (by omega)
  · exact len_close0 x (by omega)

theorem limb_len_any (x : Int) (h0 : 0 ≤ x) (h1 : x ≤ 18446744073709551615) (w : World) :
    Calls Try.prog 39 #[.int .u64 x] w fun e w' => e = .returned (.int .i64 (bitLen x.toNat)) ∧ w' = w := by
  go_enter Try.func39, Try.ntmps39
  go_wp2_with (go_at_call 47; refine (len64_any _ h0 h1 _).mono ?_; rintro e w' ⟨rfl, rfl⟩)
  go_ret
  exact ⟨rfl, rfl⟩

/-- The borrow of a difference. -/
def bor (x y : Int) : Int := if x < y then 1 else 0
theorem bor_bd (x y : Int) : 0 ≤ bor x y ∧ bor x y ≤ 1 := by unfold bor; split <;> omega

theorem sub64 (x y b : Int) (hx : 0 ≤ x) (hy : 0 ≤ y) (hy' : y < 18446744073709551616) (hb0 : 0 ≤ b) (hb : b ≤ 1) (w : World) : (callFunc 52 #[.int .u64 x, .int .u64 y, .int .u64 b]).run Try.prog w =
    .ok (.value (.tuple #[.int .u64 ((x - y - b) % 18446744073709551616), .int .u64 (bor x (y + b))])) w := by
  obtain ⟨x, rfl⟩ := Int.eq_ofNat_of_zero_le hx
  obtain ⟨y, rfl⟩ := Int.eq_ofNat_of_zero_le hy
  obtain ⟨b, rfl⟩ := Int.eq_ofNat_of_zero_le hb0
  have e1 : (((x + 18446744073709551616 - y - b) % 18446744073709551616 : Nat) : Int) = ((x : Int) - y - b) % 18446744073709551616 := by omega
  have e2 : ((if x < y + b then 1 else 0 : Nat) : Int) = bor x (y + b) := by unfold bor; split <;> split <;> omega
  rw [← e1, ← e2]
  rw [run_callFunc_extern Try.func52 (by kernel_rfl) (by kernel_rfl) (by kernel_rfl) (e := sub64Entry) (by kernel_rfl), run_sub64 x y b (by omega)]
  rfl

theorem limb_sub_any (a b c : Int) (ha : 0 ≤ a) (hb : 0 ≤ b) (hb1 : b < 18446744073709551616) (w : World) :
    Calls Try.prog 49 #[.int .u64 a, .int .u64 b, .int .u64 c] w fun e w' =>
      e = .returned (.tuple #[.int .u64 ((a - b - one c) % 18446744073709551616), .int .u64 (bor a (b + one c))]) ∧ w' = w := by
  obtain ⟨k0, k1⟩ := one_bd c
  go_enter Try.func49, Try.ntmps49
  go_wp2_with (first | (go_at_call 45; refine (one_any _ _).mono ?_; rintro e w' ⟨rfl, rfl⟩) | simp only [sub64 a b _ ha hb hb1 k0 k1])
  go_ret2
  exact ⟨rfl, rfl⟩

theorem and_low32w (z : Int) : bits .and .u64 (z % 18446744073709551616) 4294967295 = z % 18446744073709551616 % 4294967296 := and_low32 _ (by omega) (by omega)
theorem ret_pair {a b c d : Int} (h1 : a = c) (h2 : b = d) : Ending.returned (.tuple #[.int .u64 a, .int .u64 b]) = .returned (.tuple #[.int .u64 c, .int .u64 d]) := by rw [h1, h2]
set_option maxHeartbeats 1000000 in
theorem mul64_any (x y : Int) (hx0 : 0 ≤ x) (hx : x < 18446744073709551616) (hy0 : 0 ≤ y) (hy : y < 18446744073709551616) (w : World) :
    Calls Try.prog 50 #[.int .u64 x, .int .u64 y] w fun e w' =>
      e = .returned (.tuple #[.int .u64 (x * y / 18446744073709551616), .int .u64 (x * y % 18446744073709551616)]) ∧ w' = w := by
  have m1 := and_low32 x hx0 hx
  have m2 := and_low32 y hy0 hy
  have m3 := mul64_arith x y hx0 hx hy0 hy
  go_enter Try.func50, Try.ntmps50
  go_wp2
  go_ret2
  refine ⟨ret_pair ?_ ?_, rfl⟩
  · simp only [IntKind.wrap_u64, and_low32w]
    exact m3
  · simp only [IntKind.wrap_u64]

theorem limb_mul_any (x y : Int) (hx0 : 0 ≤ x) (hx : x < 18446744073709551616) (hy0 : 0 ≤ y) (hy : y < 18446744073709551616) (w : World) :
    Calls Try.prog 43 #[.int .u64 x, .int .u64 y] w fun e w' =>
      e = .returned (.tuple #[.int .u64 (x * y / 18446744073709551616), .int .u64 (x * y % 18446744073709551616)]) ∧ w' = w := by
  go_enter Try.func43, Try.ntmps43
  go_wp2_with (go_at_call 50; refine (mul64_any _ _ hx0 hx hy0 hy _).mono ?_; rintro e w' ⟨rfl, rfl⟩)
  go_ret2
  exact ⟨rfl, rfl⟩

/-- The ways behind a test, in the walk's own words. -/
theorem w_jump {rest next y q over : Int} (R : Range rest next y) (I : Inv rest next y q over)
    (h : bits .or .u64 (IntKind.u64.wrap (over * 4294967296)) next < IntKind.u64.wrap (q * (y % 4294967296))) (h2 : IntKind.u64.wrap (over + y / 4294967296) ≤ 4294967295) :
    IntKind.u64.wrap (q - 1) = q - 1 ∧ IntKind.u64.wrap (over + y / 4294967296) = over + y / 4294967296 ∧ Inv rest next y (q - 1) (over + y / 4294967296) ∧ (q - 1).toNat < q.toNat := by
  simp only [IntKind.wrap_u64] at *
  rw [test_iff R I] at h
  obtain ⟨h3, h4⟩ := too_great R I h
  have := I.q1; have := I.o0; have := I.o1; have := R.y0; have := R.y1
  have e1 : (q - 1) % 18446744073709551616 = q - 1 := by omega
  have e2 : (over + y / 4294967296) % 18446744073709551616 = over + y / 4294967296 := by omega
  exact ⟨e1, e2, inv_next R I h (by omega), by omega⟩
theorem w_over {rest next y q over : Int} (R : Range rest next y) (I : Inv rest next y q over)
    (h : bits .or .u64 (IntKind.u64.wrap (over * 4294967296)) next < IntKind.u64.wrap (q * (y % 4294967296))) (h2 : 4294967295 < IntKind.u64.wrap (over + y / 4294967296)) :
    IntKind.u64.wrap (q - 1) = (rest * 4294967296 + next) / y := by
  simp only [IntKind.wrap_u64] at *
  rw [test_iff R I] at h
  obtain ⟨h3, h4⟩ := too_great R I h
  have := I.q1; have := I.o0; have := I.o1; have := R.y0; have := R.y1
  have e1 : (q - 1) % 18446744073709551616 = q - 1 := by omega
  rw [e1]
  exact done_over R I h (by omega)
theorem w_not {rest next y q over : Int} (R : Range rest next y) (I : Inv rest next y q over)
    (h : IntKind.u64.wrap (q * (y % 4294967296)) ≤ bits .or .u64 (IntKind.u64.wrap (over * 4294967296)) next) :
    q = (rest * 4294967296 + next) / y := by
  simp only [IntKind.wrap_u64] at *
  have h' := mt (test_iff R I).2 (Int.not_lt.2 h)
  exact done_not R I h'
theorem w_left {rest next y q : Int} (R : Range rest next y) (h : q = (rest * 4294967296 + next) / y) :
    IntKind.u64.wrap (IntKind.u64.wrap (IntKind.u64.wrap (rest * 4294967296) + next) - IntKind.u64.wrap (q * y)) = (rest * 4294967296 + next) % y := by
  simp only [IntKind.wrap_u64]
  rw [h]
  exact left_over R

set_option maxHeartbeats 1000000 in
theorem digit_any (rest next y : Int) (R : Range rest next y) (w : World) :
    Calls Try.prog 51 #[.int .u64 rest, .int .u64 next, .int .u64 y] w fun e w' =>
      e = .returned (.tuple #[.int .u64 ((rest * 4294967296 + next) / y), .int .u64 ((rest * 4294967296 + next) % y)]) ∧ w' = w := by
  have HR := hide R
  obtain ⟨hr0, hr, hn0, hn, hy0, hy⟩ := R
  have m1 := and_low32 y (by omega) hy
  have ht : (y / 4294967296 == 0) = false := by rw [beq_eq_false_iff_ne]; omega
  go_enter Try.func51, Try.ntmps51
  go_wp2
  refine wp_scope_jumps 0 (fun a' w' => w' = w ∧ ∃ (q over : Int) (u11 u12 u13 u14 u15 u16 u17 u18 u19 u20 u21 u22 u23 u24 u25 u26 u27 u28 u29 u30 u31 u32 u33 u34 u35 : Value), a' = { tmps := #[.int .u64 rest, .int .u64 next, .int .u64 y, undef, undef, undef, .int .u64 q, .int .u64 0, .int .u64 (y / 4294967296), .int .u64 (y % 4294967296), .int .u64 over, u11, u12, u13, u14, u15, u16, u17, u18, u19, u20, u21, u22, u23, u24, u25, u26, u27, u28, u29, u30, u31, u32, u33, u34, u35, undef, undef, undef, undef, undef, undef, undef, undef, undef], defers := [] } ∧ Inv rest next y q over) (fun a' _ => (intOf (a'.tmps.getD 6 undef)).toNat) rfl ?_ ?_
  · have HI := hide (inv_start HR.out)
    go_wp2
    go_step3
    go_wp2
    · go_step3
      obtain ⟨e1, e2, e3, e4⟩ := w_jump HR.out HI.out ‹_› ‹_›
      rw [e1, e2]
      exact ⟨rfl, rfl, _, _, _, _, _, _, _, _, _, _, _, _, _, _, _, _, _, _, _, _, _, _, _, _, _, _, _, rfl, e3⟩
    · simp only [Exit.jump]
      go_ret2
      have e := w_over HR.out HI.out ‹_› ‹_›
      exact ⟨ret_pair e (w_left HR.out e), rfl⟩
    · simp only [Exit.jump]
      go_ret2
      have e := w_not HR.out HI.out ‹_›
      exact ⟨ret_pair e (w_left HR.out e), rfl⟩
  · rintro a' w' ⟨rfl, q, over, u11, u12, u13, u14, u15, u16, u17, u18, u19, u20, u21, u22, u23, u24, u25, u26, u27, u28, u29, u30, u31, u32, u33, u34, u35, rfl, I⟩
    have HI := hide I
    clear I
    go_wp2
    · go_step3
      obtain ⟨e1, e2, e3, e4⟩ := w_jump HR.out HI.out ‹_› ‹_›
      rw [e1, e2]
      exact ⟨rfl, ⟨rfl, _, _, _, _, _, _, _, _, _, _, _, _, _, _, _, _, _, _, _, _, _, _, _, _, _, _, _, rfl, e3⟩, e4⟩
    · simp only [Exit.jump]
      go_ret2
      have e := w_over HR.out HI.out ‹_› ‹_›
      exact ⟨ret_pair e (w_left HR.out e), rfl⟩
    · simp only [Exit.jump]
      go_ret2
      have e := w_not HR.out HI.out ‹_›
      exact ⟨ret_pair e (w_left HR.out e), rfl⟩

theorem ret_trip {a b c d : Int} {k : Int} (h1 : a = c) (h2 : b = d) : Ending.returned (.tuple #[.int .u64 a, .int .u64 b, .int .i64 k]) = .returned (.tuple #[.int .u64 c, .int .u64 d, .int .i64 k]) := by rw [h1, h2]
theorem div_zero (hi lo : Int) (w : World) :
    Calls Try.prog 48 #[.int .u64 hi, .int .u64 lo, .int .u64 0] w fun e w' =>
      e = .returned (.tuple #[.int .u64 0, .int .u64 0, .int .i64 3]) ∧ w' = w := by
  go_enter Try.func48, Try.ntmps48
  go_wp2
  go_ret3
  exact ⟨rfl, rfl⟩
theorem div_over (hi lo y : Int) (hy : 0 < y) (h : y ≤ hi) (w : World) :
    Calls Try.prog 48 #[.int .u64 hi, .int .u64 lo, .int .u64 y] w fun e w' =>
      e = .returned (.tuple #[.int .u64 0, .int .u64 0, .int .i64 2]) ∧ w' = w := by
  have h0 : (y == 0) = false := by rw [beq_eq_false_iff_ne]; omega
  go_enter Try.func48, Try.ntmps48
  go_wp2
  go_ret3
  exact ⟨rfl, rfl⟩
set_option maxHeartbeats 1000000 in
theorem div_ok (hi lo y : Int) (hh : 0 ≤ hi) (hl : 0 ≤ lo) (hl1 : lo < 18446744073709551616) (hy : hi < y) (hy1 : y < 18446744073709551616) (w : World) :
    Calls Try.prog 48 #[.int .u64 hi, .int .u64 lo, .int .u64 y] w fun e w' =>
      e = .returned (.tuple #[.int .u64 ((hi * 18446744073709551616 + lo) / y), .int .u64 ((hi * 18446744073709551616 + lo) % y), .int .i64 0]) ∧ ∃ n, w' = w.drewN n := by
  have h0 : (y == 0) = false := by rw [beq_eq_false_iff_ne]; omega
  have N := norm_of y (by omega) hy1
  go_enter Try.func48, Try.ntmps48
  go_wp2_with fail
  refine (limb_len_any _ (by omega) (by omega) _).mono ?_
  rintro e w1 ⟨rfl, rfl⟩
  generalize bitLen y.toNat = L at *
  obtain ⟨R1, R2, R3, R4⟩ := first_rest N hi lo hh hl hl1 hy
  have d := two_digits (y * 2 ^ (64 - L)) (hi * 18446744073709551616 + lo) (2 ^ (64 - L)) y _ _ rfl N.p0 R2 R3 (by rw [IntKind.wrap_u64]; omega) (by rw [IntKind.wrap_u64]; omega) N.y0 N.y1 R4
  obtain ⟨D1, D2, D3, D4⟩ := d
  have hL1 := N.l1
  have hL2 := N.l2
  have ew : IntKind.u64.wrap (y * 2 ^ (64 - L)) = y * 2 ^ (64 - L) := by rw [IntKind.wrap_u64]; have := N.y0; have := N.y1; omega
  have HN := hide N; have HR1 := hide R1; have HD1 := hide D1; have HD2 := hide D2; have HD3 := hide D3; have HD4 := hide D4
  clear N R1 R2 R3 R4 D1 D2 D3 D4
  have hx : 64 - (64 - L) = L := by omega
  go_wp2_with fail
  go_quiet (fail)
  go_wp2_with fail
  rw [HR1.out]
  refine (digit_any _ _ _ HD1.out _).mono ?_
  rintro e w2 ⟨rfl, rfl⟩
  go_wp2_with fail
  have ea : bits .and .u64 (IntKind.u64.wrap (lo * 2 ^ (64 - L))) 4294967295 = IntKind.u64.wrap (lo * 2 ^ (64 - L)) % 4294967296 := by rw [IntKind.wrap_u64]; exact and_low32w _
  rw [ea]
  refine (digit_any _ _ _ HD2.out _).mono ?_
  rintro e w2 ⟨rfl, rfl⟩
  clear ea ew
  go_wp2_with fail
  go_quiet (fail)
  go_wp2
  go_ret3
  exact ⟨ret_trip HD3.out HD4.out, _, World.drewN_drewN _ _ _⟩

theorem add_live (w : World) : Calls Try.prog 36 #[.int .u64 18446744073709551615, .int .u64 1, .int .u64 0] w fun e w' => e = .returned (.tuple #[.int .u64 0, .int .u64 1]) ∧ w' = w := by
  refine (limb_add_any 18446744073709551615 1 0 (by omega) (by omega) w).mono ?_
  rintro e w' ⟨rfl, rfl⟩
  exact ⟨ret_pair (by decide) (by decide), rfl⟩
theorem div_live (w : World) : Calls Try.prog 48 #[.int .u64 1, .int .u64 0, .int .u64 2] w fun e w' => e = .returned (.tuple #[.int .u64 9223372036854775808, .int .u64 0, .int .i64 0]) ∧ ∃ n, w' = w.drewN n := by
  refine (div_ok 1 0 2 (by omega) (by omega) (by omega) (by omega) (by omega) w).mono ?_
  rintro e w' ⟨rfl, h⟩
  exact ⟨ret_trip (by decide) (by decide), h⟩

theorem below_draws (w : World) (n : Nat) : Below w.heap.size w (w.drewN n) := below_drewN (Below.refl _ _) n
end Go.Proofs.Ytlmjbpmpedlhlaa
