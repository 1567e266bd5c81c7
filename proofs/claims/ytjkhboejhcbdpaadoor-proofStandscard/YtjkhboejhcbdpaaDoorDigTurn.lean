/- The contract of digest.turned over this translation; choice and majority by exclusive or. -/
import Derived.Test.YtjkhboejhcbdpaaDoorRef5
import Derived.Test.YtjkhboejhcbdpaaDoorRows32
namespace Go.Proofs.YtjkhboejhcbdpaaDoor
open Go.RowKit Go.Lib

/-- Numbers whose bits don't meet: 'or' is the sum. -/
theorem or_sum32 {a b : Int} (k : Nat) (ha : 0 ≤ a) (hb : 0 ≤ b) (hk : b < ((2 ^ k : Nat) : Int)) (h : a * ((2 ^ k : Nat) : Int) + b < 4294967296) : bits .or .u32 (a * ((2 ^ k : Nat) : Int)) b = a * ((2 ^ k : Nat) : Int) + b := by
  obtain ⟨m, rfl⟩ := Int.eq_ofNat_of_zero_le ha
  obtain ⟨n, rfl⟩ := Int.eq_ofNat_of_zero_le hb
  have e : (m : Int) * ((2 ^ k : Nat) : Int) = ((2 ^ k * m : Nat) : Int) := by rw [Nat.mul_comm]; exact (Int.natCast_mul _ _).symm
  rw [e] at h ⊢
  have h1 : 2 ^ k * m + n < 4294967296 := by omega
  rw [u32_or_nat _ _ (by omega) (by omega), ← Nat.two_pow_add_eq_or_of_lt (by omega)]
  omega
theorem maj_nat (a b c : Nat) : ((a &&& b) ^^^ (a &&& c)) ^^^ (b &&& c) = ((a &&& b) ||| (a &&& c)) ||| (b &&& c) := by
  apply Nat.eq_of_testBit_eq
  intro i
  simp only [Nat.testBit_xor, Nat.testBit_or, Nat.testBit_and]
  cases a.testBit i <;> cases b.testBit i <;> cases c.testBit i <;> rfl
theorem cho_nat (e f g : Nat) (he : e < 2 ^ 32) : (e &&& f) ^^^ ((2 ^ 32 - (e + 1)) &&& g) = (e &&& f) ||| ((2 ^ 32 - (e + 1)) &&& g) := by
  apply Nat.eq_of_testBit_eq
  intro i
  simp only [Nat.testBit_xor, Nat.testBit_or, Nat.testBit_and, Nat.testBit_two_pow_sub_succ he]
  cases e.testBit i <;> cases f.testBit i <;> cases g.testBit i <;> cases decide (i < 32) <;> rfl
theorem maj_is (a b c : Int) : xr (xr (an a b) (an a c)) (an b c) = maj a b c := by
  unfold xr an maj orr an
  simp only [Int.toNat_natCast]
  rw [maj_nat]
theorem cho_is {e f g : Int} (he : U32 e) : xr (an e f) (an (4294967295 - e) g) = cho e f g := by
  have h := cho_nat e.toNat f.toNat g.toNat (nat32 he)
  have h2 : (4294967295 - e).toNat = 2 ^ 32 - (e.toNat + 1) := by have := he.1; have := he.2; omega
  unfold xr an cho orr an
  simp only [Int.toNat_natCast]
  rw [h2, h]
theorem rot2 {x : Int} (hx : U32 x) : bits .or .u32 (x * 1073741824 % 4294967296) (x / 4) = rotr x 2 := by
  obtain ⟨x0, x1⟩ := hx
  rw [show x * 1073741824 % 4294967296 = x % 4 * ((2^30 : Nat) : Int) by simp only [Nat.reducePow]; omega, or_sum32 30 (by omega) (by omega) (by simp only [Nat.reducePow]; omega) (by simp only [Nat.reducePow]; omega)]
  unfold rotr
  simp only [Nat.reducePow, Nat.reduceSub, Int.reducePow]
  omega
set_option maxHeartbeats 4000000 in
theorem turned2 (x : Int) (w : World) (hx : U32 x) :
    Calls Tryd.prog 54 #[.int .u32 x, .int .i64 2] w fun e w' => e = .returned (.int .u32 (rotr x 2)) ∧ w' = w := by
  have HR := hide (rot2 hx)
  obtain ⟨x0, x1⟩ := hx
  have hb : bits .and .u64 (IntKind.u64.wrap (-2)) 31 = 30 := by decide
  go_enter Tryd.func54, Tryd.ntmps54
  go_wp2_with fail
  go_enter Tryd.func55, Tryd.ntmps55
  go_wp2
  go_ret
  go_wp2
  exact HR.out
theorem rot6 {x : Int} (hx : U32 x) : bits .or .u32 (x * 67108864 % 4294967296) (x / 64) = rotr x 6 := by
  obtain ⟨x0, x1⟩ := hx
  rw [show x * 67108864 % 4294967296 = x % 64 * ((2^26 : Nat) : Int) by simp only [Nat.reducePow]; omega, or_sum32 26 (by omega) (by omega) (by simp only [Nat.reducePow]; omega) (by simp only [Nat.reducePow]; omega)]
  unfold rotr
  simp only [Nat.reducePow, Nat.reduceSub, Int.reducePow]
  omega
set_option maxHeartbeats 4000000 in
theorem turned6 (x : Int) (w : World) (hx : U32 x) :
    Calls Tryd.prog 54 #[.int .u32 x, .int .i64 6] w fun e w' => e = .returned (.int .u32 (rotr x 6)) ∧ w' = w := by
  have HR := hide (rot6 hx)
  obtain ⟨x0, x1⟩ := hx
  have hb : bits .and .u64 (IntKind.u64.wrap (-6)) 31 = 26 := by decide
  go_enter Tryd.func54, Tryd.ntmps54
  go_wp2_with fail
  go_enter Tryd.func55, Tryd.ntmps55
  go_wp2
  go_ret
  go_wp2
  exact HR.out
theorem rot7 {x : Int} (hx : U32 x) : bits .or .u32 (x * 33554432 % 4294967296) (x / 128) = rotr x 7 := by
  obtain ⟨x0, x1⟩ := hx
  rw [show x * 33554432 % 4294967296 = x % 128 * ((2^25 : Nat) : Int) by simp only [Nat.reducePow]; omega, or_sum32 25 (by omega) (by omega) (by simp only [Nat.reducePow]; omega) (by simp only [Nat.reducePow]; omega)]
  unfold rotr
  simp only [Nat.reducePow, Nat.reduceSub, Int.reducePow]
  omega
set_option maxHeartbeats 4000000 in
theorem turned7 (x : Int) (w : World) (hx : U32 x) :
    Calls Tryd.prog 54 #[.int .u32 x, .int .i64 7] w fun e w' => e = .returned (.int .u32 (rotr x 7)) ∧ w' = w := by
  have HR := hide (rot7 hx)
  obtain ⟨x0, x1⟩ := hx
  have hb : bits .and .u64 (IntKind.u64.wrap (-7)) 31 = 25 := by decide
  go_enter Tryd.func54, Tryd.ntmps54
  go_wp2_with fail
  go_enter Tryd.func55, Tryd.ntmps55
  go_wp2
  go_ret
  go_wp2
  exact HR.out
theorem rot11 {x : Int} (hx : U32 x) : bits .or .u32 (x * 2097152 % 4294967296) (x / 2048) = rotr x 11 := by
  obtain ⟨x0, x1⟩ := hx
  rw [show x * 2097152 % 4294967296 = x % 2048 * ((2^21 : Nat) : Int) by simp only [Nat.reducePow]; omega, or_sum32 21 (by omega) (by omega) (by simp only [Nat.reducePow]; omega) (by simp only [Nat.reducePow]; omega)]
  unfold rotr
  simp only [Nat.reducePow, Nat.reduceSub, Int.reducePow]
  omega
set_option maxHeartbeats 4000000 in
theorem turned11 (x : Int) (w : World) (hx : U32 x) :
    Calls Tryd.prog 54 #[.int .u32 x, .int .i64 11] w fun e w' => e = .returned (.int .u32 (rotr x 11)) ∧ w' = w := by
  have HR := hide (rot11 hx)
  obtain ⟨x0, x1⟩ := hx
  have hb : bits .and .u64 (IntKind.u64.wrap (-11)) 31 = 21 := by decide
  go_enter Tryd.func54, Tryd.ntmps54
  go_wp2_with fail
  go_enter Tryd.func55, Tryd.ntmps55
  go_wp2
  go_ret
  go_wp2
  exact HR.out
theorem rot13 {x : Int} (hx : U32 x) : bits .or .u32 (x * 524288 % 4294967296) (x / 8192) = rotr x 13 := by
  obtain ⟨x0, x1⟩ := hx
  rw [show x * 524288 % 4294967296 = x % 8192 * ((2^19 : Nat) : Int) by simp only [Nat.reducePow]; omega, or_sum32 19 (by omega) (by omega) (by simp only [Nat.reducePow]; omega) (by simp only [Nat.reducePow]; omega)]
  unfold rotr
  simp only [Nat.reducePow, Nat.reduceSub, Int.reducePow]
  omega
set_option maxHeartbeats 4000000 in
theorem turned13 (x : Int) (w : World) (hx : U32 x) :
    Calls Tryd.prog 54 #[.int .u32 x, .int .i64 13] w fun e w' => e = .returned (.int .u32 (rotr x 13)) ∧ w' = w := by
  have HR := hide (rot13 hx)
  obtain ⟨x0, x1⟩ := hx
  have hb : bits .and .u64 (IntKind.u64.wrap (-13)) 31 = 19 := by decide
  go_enter Tryd.func54, Tryd.ntmps54
  go_wp2_with fail
  go_enter Tryd.func55, Tryd.ntmps55
  go_wp2
  go_ret
  go_wp2
  exact HR.out
theorem rot17 {x : Int} (hx : U32 x) : bits .or .u32 (x * 32768 % 4294967296) (x / 131072) = rotr x 17 := by
  obtain ⟨x0, x1⟩ := hx
  rw [show x * 32768 % 4294967296 = x % 131072 * ((2^15 : Nat) : Int) by simp only [Nat.reducePow]; omega, or_sum32 15 (by omega) (by omega) (by simp only [Nat.reducePow]; omega) (by simp only [Nat.reducePow]; omega)]
  unfold rotr
  simp only [Nat.reducePow, Nat.reduceSub, Int.reducePow]
  omega
set_option maxHeartbeats 4000000 in
theorem turned17 (x : Int) (w : World) (hx : U32 x) :
    Calls Tryd.prog 54 #[.int .u32 x, .int .i64 17] w fun e w' => e = .returned (.int .u32 (rotr x 17)) ∧ w' = w := by
  have HR := hide (rot17 hx)
  obtain ⟨x0, x1⟩ := hx
  have hb : bits .and .u64 (IntKind.u64.wrap (-17)) 31 = 15 := by decide
  go_enter Tryd.func54, Tryd.ntmps54
  go_wp2_with fail
  go_enter Tryd.func55, Tryd.ntmps55
  go_wp2
  go_ret
  go_wp2
  exact HR.out
theorem rot18 {x : Int} (hx : U32 x) : bits .or .u32 (x * 16384 % 4294967296) (x / 262144) = rotr x 18 := by
  obtain ⟨x0, x1⟩ := hx
  rw [show x * 16384 % 4294967296 = x % 262144 * ((2^14 : Nat) : Int) by simp only [Nat.reducePow]; omega, or_sum32 14 (by omega) (by omega) (by simp only [Nat.reducePow]; omega) (by simp only [Nat.reducePow]; omega)]
  unfold rotr
  simp only [Nat.reducePow, Nat.reduceSub, Int.reducePow]
  omega
set_option maxHeartbeats 4000000 in
theorem turned18 (x : Int) (w : World) (hx : U32 x) :
    Calls Tryd.prog 54 #[.int .u32 x, .int .i64 18] w fun e w' => e = .returned (.int .u32 (rotr x 18)) ∧ w' = w := by
  have HR := hide (rot18 hx)
  obtain ⟨x0, x1⟩ := hx
  have hb : bits .and .u64 (IntKind.u64.wrap (-18)) 31 = 14 := by decide
  go_enter Tryd.func54, Tryd.ntmps54
  go_wp2_with fail
  go_enter Tryd.func55, Tryd.ntmps55
  go_wp2
  go_ret
  go_wp2
  exact HR.out
theorem rot19 {x : Int} (hx : U32 x) : bits .or .u32 (x * 8192 % 4294967296) (x / 524288) = rotr x 19 := by
  obtain ⟨x0, x1⟩ := hx
  rw [show x * 8192 % 4294967296 = x % 524288 * ((2^13 : Nat) : Int) by simp only [Nat.reducePow]; omega, or_sum32 13 (by omega) (by omega) (by simp only [Nat.reducePow]; omega) (by simp only [Nat.reducePow]; omega)]
  unfold rotr
  simp only [Nat.reducePow, Nat.reduceSub, Int.reducePow]
  omega
set_option maxHeartbeats 4000000 in
theorem turned19 (x : Int) (w : World) (hx : U32 x) :
    Calls Tryd.prog 54 #[.int .u32 x, .int .i64 19] w fun e w' => e = .returned (.int .u32 (rotr x 19)) ∧ w' = w := by
  have HR := hide (rot19 hx)
  obtain ⟨x0, x1⟩ := hx
  have hb : bits .and .u64 (IntKind.u64.wrap (-19)) 31 = 13 := by decide
  go_enter Tryd.func54, Tryd.ntmps54
  go_wp2_with fail
  go_enter Tryd.func55, Tryd.ntmps55
  go_wp2
  go_ret
  go_wp2
  exact HR.out
theorem rot22 {x : Int} (hx : U32 x) : bits .or .u32 (x * 1024 % 4294967296) (x / 4194304) = rotr x 22 := by
  obtain ⟨x0, x1⟩ := hx
  rw [show x * 1024 % 4294967296 = x % 4194304 * ((2^10 : Nat) : Int) by simp only [Nat.reducePow]; omega, or_sum32 10 (by omega) (by omega) (by simp only [Nat.reducePow]; omega) (by simp only [Nat.reducePow]; omega)]
  unfold rotr
  simp only [Nat.reducePow, Nat.reduceSub, Int.reducePow]
  omega
set_option maxHeartbeats 4000000 in
theorem turned22 (x : Int) (w : World) (hx : U32 x) :
    Calls Tryd.prog 54 #[.int .u32 x, .int .i64 22] w fun e w' => e = .returned (.int .u32 (rotr x 22)) ∧ w' = w := by
  have HR := hide (rot22 hx)
  obtain ⟨x0, x1⟩ := hx
  have hb : bits .and .u64 (IntKind.u64.wrap (-22)) 31 = 10 := by decide
  go_enter Tryd.func54, Tryd.ntmps54
  go_wp2_with fail
  go_enter Tryd.func55, Tryd.ntmps55
  go_wp2
  go_ret
  go_wp2
  exact HR.out
theorem rot25 {x : Int} (hx : U32 x) : bits .or .u32 (x * 128 % 4294967296) (x / 33554432) = rotr x 25 := by
  obtain ⟨x0, x1⟩ := hx
  rw [show x * 128 % 4294967296 = x % 33554432 * ((2^7 : Nat) : Int) by simp only [Nat.reducePow]; omega, or_sum32 7 (by omega) (by omega) (by simp only [Nat.reducePow]; omega) (by simp only [Nat.reducePow]; omega)]
  unfold rotr
  simp only [Nat.reducePow, Nat.reduceSub, Int.reducePow]
  omega
set_option maxHeartbeats 4000000 in
theorem turned25 (x : Int) (w : World) (hx : U32 x) :
    Calls Tryd.prog 54 #[.int .u32 x, .int .i64 25] w fun e w' => e = .returned (.int .u32 (rotr x 25)) ∧ w' = w := by
  have HR := hide (rot25 hx)
  obtain ⟨x0, x1⟩ := hx
  have hb : bits .and .u64 (IntKind.u64.wrap (-25)) 31 = 7 := by decide
  go_enter Tryd.func54, Tryd.ntmps54
  go_wp2_with fail
  go_enter Tryd.func55, Tryd.ntmps55
  go_wp2
  go_ret
  go_wp2
  exact HR.out
end Go.Proofs.YtjkhboejhcbdpaaDoor
