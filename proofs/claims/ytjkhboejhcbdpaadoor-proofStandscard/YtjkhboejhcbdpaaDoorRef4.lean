/- Contracts of sponsionref04's Num and Int over this translation. -/
import Derived.Test.YtjkhboejhcbdpaaDoorPackWriter
import Derived.Laws.Concat
import Derived.Deep.RegionHeld3
namespace Go.Proofs.YtjkhboejhcbdpaaDoor
open Go.RowKit Go.Lib
attribute [local go_sem] setCell_drewN alloc_drewN

theorem str_append (a b : List Int) : strOfNums a ++ strOfNums b = strOfNums (a ++ b) := by
  unfold strOfNums
  rw [Go.ByteArray.mk_append_mk, List.map_append]
theorem ret_str {a b : ByteArray} (h : a = b) : Ending.returned (.string a) = .returned (.string b) := by rw [h]
theorem str_nil : (⟨#[]⟩ : ByteArray) = strOfNums [] := rfl
theorem conv1 (w : World) (d : Int) : (convert 67 9 (.slice (some ⟨w.heap.size, 0, none⟩) 1 1)).run Tryd.prog (w.alloc (.cells #[.int .u8 d] 5)) = .ok (.string (strOfNums [d])) (w.alloc (.cells #[.int .u8 d] 5)) :=
  run_convert_bytes_arg _ 67 5 Tryd.underlying67 Tryd.underlying5 w.heap.size 0 1 1 [d] rfl (fun i hi => by
    obtain rfl : i = 0 := by omega
    rw [World.cell?_alloc_at _ _ _ _ rfl]; rfl) 9 Tryd.underlying9
/-- The last j bytes of a number. -/
def low (x : Int) (j : Nat) : List Int := (List.range j).map fun i => x / 256 ^ (j - 1 - i) % 256
theorem low_length (x : Int) (j : Nat) : (low x j).length = j := by simp [low]
theorem low_cons (x : Int) (j : Nat) : low x (j + 1) = (x / 256 ^ j % 256) :: low x j := by
  unfold low
  rw [List.range_succ_eq_map, List.map_cons, List.map_map]
  congr 1
  apply List.map_congr_left
  intro i hi
  simp only [Function.comp]
  rw [show j + 1 - 1 - (i + 1) = j - 1 - i by omega]
theorem pow_256 (n : Nat) : (2 : Int) ^ (8 * n) = 256 ^ n := by
  rw [Int.pow_mul]; rfl
theorem low_be (x : Int) (k : Nat) : low x k = be x k := by
  unfold low be pre
  apply List.map_congr_left
  intro i _
  rw [pow_256]
set_option maxHeartbeats 4000000 in
theorem num_any (x : Int) (k : Nat) (w : World) (h0 : 0 ≤ x) (h1 : x < 18446744073709551616) (hk : k ≤ 8) :
    Calls Tryd.prog 47 #[.int .u64 x, .int .i64 k] w fun e w' => e = .returned (.string (strOfNums (be x k))) ∧ Below w.heap.size w w' := by
  have hki : (k : Int) ≤ 8 := by omega
  go_enter Tryd.func47, Tryd.ntmps47
  go_wp2
  go_loopw [0, 5, 7] (fun t0 t5 t7 wr => ∃ j : Nat, j ≤ k ∧ t7 = .int .i64 j ∧ t0 = .int .u64 (x / 256 ^ j) ∧ t5 = .string (strOfNums (low x j)) ∧ Below w.heap.size w wr) (fun _ _ t _ => k - (intOf t).toNat)
  case atStart => exact ⟨0, by omega, rfl, by simp, rfl, bMe w⟩
  case round =>
    obtain ⟨j, hj, rfl, rfl, rfl, hb⟩ := hrel
    have HB := hide hb
    clear hb
    by_cases hlt : j < k
    · have hji : (j : Int) < (k : Int) := by omega
      have p0 : (0 : Int) < 256 ^ j := Int.pow_pos (by decide)
      have y0 : 0 ≤ x / 256 ^ j := Int.ediv_nonneg h0 (by omega)
      have y1 : x / 256 ^ j < 18446744073709551616 := Int.lt_of_le_of_lt (Int.ediv_le_self _ h0) h1
      have hn : x / 256 ^ (j + 1) = x / 256 ^ j / 256 := by rw [Int.pow_succ, Int.ediv_ediv_of_nonneg (by omega)]
      have HL : Hid (strOfNums (low x (j + 1)) = strOfNums [x / 256 ^ j % 256] ++ strOfNums (low x j)) := by
        show _ = _
        rw [low_cons, str_append]; rfl
      have HN := hide hn
      have hs : (strOfNums (low x j)).size = j := by rw [strOfNums_size, low_length]
      clear hn p0
      generalize x / 256 ^ j = y at *
      have hcv := conv1 wr (y % 256)
      have hs1 : (strOfNums [y % 256]).size = 1 := by rw [strOfNums_size]; rfl
      go_wp2
      go_roundw
      case rel => exact ⟨j + 1, by omega, by go_num, by rw [HN.out], by rw [HL.out], bAl HB.out⟩
      case measure => simp [intOf]; omega
    · obtain rfl : j = k := by omega
      have HE : Hid (low x j = be x j) := low_be x j
      go_wp2
      go_ret
      exact ⟨ret_str (by rw [HE.out]), HB.out⟩
/-- A number's 32 bytes, eight by eight. -/
theorem b32_four {a : Int} (ha : In a) : b32 a = be (lm a 3) 8 ++ be (lm a 2) 8 ++ be (lm a 1) 8 ++ be (lm a 0) 8 := by
  unfold b32 be pre
  rw [show List.range 32 = [0, 1, 2, 3, 4, 5, 6, 7, 8, 9, 10, 11, 12, 13, 14, 15, 16, 17, 18, 19, 20, 21, 22, 23, 24, 25, 26, 27, 28, 29, 30, 31] from rfl, show List.range 8 = [0, 1, 2, 3, 4, 5, 6, 7] from rfl]
  have key : ∀ k q, k < 32 → k / 8 = q → lm a q / 2 ^ (k % 8 * 8) % 256 = bt a (31 - k) := fun k q hk hq => byte_of ha hk hq
  simp only [List.map_cons, List.map_nil, List.cons_append, List.nil_append]
  have e0 : bt a 0 = lm a 3 / 2 ^ (8 * (8 - 1 - 0)) % 256 := (key 31 3 (by omega) rfl).symm
  have e1 : bt a 1 = lm a 3 / 2 ^ (8 * (8 - 1 - 1)) % 256 := (key 30 3 (by omega) rfl).symm
  have e2 : bt a 2 = lm a 3 / 2 ^ (8 * (8 - 1 - 2)) % 256 := (key 29 3 (by omega) rfl).symm
  have e3 : bt a 3 = lm a 3 / 2 ^ (8 * (8 - 1 - 3)) % 256 := (key 28 3 (by omega) rfl).symm
  have e4 : bt a 4 = lm a 3 / 2 ^ (8 * (8 - 1 - 4)) % 256 := (key 27 3 (by omega) rfl).symm
  have e5 : bt a 5 = lm a 3 / 2 ^ (8 * (8 - 1 - 5)) % 256 := (key 26 3 (by omega) rfl).symm
  have e6 : bt a 6 = lm a 3 / 2 ^ (8 * (8 - 1 - 6)) % 256 := (key 25 3 (by omega) rfl).symm
  have e7 : bt a 7 = lm a 3 / 2 ^ (8 * (8 - 1 - 7)) % 256 := (key 24 3 (by omega) rfl).symm
  have e8 : bt a 8 = lm a 2 / 2 ^ (8 * (8 - 1 - 0)) % 256 := (key 23 2 (by omega) rfl).symm
  have e9 : bt a 9 = lm a 2 / 2 ^ (8 * (8 - 1 - 1)) % 256 := (key 22 2 (by omega) rfl).symm
  have e10 : bt a 10 = lm a 2 / 2 ^ (8 * (8 - 1 - 2)) % 256 := (key 21 2 (by omega) rfl).symm
  have e11 : bt a 11 = lm a 2 / 2 ^ (8 * (8 - 1 - 3)) % 256 := (key 20 2 (by omega) rfl).symm
  have e12 : bt a 12 = lm a 2 / 2 ^ (8 * (8 - 1 - 4)) % 256 := (key 19 2 (by omega) rfl).symm
  have e13 : bt a 13 = lm a 2 / 2 ^ (8 * (8 - 1 - 5)) % 256 := (key 18 2 (by omega) rfl).symm
  have e14 : bt a 14 = lm a 2 / 2 ^ (8 * (8 - 1 - 6)) % 256 := (key 17 2 (by omega) rfl).symm
  have e15 : bt a 15 = lm a 2 / 2 ^ (8 * (8 - 1 - 7)) % 256 := (key 16 2 (by omega) rfl).symm
  have e16 : bt a 16 = lm a 1 / 2 ^ (8 * (8 - 1 - 0)) % 256 := (key 15 1 (by omega) rfl).symm
  have e17 : bt a 17 = lm a 1 / 2 ^ (8 * (8 - 1 - 1)) % 256 := (key 14 1 (by omega) rfl).symm
  have e18 : bt a 18 = lm a 1 / 2 ^ (8 * (8 - 1 - 2)) % 256 := (key 13 1 (by omega) rfl).symm
  have e19 : bt a 19 = lm a 1 / 2 ^ (8 * (8 - 1 - 3)) % 256 := (key 12 1 (by omega) rfl).symm
  have e20 : bt a 20 = lm a 1 / 2 ^ (8 * (8 - 1 - 4)) % 256 := (key 11 1 (by omega) rfl).symm
  have e21 : bt a 21 = lm a 1 / 2 ^ (8 * (8 - 1 - 5)) % 256 := (key 10 1 (by omega) rfl).symm
  have e22 : bt a 22 = lm a 1 / 2 ^ (8 * (8 - 1 - 6)) % 256 := (key 9 1 (by omega) rfl).symm
  have e23 : bt a 23 = lm a 1 / 2 ^ (8 * (8 - 1 - 7)) % 256 := (key 8 1 (by omega) rfl).symm
  have e24 : bt a 24 = lm a 0 / 2 ^ (8 * (8 - 1 - 0)) % 256 := (key 7 0 (by omega) rfl).symm
  have e25 : bt a 25 = lm a 0 / 2 ^ (8 * (8 - 1 - 1)) % 256 := (key 6 0 (by omega) rfl).symm
  have e26 : bt a 26 = lm a 0 / 2 ^ (8 * (8 - 1 - 2)) % 256 := (key 5 0 (by omega) rfl).symm
  have e27 : bt a 27 = lm a 0 / 2 ^ (8 * (8 - 1 - 3)) % 256 := (key 4 0 (by omega) rfl).symm
  have e28 : bt a 28 = lm a 0 / 2 ^ (8 * (8 - 1 - 4)) % 256 := (key 3 0 (by omega) rfl).symm
  have e29 : bt a 29 = lm a 0 / 2 ^ (8 * (8 - 1 - 5)) % 256 := (key 2 0 (by omega) rfl).symm
  have e30 : bt a 30 = lm a 0 / 2 ^ (8 * (8 - 1 - 6)) % 256 := (key 1 0 (by omega) rfl).symm
  have e31 : bt a 31 = lm a 0 / 2 ^ (8 * (8 - 1 - 7)) % 256 := (key 0 0 (by omega) rfl).symm
  rw [e0, e1, e2, e3, e4, e5, e6, e7, e8, e9, e10, e11, e12, e13, e14, e15, e16, e17, e18, e19, e20, e21, e22, e23, e24, e25, e26, e27, e28, e29, e30, e31]
end Go.Proofs.YtjkhboejhcbdpaaDoor
