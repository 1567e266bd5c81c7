/- The contract of huge.isDecimal over this translation; decimal texts as numbers. -/
import Derived.Test.YtnpffefebghnbaaHugeBase
namespace Go.Proofs.Ytnpffefebghnbaa
open Go.RowKit Go.Lib

/-- The number of a row of decimal digits. -/
def dec (l : List UInt8) : Int := l.foldl (fun n c => n * 10 + ((c.toNat : Int) - 48)) 0
/-- A decimal digit. -/
def dgt (c : UInt8) : Bool := 48 ≤ c.toNat && c.toNat ≤ 57
/-- Is it a decimal text, without noughts ahead? -/
def decimal (l : List UInt8) : Bool := match l with
  | [] => false
  | c :: r => l.all dgt && !(c.toNat == 48 && !r.isEmpty)

theorem take_one (s : ByteArray) (k : Nat) (h : k < s.size) : s.data.toList.take (k + 1) = s.data.toList.take k ++ [s[k]] := by
  rw [List.take_succ_eq_append_getElem (by simpa using h)]; rfl
theorem ret_bool {a b : Bool} (h : a = b) : Ending.returned (.bool a) = .returned (.bool b) := by rw [h]
theorem decimal_nil : decimal [] = false := rfl
theorem decimal_bad {l : List UInt8} {k : Nat} (hk : k < l.length) (h : dgt l[k] = false) : decimal l = false := by
  unfold decimal
  split
  · rfl
  · rename_i c r
    have : List.all (c :: r) dgt = false := by
      rw [List.all_eq_false]
      exact ⟨_, List.getElem_mem hk, by simp [h]⟩
    rw [this]; rfl
theorem decimal_nought {l : List UInt8} (h0 : 0 < l.length) (h : l[0].toNat = 48) (h1 : l ≠ [48]) : decimal l = false := by
  match l, h0, h, h1 with
  | [c], _, h, h1 => simp at h; exact absurd (by rw [UInt8.toNat_inj.1 (show c.toNat = (48 : UInt8).toNat from h)]) h1
  | c :: d :: r, _, h, _ => simp at h; simp [decimal, h]
theorem decimal_good {l : List UInt8} (h0 : 0 < l.length) (ha : l.all dgt = true) (h : l[0].toNat ≠ 48 ∨ l = [48]) : decimal l = true := by
  rcases h with h | h
  · match l, h0, ha, h with
    | c :: r, _, ha, h => simp at h; simp [decimal, h]; simpa using ha
  · subst h; rfl
theorem all_snoc {l : List UInt8} {c : UInt8} (h : l.all dgt = true) (hc : dgt c = true) : (l ++ [c]).all dgt = true := by
  rw [List.all_append, h]; simp [hc]
theorem dgt_of {c : UInt8} (h0 : 48 ≤ (c.toNat : Int)) (h1 : (c.toNat : Int) ≤ 57) : dgt c = true := by
  unfold dgt; simp; omega
theorem dgt_low {c : UInt8} (h0 : (c.toNat : Int) < 48) : dgt c = false := by
  unfold dgt; simp; omega
theorem dgt_high {c : UInt8} (h0 : 57 < (c.toNat : Int)) : dgt c = false := by
  unfold dgt; simp; omega
theorem list_get (s : ByteArray) (k : Nat) (h : k < s.size) : s.data.toList[k]'(by simpa using h) = s[k] := rfl

theorem isdec_nil (s : ByteArray) (w : World) (h : s.data.toList = []) :
    Calls Try.prog 41 #[.string s] w fun e w' => e = .returned (.bool false) ∧ w' = w := by
  have h0 : s.toList = [] := by rw [ByteArray.toList_eq, h]
  clear h
  go_enter Try.func41, Try.ntmps41
  go_wp2
  go_ret
  exact ⟨rfl, rfl⟩
theorem isdec_nought (s : ByteArray) (w : World) (h0 : 0 < s.size) (h1 : (s[0].toNat : Int) = 48) (h2 : s.data.toList ≠ [48]) :
    Calls Try.prog 41 #[.string s] w fun e w' => e = .returned (.bool false) ∧ w' = w := by
  have e0 : s.toList.isEmpty = false := by rw [ByteArray.toList_eq]; cases hh : s.data.toList with
    | nil => have : s.data.toList.length = 0 := by rw [hh]; rfl
             simp at this; exact absurd h0 (by simp [ByteArray.size, this])
    | cons _ _ => rfl
  have e2 : (s.toList == [48]) = false := by rw [ByteArray.toList_eq]; simpa using h2
  clear h2
  go_enter Try.func41, Try.ntmps41
  go_wp2
  go_ret
  exact ⟨rfl, rfl⟩
set_option maxHeartbeats 1000000 in
theorem isdec_loop (s : ByteArray) (w : World) (hs : s.size ≤ maxLen) (h0 : 0 < s.size) (h1 : s[0].toNat ≠ 48 ∨ s.data.toList = [48]) :
    Calls Try.prog 41 #[.string s] w fun e w' => e = .returned (.bool (decimal s.data.toList)) ∧ w' = w := by
  unfold maxLen at hs
  have e0 : s.toList.isEmpty = false := by rw [ByteArray.toList_eq]; cases hh : s.data.toList with
    | nil => have : s.data.toList.length = 0 := by rw [hh]; rfl
             simp at this; exact absurd h0 (by simp [ByteArray.size, this])
    | cons _ _ => rfl
  have HG := hide h1
  have h1' : (s[0].toNat : Int) ≠ 48 ∨ ((s[0].toNat : Int) = 48 ∧ (s.toList == [48]) = true) := by
    by_cases h : (s[0].toNat : Int) = 48
    · right
      rcases h1 with h1 | h1
      · exact absurd (by omega) h1
      · exact ⟨h, by rw [ByteArray.toList_eq, h1]; rfl⟩
    · exact .inl h
  clear h1
  rcases h1' with h1 | ⟨h1, h2⟩
  all_goals
    go_enter Try.func41, Try.ntmps41
    go_wp2
    go_loop [17] (fun t => ∃ k : Nat, k ≤ s.size ∧ t = .int .i64 k ∧ (s.data.toList.take k).all dgt = true) (fun t => s.size - (intOf t).toNat)
    case atStart => exact ⟨0, Nat.zero_le _, rfl, rfl⟩
    case round =>
      obtain ⟨k, hk, rfl, ha⟩ := hrel
      have HA := hide ha
      clear ha
      by_cases hlt : k < s.size
      · by_cases hA : (s[k].toNat : Int) < 48
        · go_wp2
          go_ret
          exact ⟨ret_bool (decimal_bad (k := k) (by simpa using hlt) (dgt_low hA)).symm, rfl⟩
        · by_cases hB : 57 < (s[k].toNat : Int)
          · go_wp2
            go_ret
            exact ⟨ret_bool (decimal_bad (k := k) (by simpa using hlt) (dgt_high hB)).symm, rfl⟩
          · go_wp2
            go_round
            case rel => exact ⟨k + 1, by omega, by go_num, by rw [take_one s k hlt]; exact all_snoc HA.out (dgt_of (by omega) (by omega))⟩
            case measure => simp [intOf]; omega
      · go_wp2
        go_ret
        refine ⟨ret_bool (decimal_good (by simpa using h0) ?_ HG.out).symm, rfl⟩
        have := HA.out
        rw [List.take_of_length_le (by simp; omega)] at this
        exact this
theorem isdec_any (s : ByteArray) (w : World) (hs : s.size ≤ maxLen) :
    Calls Try.prog 41 #[.string s] w fun e w' => e = .returned (.bool (decimal s.data.toList)) ∧ w' = w := by
  by_cases h0 : 0 < s.size
  · by_cases h1 : s[0].toNat = 48
    · by_cases h2 : s.data.toList = [48]
      · exact isdec_loop s w hs h0 (.inr h2)
      · rw [decimal_nought (l := s.data.toList) (by simpa using h0) h1 h2]
        exact isdec_nought s w h0 (by omega) h2
    · exact isdec_loop s w hs h0 (.inl h1)
  · have : s.data.toList = [] := by
      have : s.data.toList.length = 0 := by rw [Array.length_toList]; exact Nat.eq_zero_of_not_pos h0
      exact List.length_eq_zero_iff.1 this
    rw [this, decimal_nil]
    exact isdec_nil s w this
end Go.Proofs.Ytnpffefebghnbaa
