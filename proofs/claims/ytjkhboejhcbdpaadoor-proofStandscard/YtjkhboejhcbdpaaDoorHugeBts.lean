/- The contract of huge.Bytes over this translation. -/
import Derived.Test.YtjkhboejhcbdpaaDoorBRow
namespace Go.Proofs.YtjkhboejhcbdpaaDoor
open Go.RowKit Go.Lib

theorem infoBytes : (Tryd.prog.info? 27).map (·.size) = some 32 := by kernel_rfl
theorem info_row (f : Nat → Int) : (Tryd.prog.info? 27).map (·.size) = some (rowV 32 f).length := by rw [rowV_length]; exact infoBytes
theorem info_arr (f : Nat → Int) : (Tryd.prog.info? 27).map (·.size) = some (rowV 32 f).toArray.size := by rw [List.size_toArray, rowV_length]; exact infoBytes
/-- The bytes, as far as they are written. -/
def bk (a : Int) (k j : Nat) : Int := if 31 - j < k then bt a j else 0
theorem bytes_next {a : Int} {k j : Nat} (hj : j < 32) (hk : k < 32) : (if j = 31 - k then bt a (31 - k) else bk a k j) = bk a (k + 1) j := by
  unfold bk
  by_cases e : j = 31 - k
  · subst e; rw [if_pos rfl, if_pos (by omega)]
  · rw [if_neg e]
    by_cases h : 31 - j < k
    · rw [if_pos h, if_pos (by omega)]
    · rw [if_neg h, if_neg (by omega)]
theorem bytes_all {a : Int} {j : Nat} (hj : j < 32) : bk a 32 j = bt a j := by
  unfold bk; rw [if_pos (by omega)]

theorem results_one {P : Program} {fn : Func} {p : Tmp} {ty : TypeId} (h : fn.results = #[.cell p ty]) {tmps : Array Value} {w : World} {ad : Addr} {v : Value} (hp : tmps.getD p undef = .pointer (some ad)) (hl : (loadVar ty ad).run P w = .ok v w) :
    (results fn tmps).run P w = .ok v w := by
  have hp' : tmps[p]?.getD undef = .pointer (some ad) := by simpa using hp
  simp [results, h, hp', asAddr, hl]

end Go.Proofs.YtjkhboejhcbdpaaDoor
