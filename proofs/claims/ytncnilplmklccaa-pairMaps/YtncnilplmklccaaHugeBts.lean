/- The contract of huge.Bytes over this translation. -/
import Derived.Test.YtncnilplmklccaaBRow
namespace Go.Proofs.Ytncnilplmklccaa
open Go.RowKit Go.Lib

theorem infoBytes : (Try.prog.info? 123).map (·.size) = some 32 := by kernel_rfl
theorem info_row (f : Nat → Int) : (Try.prog.info? 123).map (·.size) = some (rowV 32 f).length := by rw [rowV_length]; exact infoBytes
theorem info_arr (f : Nat → Int) : (Try.prog.info? 123).map (·.size) = some (rowV 32 f).toArray.size := by rw [List.size_toArray, rowV_length]; exact infoBytes
/-- The bytes, as far as they are written. -/
def bk (a : Int) (k j : Nat) : Int := if 31 - j < k then bt a j else 0
theorem bytes_next {a : Int} {k j : Nat} (hj : j < 32) (hk : k < 32) : (if j = 31 - k then bt a (31 - k) else bk a k j) = bk a (k + 1) j := by
  unfold bk
  by_cases e : j = 31 - k
  · subst e; rw [if_pos rfl, if_pos (by omega)]
  · rw [if_neg e]
    by_cases h : 31 - j < k
    · rw [if_pos h, if_pos (by omega)]
    · rw [if_neg h, if_neg (by omega)]
theorem bytes_all {a : Int} {j : Nat} (hj : j < 32) : bk a 32 j = bt a j := by
  unfold bk; rw [if_pos (by omega)]

theorem results_one {P : Program} {fn : Func} {p : Tmp} {ty : TypeId} (h : fn.results = #[.cell p ty]) {tmps : Array Value} {w : World} {ad : Addr} {v : Value} (hp : tmps.getD p undef = .pointer (some ad)) (hl : (loadVar ty ad).run P w = .ok v w) :
    (results fn tmps).run P w = .ok v w := by
  have hp' : tmps[p]?.getD undef = .pointer (some ad) := by simpa using hp
  simp [results, h, hp', asAddr, hl]

set_option maxHeartbeats 2000000 in
theorem bytes_any (a : Int) (w : World) (ha : In a) :
    Calls Try.prog 64 #[big a] w fun e w' => e = .returned (.agg (rowV 32 (bt a)).toArray) ∧ Below w.heap.size w w' := by
  have HI := hide ha
  clear ha
  go_enter Try.func64, Try.ntmps64
  go_wp2
  go_loopw [5] (fun t wr => ∃ k : Nat, k ≤ 32 ∧ t = .int .i64 k ∧ Below w.heap.size w wr ∧ Own wr w.heap.size (lm a 0) (lm a 1) (lm a 2) (lm a 3) ∧ BRow wr (w.heap.size + 1) 32 (fun _ => 0) ∧ BRow wr (w.heap.size + 1 + 1) 32 (bk a k)) (fun t _ => 32 - (intOf t).toNat)
  case atStart =>
    refine ⟨0, by omega, rfl, bAl (bAl (bAl (bMe w))), ((Own.new w _ _ _ _ _).past _).past _, (BRow.new _ 32 _ (by simp)).past _, ?_⟩
    exact (BRow.new _ 32 _ (by simp)).congr (fun j _ => by unfold bk; rw [if_neg (by omega)])
  case round =>
    obtain ⟨k, hk, rfl, hb, o1, r2, r3⟩ := hrel
    have HB := hide hb; have O1 := hide o1; have R2 := hide r2; have R3 := hide r3
    clear hb r2 r3
    by_cases hlt : k < 32
    · obtain ⟨_, x0, x1, x2, x3, _⟩ := o1
      have hki : (k : Int) < 32 := by omega
      have hc3 := R3.out.cell (31 - k) (by omega)
      have hf3 := R3.out.fr (31 - k)
      have hc : k / 8 = 0 ∨ k / 8 = 1 ∨ k / 8 = 2 ∨ k / 8 = 3 := by omega
      rcases hc with hc | hc | hc | hc
      · have hq5 : (k : Int) / 8 = 0 := by omega
        have e := byte_of HI.out hlt hc
        have HC := hide hc; have HE := hide e
        clear hc e
        have lb := (lm_bd a 0).1
        go_wp2
        go_roundw
        case rel =>
          refine ⟨k + 1, by omega, by go_num, HB.out.setCell (by simp only []; omega) _, O1.out.set (by simp only []; omega) _, R2.out.other (by simp only []; omega) _, ?_⟩
          rw [HE.out]
          refine (R3.out.set (31 - k) (by omega) _).congr (fun j hj => ?_)
          exact bytes_next hj hlt
        case measure => simp [intOf]; omega
      · have hq5 : (k : Int) / 8 = 1 := by omega
        have e := byte_of HI.out hlt hc
        have HC := hide hc; have HE := hide e
        clear hc e
        have lb := (lm_bd a 1).1
        go_wp2
        go_roundw
        case rel =>
          refine ⟨k + 1, by omega, by go_num, HB.out.setCell (by simp only []; omega) _, O1.out.set (by simp only []; omega) _, R2.out.other (by simp only []; omega) _, ?_⟩
          rw [HE.out]
          refine (R3.out.set (31 - k) (by omega) _).congr (fun j hj => ?_)
          exact bytes_next hj hlt
        case measure => simp [intOf]; omega
      · have hq5 : (k : Int) / 8 = 2 := by omega
        have e := byte_of HI.out hlt hc
        have HC := hide hc; have HE := hide e
        clear hc e
        have lb := (lm_bd a 2).1
        go_wp2
        go_roundw
        case rel =>
          refine ⟨k + 1, by omega, by go_num, HB.out.setCell (by simp only []; omega) _, O1.out.set (by simp only []; omega) _, R2.out.other (by simp only []; omega) _, ?_⟩
          rw [HE.out]
          refine (R3.out.set (31 - k) (by omega) _).congr (fun j hj => ?_)
          exact bytes_next hj hlt
        case measure => simp [intOf]; omega
      · have hq5 : (k : Int) / 8 = 3 := by omega
        have e := byte_of HI.out hlt hc
        have HC := hide hc; have HE := hide e
        clear hc e
        have lb := (lm_bd a 3).1
        go_wp2
        go_roundw
        case rel =>
          refine ⟨k + 1, by omega, by go_num, HB.out.setCell (by simp only []; omega) _, O1.out.set (by simp only []; omega) _, R2.out.other (by simp only []; omega) _, ?_⟩
          rw [HE.out]
          refine (R3.out.set (31 - k) (by omega) _).congr (fun j hj => ?_)
          exact bytes_next hj hlt
        case measure => simp [intOf]; omega
    · obtain rfl : k = 32 := by omega
      clear o1
      have R := hide (R3.out.congr (fun j hj => bytes_all hj))
      have hst := R2.out.storing (P := Try.prog) (bt a)
      go_wp2_with (refine wpList_load_mid rfl 123 _ rfl (w.heap.size + 1 + 1) 0 rfl (rowV 32 (bt a)) _ R.out.range Try.underlying123 rfl (info_row _) ?_)
      refine bodyPost_ret (v := .agg (rowV 32 (bt a)).toArray) ?_ rfl ⟨rfl, setCells_below HB.out (by omega) _ _⟩
      have hlv := run_loadVar_mid (P := Try.prog) _ _ _ _ _ _ (R2.out.stored (bt a)).range Try.underlying123 rfl (info_row (bt a))
      exact results_one Try.results64 rfl hlv
end Go.Proofs.Ytncnilplmklccaa
