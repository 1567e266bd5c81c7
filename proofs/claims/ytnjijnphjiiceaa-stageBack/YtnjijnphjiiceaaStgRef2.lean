/- The document's Drop and Get; the law's same, at like rows. -/
import Derived.Test.YtnjijnphjiiceaaStgRef
import Derived.Deep.QuietTactic
import Derived.BigQuiet
namespace Go.Proofs.Ytnjijnphjiiceaa
set_option linter.unusedSimpArgs false
set_option linter.unusedVariables false
set_option linter.unusedSectionVars false
open Go.RowKit Go.Lib
attribute [local go_sem] setCell_drewN alloc_drewN

theorem delL_snoc (k : Int) (L : Kvs) (p : Int × Int) : delL k (L ++ [p]) = if p.1 = k then delL k L else delL k L ++ [p] := by
  unfold delL
  rw [List.filter_append]
  by_cases h : p.1 = k <;> simp [h]
set_option maxHeartbeats 4000000 in
theorem rdrop_any {w : World} {ao : Option Addr} {cap : Nat} {l : Kvs} (hl : PRow w 0 (.slice ao l.length cap) l) (hlen : l.length ≤ 10000) (k : Int) :
    Calls Try.prog 11 #[.slice ao l.length cap, .int .i64 k] w fun e w' => ∃ ao' cap', e = .returned (.tuple #[.slice ao' (delL k l).length cap', .bool (decide ((delL k l).length < l.length))]) ∧ PRow w' w.heap.size (.slice ao' (delL k l).length cap') (delL k l) ∧ Below w.heap.size w w' := by
  obtain ⟨i0, hi, hz0, hz1, hz2⟩ := info_parts infoPair
  have HL := hide hl
  have hl1 : (l.length : Int) ≤ 10000 := by omega
  clear hl
  go_enter Try.func11, Try.ntmps11
  go_wp2
  go_loopw [6, 11] (fun o i wr => ∃ m : Nat, m ≤ l.length ∧ i = .int .i64 m ∧ PRow wr w.heap.size o (delL k (l.take m)) ∧ Below w.heap.size w wr) (fun _ i _ => l.length - (intOf i).toNat)
  case atStart => exact ⟨0, Nat.zero_le _, rfl, World.ownsRow_nil _ _ _ _, bMe w⟩
  case round =>
    obtain ⟨m, hm, rfl, hrow, hB⟩ := hrel
    by_cases hlt : m < l.length
    · have hx : l[m]? = some l[m] := List.getElem?_eq_getElem hlt
      have htk : l.take (m + 1) = l.take m ++ [l[m]] := by rw [List.take_succ_eq_append_getElem hlt]
      obtain ⟨g, rfl, hgl, c0, c1⟩ := (HL.out.below hB).get hx
      have hal := delL_length k (l.take m)
      rw [List.length_take] at hal
      generalize l[m] = p at *
      obtain ⟨p1, p2⟩ := p
      simp only at c0 c1
      obtain ⟨out, hs⟩ : ∃ out, delL k (l.take m) = out := ⟨_, rfl⟩
      have hacc : delL k (l.take (m + 1)) = if p1 = k then out else out ++ [(p1, p2)] := by rw [htk, delL_snoc, hs]
      rw [hs] at hal hrow
      have hol : (out.length : Int) ≤ 20000 := by omega
      obtain ⟨ao1, cap1, rfl, _, _⟩ := hrow.form
      have HACC := hide hacc
      have HROW := hide hrow
      have HB := hide hB
      have hng : g ≠ wr.heap.size := by omega
      clear hs hacc hrow hB hx htk hal
      by_cases he : p1 = k
      · go_wp2
        go_roundw
        case rel => exact ⟨m + 1, by omega, by simp, by rw [HACC.out, if_pos he]; exact HROW.out.below (bAl (bMe wr)), bAl HB.out⟩
        case measure => simp [intOf]; omega
      · go_wp2_with (at_builtin; refine wpList_append_own_at _ rfl _ _ 32 rfl w.heap.size 58 i0 (.agg #[.int .i64 0, .int .i64 0]) 2 16 Try.underlying32 hi hz0 hz1 hz2 rfl (by decide) _ (out.length) (eC out) rfl ((HROW.out.alloc _).alloc _) ⟨wr.heap.size + 1, 0, none⟩ 1 1 [.int .i64 p1, .int .i64 p2] rfl rfl (cell_two_newAt _ _ _ _ _) (by intro u hu; simp at hu; rcases hu with rfl | rfl <;> rfl) (by unfold maxLen; omega) (by omega) (by have := HB.out.size; simp; omega) ?_; intro v1 w5 r1 r2 _ r4; obtain ⟨g1, cap2, rfl⟩ := ownsRow_succS r1; have R1 := hide r1; have R2 := hide r2; have B5 := hide (app_below HB.out HROW.out r2); have C5 := app_cells HROW.out r2; obtain ⟨d0, d1⟩ := C5; clear r1 r2 r4)
        go_roundw
        case rel => exact ⟨m + 1, by omega, by simp, by rw [HACC.out, if_neg he]; simpa using prow1 R1.out, B5.out⟩
        case measure => simp [intOf]; omega
    · obtain rfl : m = l.length := by omega
      rw [List.take_length] at hrow
      obtain ⟨ao1, cap1, rfl, _, _⟩ := hrow.form
      have hdl := delL_length k l
      have HROW := hide hrow
      have HB := hide hB
      clear hrow hB
      go_wp2
      go_ret2
      exact ⟨ao1, cap1, by simp, HROW.out, HB.out⟩
theorem getL_app {k : Int} {A B : Kvs} (h : getL k A = none) : getL k (A ++ B) = getL k B := by
  induction A with
  | nil => rfl
  | cons p r ih =>
    unfold getL at h
    split at h
    · cases h
    · rename_i hp
      rw [List.cons_append, getL, if_neg hp, ih h]
set_option maxHeartbeats 4000000 in
theorem rget_any {w : World} {ao : Option Addr} {cap : Nat} {l : Kvs} (hl : PRow w 0 (.slice ao l.length cap) l) (hlen : l.length ≤ 10000) (k : Int) :
    Calls Try.prog 18 #[.slice ao l.length cap, .int .i64 k] w fun e w' => e = .returned (.tuple #[.int .i64 (fv k l), .bool (fh k l)]) ∧ Below w.heap.size w w' := by
  have HL := hide hl
  have hl1 : (l.length : Int) ≤ 10000 := by omega
  clear hl
  go_enter Try.func18, Try.ntmps18
  go_wp2
  go_loopw [10] (fun i wr => ∃ m : Nat, m ≤ l.length ∧ i = .int .i64 m ∧ getL k (l.take m) = none ∧ Below w.heap.size w wr) (fun i _ => l.length - (intOf i).toNat)
  case atStart => exact ⟨0, Nat.zero_le _, rfl, rfl, bMe w⟩
  case round =>
    obtain ⟨m, hm, rfl, hno, hB⟩ := hrel
    have HNO := hide hno
    by_cases hlt : m < l.length
    · have hx : l[m]? = some l[m] := List.getElem?_eq_getElem hlt
      have htk : l.take (m + 1) = l.take m ++ [l[m]] := by rw [List.take_succ_eq_append_getElem hlt]
      have hsp : l = l.take m ++ (l[m] :: l.drop (m + 1)) := by rw [← List.drop_eq_getElem_cons hlt, List.take_append_drop]
      obtain ⟨g, rfl, hgl, c0, c1⟩ := (HL.out.below hB).get hx
      generalize l[m] = p at *
      obtain ⟨p1, p2⟩ := p
      simp only at c0 c1
      have HB := hide hB
      have hng : g ≠ wr.heap.size := by omega
      by_cases he : p1 = k
      · have hf : getL k l = some p2 := by rw [hsp, getL_app hno, getL, if_pos he]
        have HF := hide (fk_some hf)
        clear hno hB hx htk hsp hf
        go_wp2
        go_ret2
        refine ⟨?_, bAl HB.out⟩
        rw [HF.out.2.1, HF.out.2.2]
        rfl
      · have hn2 : getL k (l.take (m + 1)) = none := by rw [htk, getL_app hno, getL, if_neg he]; rfl
        have HN2 := hide hn2
        clear hno hB hx htk hsp hn2
        go_wp2
        go_roundw
        case rel => exact ⟨m + 1, by omega, by simp, HN2.out, bAl HB.out⟩
        case measure => simp [intOf]; omega
    · obtain rfl : m = l.length := by omega
      rw [List.take_length] at hno
      have HF := hide (fk_none hno)
      have HB := hide hB
      clear hno hB
      go_wp2
      go_ret2
      refine ⟨?_, HB.out⟩
      rw [HF.out.2.1, HF.out.2.2]
      rfl
set_option maxHeartbeats 4000000 in
theorem same_any {w : World} {a b : Option Addr} {ca cb : Nat} {l : Kvs} (ha : PRow w 0 (.slice a l.length ca) l) (hb : PRow w 0 (.slice b l.length cb) l) (hlen : l.length ≤ 10000) :
    Calls Try.prog 20 #[.slice a l.length ca, .slice b l.length cb] w fun e w' => e = .returned (.bool true) ∧ ∃ n, w' = w.drewN n := by
  have HA := hide ha
  have HB := hide hb
  have hl1 : (l.length : Int) ≤ 10000 := by omega
  clear ha hb
  go_enter Try.func20, Try.ntmps20
  go_wp2
  go_loopw [13] (fun i wr => ∃ m n : Nat, m ≤ l.length ∧ i = .int .i64 m ∧ wr = w.drewN n) (fun i _ => l.length - (intOf i).toNat)
  case atStart => exact ⟨0, 0, Nat.zero_le _, rfl, rfl⟩
  case round =>
    obtain ⟨m, n, hm, rfl, rfl⟩ := hrel
    by_cases hlt : m < l.length
    · have hx : l[m]? = some l[m] := List.getElem?_eq_getElem hlt
      obtain ⟨g, rfl, _, c0, c1⟩ := HA.out.get hx
      obtain ⟨g2, rfl, _, c2, c3⟩ := HB.out.get hx
      generalize l[m] = p at *
      obtain ⟨p1, p2⟩ := p
      simp only at c0 c1 c2 c3
      clear hx
      go_wp2
      go_quiet (fail)
      go_wp2
      go_roundw
      case rel => exact ⟨m + 1, n + nq, by omega, by simp, rfl⟩
      case measure => simp [intOf]; omega
    · obtain rfl : m = l.length := by omega
      go_wp2
      go_ret
      exact ⟨rfl, n, rfl⟩
end Go.Proofs.Ytnjijnphjiiceaa
