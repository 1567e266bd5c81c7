/- The contract of sponsionref02.Text over this translation. -/
import Derived.Test.YtnpffefebghnbaaRef2Int
import Derived.Test.YtnpffefebghnbaaRef1Div
import Derived.Test.YtnpffefebghnbaaHugeTxt
namespace Go.Proofs.Ytnpffefebghnbaa
open Go.RowKit Go.Lib

theorem Num.empty {w : World} {ao : Option Addr} {n cap : Nat} {N : Int} {L : Nat} (h : Num w ao n cap N L) (h0 : N = 0) : n = 0 := by
  obtain ⟨zs, hd, ho, ht, hv, hl⟩ := h
  rw [hd.1]
  have := trimmed_short ho ht 0 (by rw [hv, h0, pw_zero]; omega)
  omega
theorem Num.full {w : World} {ao : Option Addr} {n cap : Nat} {N : Int} {L : Nat} (h : Num w ao n cap N L) (h0 : N ≠ 0) : 0 < n := by
  rcases Nat.eq_zero_or_pos n with e | e
  · exfalso
    obtain ⟨zs, hd, ho, ht, hv, hl⟩ := h
    have : zs = [] := List.length_eq_zero_iff.1 (by rw [← hd.1]; exact e)
    subst this
    exact h0 hv.symm
  · exact e
/-- The one digit of a small number. -/
theorem Num.digit {w : World} {ao : Option Addr} {n cap : Nat} {N : Int} (h : Num w ao n cap N 1) (h0 : N ≠ 0) : n = 1 ∧ ∃ b off, ao = some ⟨b, off, none⟩ ∧ w.cell? ⟨b, off, none⟩ = some (.int .i64 N) := by
  have hp := h.full h0
  obtain ⟨zs, hd, ho, ht, hv, hl⟩ := h
  have e1 : n = 1 := by omega
  subst e1
  obtain ⟨b, off, e, _, hc⟩ := hd.cell 0 (by omega)
  refine ⟨rfl, b, off, e, ?_⟩
  have := hc 0 (by omega)
  rw [Nat.add_zero] at this
  rw [this]
  have hlen : zs.length = 1 := hd.1.symm
  match zs, hlen with
  | [d], _ =>
    have : d = N := by rw [← hv]; simp [val]
    simp [this]
theorem lit10 (w : World) : Num (w.alloc (.cells #[.int .i64 10] 3)) (some ⟨w.heap.size, 0, none⟩) 1 1 10 1 :=
  Num.lit w [10] (by decide) (by intro d hd; simp at hd; omega) (by intro _; decide)
theorem conv1 (w : World) (d : Int) : (convert 45 9 (.slice (some ⟨w.heap.size, 0, none⟩) 1 1)).run Try.prog (w.alloc (.cells #[.int .u8 d] 5)) = .ok (.string (strOfNums [d])) (w.alloc (.cells #[.int .u8 d] 5)) :=
  run_convert_bytes_arg _ 45 5 Try.underlying45 Try.underlying5 w.heap.size 0 1 1 [d] rfl (fun j hj => by
    obtain rfl : j = 0 := by omega
    rw [World.cell?_alloc_at _ _ _ _ rfl]; rfl) 9 Try.underlying9
theorem tl_cons (a : Int) (k : Nat) : tl a (k + 1) = (48 + a / 10 ^ k % 10) :: tl a k := by
  unfold tl
  rw [List.range_succ_eq_map, List.map_cons, List.map_map]
  congr 1
  apply List.map_congr_left
  intro i _
  show 48 + a / 10 ^ (k + 1 - 1 - (i + 1)) % 10 = _
  congr 4
  omega
/-- How long a text is. -/
def strLen : Value → Nat
  | .string s => s.size
  | _ => 0
theorem strLen_tl (a : Int) (k : Nat) : strLen (.string (strOfNums (tl a k))) = k := by
  show (strOfNums (tl a k)).size = k
  rw [strOfNums_size]; simp [tl]
theorem str_cons (d : Int) (l : List Int) : strOfNums [d] ++ strOfNums l = strOfNums (d :: l) := by
  apply ByteArray.ext
  rw [ByteArray.data_append]
  simp [strOfNums]
theorem tl_length (a : Int) (k : Nat) : (tl a k).length = k := by simp [tl]

set_option maxHeartbeats 2000000 in
theorem rtext_zero (w : World) :
    Calls Try.prog 28 #[big 0] w fun e w' => e = .returned (.string ⟨#[48]⟩) ∧ Below w.heap.size w w' := by
  go_enter Try.func28, Try.ntmps28
  go_wp2_with fail
  refine (row_of 0 _ In.zero).mono ?_
  rintro e w1 ⟨xo, xn, xc, rfl, nx, hb1⟩
  obtain rfl := nx.empty rfl
  have B := hide (bOn (bAl (bMe w)) hb1)
  clear nx hb1
  go_wp2
  go_ret
  exact ⟨rfl, B.out⟩

set_option maxHeartbeats 4000000 in
theorem rtext_any (a : Int) (w : World) (ha : In a) (hne : a ≠ 0) :
    Calls Try.prog 28 #[big a] w fun e w' => ∃ K, nd a K ∧ K ≤ 78 ∧ e = .returned (.string (strOfNums (tl a K))) ∧ Below w.heap.size w w' := by
  have HA := hide ha; have HNE := hide hne
  clear ha hne
  go_enter Try.func28, Try.ntmps28
  go_wp2_with fail
  refine (row_of a _ HA.out).mono ?_
  rintro e w1 ⟨xo, xn, xc, rfl, nx, hb1⟩
  have hxn := nx.full HNE.out
  have hxi : ((xn : Int) == 0) = false := by rw [beq_eq_false_iff_ne]; omega
  have NX := hide nx
  have B := hide (bOn (bAl (bMe w)) hb1)
  clear nx hb1
  go_wp2
  clear hxi hxn
  go_loopw [3, 4] (fun v3 v4 wr => ∃ (k : Nat) (lo' : Option Addr) (ln lc : Nat), k ≤ 78 ∧ v3 = .slice lo' ln lc ∧ v4 = .string (strOfNums (tl a k)) ∧ (0 < k → a / 10 ^ (k - 1) ≠ 0) ∧ Below w.heap.size w wr ∧ Num wr lo' ln lc (a / 10 ^ k) 16) (fun _ v4 _ => 78 - strLen v4)
  case atStart => exact ⟨0, _, _, _, by omega, rfl, rfl, fun h => by omega, B.out, by rw [Int.pow_zero, Int.ediv_one]; exact NX.out⟩
  case round =>
    obtain ⟨k, lo', ln, lc, hk, rfl, rfl, hp, hb, nl⟩ := hrel
    have HP := hide hp; have HB := hide hb; have NL := hide nl
    clear hp hb nl
    have nn : Hid (0 ≤ a / 10 ^ k) := Int.ediv_nonneg HA.out.1 (Int.le_of_lt (Int.pow_pos (by decide)))
    by_cases h0 : a / 10 ^ k = 0
    · obtain rfl := NL.out.empty h0
      have H0 := hide h0
      clear h0
      have hk0 : 0 < k := by
        rcases Nat.eq_zero_or_pos k with h | h
        · subst h
          have := H0.out
          rw [Int.pow_zero, Int.ediv_one] at this
          exact absurd this HNE.out
        · exact h
      go_wp2
      go_ret
      exact ⟨k, ⟨hk0, H0.out, HP.out hk0⟩, hk, rfl, HB.out⟩
    · have hln := NL.out.full h0
      have hlni : (0 : Int) < (ln : Int) := by omega
      have H0 := hide h0
      have hk78 : k < 78 := by
        rcases Nat.lt_or_ge k 78 with h | h
        · exact h
        · obtain rfl : k = 78 := by omega
          exact absurd (ten_small HA.out) h0
      clear h0
      go_wp2_with fail
      refine (div_any (NL.out.below (bAl (o := .cells #[.int .i64 10] 3) (bMe wr))) (lit10 wr) (by decide) (by omega) (by omega)).mono ?_
      rintro e w2 ⟨qo, qn, qc, ro, rn, rc, rfl, nq, nr, hb2⟩
      rw [ten_step a k] at nq
      have NQ := hide nq; have NR := hide nr; have HB2 := hide (bOn (bAl HB.out) hb2)
      clear nq nr hb2
      have r0 := Int.emod_nonneg (a / 10 ^ k) (show (10 : Int) ≠ 0 by decide)
      have r1 := Int.emod_lt_of_pos (a / 10 ^ k) (show (0 : Int) < 10 by decide)
      obtain ⟨r, HR⟩ : ∃ r, Hid (r = a / 10 ^ k % 10) := ⟨_, rfl⟩
      rw [← HR.out] at r0 r1
      rw [← HR.out] at NR
      by_cases hr : r = 0
      · obtain rfl := NR.out.empty hr
        have HR0 := hide hr
        clear hr
        have hcv := conv1 w2 48
        have hsz : ¬ 9223372036854775807 < (strOfNums [48]).size + (strOfNums (tl a k)).size := by
          rw [strOfNums_size, strOfNums_size, tl_length]; simp; omega
        go_wp2
        go_roundw
        case rel =>
          refine ⟨k + 1, qo, qn, qc, by omega, rfl, ?_, fun _ => H0.out, bAl HB2.out, NQ.out.below (bAl (bMe w2))⟩
          rw [str_cons, tl_cons, ← HR.out, HR0.out, Int.add_zero]
        case measure =>
          rw [strLen_tl]
          show 78 - (strOfNums [48] ++ strOfNums (tl a k)).size < 78 - k
          rw [str_cons, strOfNums_size, List.length_cons, tl_length]
          omega
      · obtain ⟨rfl, b, off, rfl, hc⟩ := NR.out.digit hr
        have hcv := conv1 w2 (48 + r)
        have hsz : ¬ 9223372036854775807 < (strOfNums [(48 + r)]).size + (strOfNums (tl a k)).size := by
          rw [strOfNums_size, strOfNums_size, tl_length]; simp; omega
        go_wp2
        go_roundw
        case rel =>
          refine ⟨k + 1, qo, qn, qc, by omega, rfl, ?_, fun _ => H0.out, bAl HB2.out, NQ.out.below (bAl (bMe w2))⟩
          rw [str_cons, tl_cons, ← HR.out]
        case measure =>
          rw [strLen_tl]
          show 78 - (strOfNums [(48 + r)] ++ strOfNums (tl a k)).size < 78 - k
          rw [str_cons, strOfNums_size, List.length_cons, tl_length]
          omega
end Go.Proofs.Ytnpffefebghnbaa
