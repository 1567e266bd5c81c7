/- The contract of huge.Parse over this translation. -/
import Derived.Test.YtnpffefebghnbaaHugeDec
import Derived.Test.YtnpffefebghnbaaHugeDigit
namespace Go.Proofs.Ytnpffefebghnbaa
open Go.RowKit Go.Lib
attribute [local go_sem] setCell_drewN alloc_drewN

theorem dec_snoc (l : List UInt8) (c : UInt8) : dec (l ++ [c]) = dec l * 10 + ((c.toNat : Int) - 48) := by
  unfold dec; rw [List.foldl_append]; rfl
theorem dgt_bd {c : UInt8} (h : dgt c = true) : 48 ≤ (c.toNat : Int) ∧ (c.toNat : Int) ≤ 57 := by
  unfold dgt at h; simp at h; omega
theorem all_of_decimal {l : List UInt8} (h : decimal l = true) : ∀ c ∈ l, dgt c = true := by
  unfold decimal at h
  split at h
  · cases h
  · rw [Bool.and_eq_true] at h
    exact List.all_eq_true.1 h.1
theorem dec_nonneg {l : List UInt8} (h : ∀ c ∈ l, dgt c = true) : ∀ k, 0 ≤ dec (l.take k) := by
  intro k
  induction k with
  | zero => simp [dec]
  | succ k ih =>
    by_cases hk : k < l.length
    · rw [List.take_succ_eq_append_getElem hk, dec_snoc]
      have := dgt_bd (h _ (List.getElem_mem hk))
      omega
    · rw [List.take_of_length_le (by omega)]; rw [List.take_of_length_le (by omega)] at ih; exact ih
theorem dec_up {l : List UInt8} (h : ∀ c ∈ l, dgt c = true) (k : Nat) : dec (l.take k) ≤ dec (l.take (k + 1)) := by
  by_cases hk : k < l.length
  · rw [List.take_succ_eq_append_getElem hk, dec_snoc]
    have := dgt_bd (h _ (List.getElem_mem hk))
    have := dec_nonneg h k
    omega
  · rw [List.take_of_length_le (by omega), List.take_of_length_le (by omega)]; exact Int.le_refl _
theorem dec_le {l : List UInt8} (h : ∀ c ∈ l, dgt c = true) (k : Nat) : dec (l.take k) ≤ dec l := by
  have : ∀ j, dec (l.take k) ≤ dec (l.take (k + j)) := by
    intro j
    induction j with
    | zero => exact Int.le_refl _
    | succ j ih => exact Int.le_trans ih (dec_up h (k + j))
  have e := this l.length
  rwa [List.take_of_length_le (show l.length ≤ k + l.length by omega)] at e
theorem in_of_le {a b : Int} (h0 : 0 ≤ a) (h : a ≤ b) (hb : In b) : In a := by unfold In at *; omega

theorem parse_form (s : ByteArray) (w : World) (hs : s.size ≤ maxLen) (hd : decimal s.data.toList = false) :
    Calls Try.prog 27 #[.string s] w fun e w' => e = .returned (.tuple #[big 0, .int .i64 6]) ∧ Below w.heap.size w w' := by
  go_enter Try.func27, Try.ntmps27
  go_wp2_with fail
  refine (isdec_any _ _ hs).mono ?_
  rintro e w1 ⟨rfl, rfl⟩
  go_wp2
  refine bodyPost_ret (v := .tuple #[.agg #[.int .u64 0, .int .u64 0, .int .u64 0, .int .u64 0], .int .i64 6]) ?_ rfl ⟨ret_num0 6, bAl (bMe w)⟩
  simp [results, Try.results27, go_sem]

set_option maxHeartbeats 4000000 in
theorem parse_raw (s : ByteArray) (w : World) (hs : s.size ≤ maxLen) (hd : decimal s.data.toList = true) (Q : Ending → World → Prop)
    (yes : ¬ In (dec s.data.toList) → ∀ w', Below w.heap.size w w' → Q (.returned (.tuple #[big 0, .int .i64 2])) w')
    (no : In (dec s.data.toList) → ∀ w', Below w.heap.size w w' → Q (.returned (.tuple #[big (dec s.data.toList), .int .i64 0])) w') :
    Calls Try.prog 27 #[.string s] w Q := by
  have HY := hide yes; have HN := hide no
  have hm := hs
  unfold maxLen at hm
  have HD := hide (all_of_decimal hd)
  have hgg : w.heap.size ≤ w.heap.size + 1 := by omega
  have hne : w.heap.size ≠ w.heap.size + 1 := by omega
  have HNE := hide hne; have HGG := hide hgg
  clear hne hgg yes no
  go_enter Try.func27, Try.ntmps27
  go_wp2_with fail
  refine (isdec_any _ _ hs).mono ?_
  rintro e w1 ⟨rfl, rfl⟩
  go_wp2
  go_loopw [13] (fun t wr => ∃ k : Nat, k ≤ s.size ∧ t = .int .i64 k ∧ In (dec (s.data.toList.take k)) ∧ Below w.heap.size w wr ∧ Own wr w.heap.size 0 0 0 0 ∧ Own wr (w.heap.size + 1) (lm (dec (s.data.toList.take k)) 0) (lm (dec (s.data.toList.take k)) 1) (lm (dec (s.data.toList.take k)) 2) (lm (dec (s.data.toList.take k)) 3)) (fun t _ => s.size - (intOf t).toNat)
  case atStart =>
    refine ⟨0, Nat.zero_le _, rfl, In.zero, bAl (bAl (bMe w)), (Own.new w _ _ _ _ _).past _, ?_⟩
    exact Own.new' _ _ _ _ _ _ (by simp)
  case round =>
    obtain ⟨k, hk, rfl, hi, hb, o1, o2⟩ := hrel
    have HI := hide hi; have HB := hide hb; have O1 := hide o1; have O2 := hide o2
    clear hi hb
    obtain ⟨_, x0, x1, x2, x3, xf⟩ := o1
    obtain ⟨_, y0, y1, y2, y3, yf⟩ := o2
    by_cases hlt : k < s.size
    · have cd := dgt_bd (HD.out s[k] (by rw [← list_get s k hlt]; exact List.getElem_mem _))
      have hw8 : IntKind.u8.wrap ((s[k].toNat : Int) - 48) = (s[k].toNat : Int) - 48 := by rw [IntKind.wrap_u8]; omega
      have e1 : Hid (dec (s.data.toList.take (k + 1)) = dec (s.data.toList.take k) * 10 + ((s[k].toNat : Int) - 48)) := by rw [take_one s k hlt, dec_snoc]; exact rfl
      have hle : Hid (dec (s.data.toList.take (k + 1)) ≤ dec s.data.toList) := dec_le HD.out (k + 1)
      have hnn : Hid (0 ≤ dec (s.data.toList.take k)) := dec_nonneg HD.out k
      generalize dec (s.data.toList.take k) = n at *
      by_cases h10 : In (n * 10)
      · have H10 := hide h10
        by_cases h1 : In (n * 10 + ((s[k].toNat : Int) - 48))
        · have H1 := hide h1
          clear h10 h1
          go_wp2
          go_region_with (go_at_call 42; refine (with_ok _ _ _ HI.out (by omega) (by omega) H10.out H1.out).mono ?_; rintro e w2 ⟨rfl, hb2⟩; have R1 := hide (O1.out.after hb2 rfl); have R2 := hide (O2.out.after hb2 rfl); have HW2 := hide (bOn HB.out.drew hb2); obtain ⟨_, r0, r1, r2, r3, rf⟩ := R2.out; clear hb2)
          all_goals
            go_wp2
            go_roundw
            case rel => exact ⟨k + 1, by omega, by go_num, by rw [e1.out]; exact H1.out, put_below HW2.out HGG.out, R1.out.other HNE.out, by rw [e1.out]; exact R2.out.put _ _ _ _⟩
            case measure => simp [intOf]; omega
        · have H1 := hide h1
          clear h10 h1
          go_wp2
          go_region_with (go_at_call 42; refine (with_over _ _ _ HI.out (by omega) (by omega) H10.out H1.out).mono ?_; rintro e w2 ⟨rfl, hb2⟩; have R1 := hide (O1.out.after hb2 rfl); have R2 := hide (O2.out.after hb2 rfl); have HW2 := hide (bOn HB.out.drew hb2); obtain ⟨_, r0, r1, r2, r3, rf⟩ := R2.out; obtain ⟨_, s0, s1, s2, s3, sf⟩ := R1.out; clear hb2)
          all_goals
            go_wp2
            have hbad : ¬ In (dec s.data.toList) := fun hin => H1.out (by rw [← e1.out]; exact in_of_le (by rw [e1.out]; have := hnn.out; omega) hle.out hin)
            have R := HY.out hbad _ (put_below (put_below HW2.out HGG.out (x := lm 0 0) (y := lm 0 1) (z := lm 0 2) (u := lm 0 3)) (Nat.le_refl _) (x := 0) (y := 0) (z := 0) (u := 0))
            rw [← ret_num0 2] at R
            refine bodyPost_ret (v := .tuple #[.agg #[.int .u64 0, .int .u64 0, .int .u64 0, .int .u64 0], .int .i64 2]) ?_ rfl R
            simp [results, Try.results27, go_sem, s0, s1, s2, s3]
      · have H10 := hide h10
        clear h10
        go_wp2
        go_region_with (go_at_call 42; refine (with_wide _ _ _ HI.out H10.out).mono ?_; rintro e w2 ⟨rfl, hb2⟩; have R1 := hide (O1.out.after hb2 rfl); have R2 := hide (O2.out.after hb2 rfl); have HW2 := hide (bOn HB.out.drew hb2); obtain ⟨_, r0, r1, r2, r3, rf⟩ := R2.out; obtain ⟨_, s0, s1, s2, s3, sf⟩ := R1.out; clear hb2)
        all_goals
          go_wp2
          have hbad : ¬ In (dec s.data.toList) := fun hin => H10.out (in_of_le (by have := hnn.out; omega) (by have := e1.out; have := hle.out; omega) hin)
          have R := HY.out hbad _ (put_below (put_below HW2.out HGG.out (x := lm 0 0) (y := lm 0 1) (z := lm 0 2) (u := lm 0 3)) (Nat.le_refl _) (x := 0) (y := 0) (z := 0) (u := 0))
          rw [← ret_num0 2] at R
          refine bodyPost_ret (v := .tuple #[.agg #[.int .u64 0, .int .u64 0, .int .u64 0, .int .u64 0], .int .i64 2]) ?_ rfl R
          simp [results, Try.results27, go_sem, s0, s1, s2, s3]
    · have et : Hid (dec (s.data.toList.take k) = dec s.data.toList) := by
        rw [List.take_of_length_le (by rw [Array.length_toList]; exact Nat.le_of_not_lt hlt)]; exact rfl
      generalize dec (s.data.toList.take k) = n at *
      go_wp2
      have R := HN.out (by rw [← et.out]; exact HI.out) _ (put_below HB.out (Nat.le_refl _) (x := lm n 0) (y := lm n 1) (z := lm n 2) (u := lm n 3))
      rw [← et.out] at R
      refine bodyPost_ret (v := .tuple #[big n, .int .i64 0]) ?_ rfl R
      simp [results, Try.results27, go_sem, x0, x1, x2, x3]
theorem parse_ok (s : ByteArray) (w : World) (hs : s.size ≤ maxLen) (hd : decimal s.data.toList = true) (h : In (dec s.data.toList)) :
    Calls Try.prog 27 #[.string s] w fun e w' => e = .returned (.tuple #[big (dec s.data.toList), .int .i64 0]) ∧ Below w.heap.size w w' :=
  parse_raw s w hs hd _ (fun hn => absurd h hn) (fun _ _ hw => ⟨rfl, hw⟩)
theorem parse_over (s : ByteArray) (w : World) (hs : s.size ≤ maxLen) (hd : decimal s.data.toList = true) (h : ¬ In (dec s.data.toList)) :
    Calls Try.prog 27 #[.string s] w fun e w' => e = .returned (.tuple #[big 0, .int .i64 2]) ∧ Below w.heap.size w w' :=
  parse_raw s w hs hd _ (fun _ _ hw => ⟨rfl, hw⟩) (fun hn => absurd hn h)
end Go.Proofs.Ytnpffefebghnbaa
