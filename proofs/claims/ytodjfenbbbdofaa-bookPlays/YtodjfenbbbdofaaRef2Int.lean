/- The contract of sponsionref02.Int over this translation: the number of a row of digits. -/
import Derived.Test.YtodjfenbbbdofaaRef2
namespace Go.Proofs.Ytodjfenbbbdofaa
open Go.RowKit Go.Lib

/-- A limb out of its upper digits. -/
def hn (zs : List Int) (q : Nat) : Nat → Int
  | 0 => 0
  | n + 1 => hn zs q n * 65536 + zs.getD (4 * q + 3 - n) 0
def hq (zs : List Int) (q k : Nat) : Int := hn zs q (min 4 (4 * q + 4 - k))
theorem hn_bd {zs : List Int} (h : Ok zs) (q n : Nat) : 0 ≤ hn zs q n ∧ hn zs q n < pw n := by
  induction n with
  | zero => simp [hn, pw_zero]
  | succ n ih =>
    have := h.getD (4 * q + 3 - n)
    rw [pw_succ]
    unfold hn
    omega
theorem hn_zero {zs : List Int} (q n : Nat) (h : ∀ j, 4 * q + 4 - n ≤ j → j < 4 * q + 4 → zs.getD j 0 = 0) (hn4 : n ≤ 4) : hn zs q n = 0 := by
  induction n with
  | zero => rfl
  | succ n ih =>
    unfold hn
    rw [ih (fun j hj hj2 => h j (by omega) hj2) (by omega), h (4 * q + 3 - n) (by omega) (by omega)]
    rfl
theorem hq_start (zs : List Int) (q : Nat) : hq zs q zs.length = 0 := by
  refine hn_zero _ _ (fun j hj hj2 => ?_) (Nat.min_le_left _ _)
  rw [List.getD_eq_getElem?_getD, List.getElem?_eq_none (by omega)]; rfl
theorem hq_here (zs : List Int) (q m : Nat) (h : m / 4 = q) : hq zs q m = hq zs q (m + 1) * 65536 + zs.getD m 0 := by
  unfold hq
  have e1 : min 4 (4 * q + 4 - m) = (4 * q + 3 - m) + 1 := by omega
  have e2 : min 4 (4 * q + 4 - (m + 1)) = 4 * q + 3 - m := by omega
  rw [e1, e2]
  show hn zs q (4 * q + 3 - m) * 65536 + zs.getD (4 * q + 3 - (4 * q + 3 - m)) 0 = _
  rw [show 4 * q + 3 - (4 * q + 3 - m) = m by omega]
theorem hq_there (zs : List Int) (q m : Nat) (h : m / 4 ≠ q) : hq zs q m = hq zs q (m + 1) := by
  unfold hq
  congr 1
  omega
theorem hq_bd {zs : List Int} (h : Ok zs) (q m : Nat) : 0 ≤ hq zs q m ∧ hq zs q m < 18446744073709551616 := by
  have := hn_bd h q (min 4 (4 * q + 4 - m))
  have h2 := pw_mono (show min 4 (4 * q + 4 - m) ≤ 4 from Nat.min_le_left _ _)
  rw [show pw 4 = 18446744073709551616 by decide] at h2
  unfold hq
  omega
theorem hq_less {zs : List Int} (h : Ok zs) (q m : Nat) (hm : m / 4 = q) : hq zs q (m + 1) < 281474976710656 := by
  have := hn_bd h q (min 4 (4 * q + 4 - (m + 1)))
  have h2 := pw_mono (show min 4 (4 * q + 4 - (m + 1)) ≤ 3 by omega)
  rw [show pw 3 = 281474976710656 by decide] at h2
  unfold hq
  omega
theorem hq_full (zs : List Int) (q : Nat) : hq zs q 0 = hn zs q 4 := by
  unfold hq; rw [Nat.min_eq_left (by omega)]
theorem hq_all {zs : List Int} (h : zs.length ≤ 16) : four (hq zs 0 0) (hq zs 1 0) (hq zs 2 0) (hq zs 3 0) = val zs := by
  rw [← val_take_all zs 16 h]
  rw [val_take, val_take, val_take, val_take, val_take, val_take, val_take, val_take, val_take, val_take, val_take, val_take, val_take, val_take, val_take, val_take]
  rw [hq_full, hq_full, hq_full, hq_full]
  unfold four
  simp only [hn, List.take_zero, val, pw, Nat.mul_zero, Nat.zero_add, Nat.reduceMul, Nat.reduceAdd, Nat.reduceSub, Nat.sub_zero, Int.reducePow]
  omega
theorem Own.set0 {w : World} {g : Nat} {a b c d : Int} (h : Own w g a b c d) (v : Int) : Own (w.setCell ⟨g, 0, none⟩ (.int .u64 v)) g v b c d := by
  obtain ⟨lt, c0, c1, c2, c3, fr⟩ := h
  exact ⟨by simpa [World.setCell] using lt, by simp [go_sem, c0], by simp [go_sem, c1], by simp [go_sem, c2], by simp [go_sem, c3], fun o => by simp [go_sem, fr]⟩
theorem Own.set1 {w : World} {g : Nat} {a b c d : Int} (h : Own w g a b c d) (v : Int) : Own (w.setCell ⟨g, 1, none⟩ (.int .u64 v)) g a v c d := by
  obtain ⟨lt, c0, c1, c2, c3, fr⟩ := h
  exact ⟨by simpa [World.setCell] using lt, by simp [go_sem, c0], by simp [go_sem, c1], by simp [go_sem, c2], by simp [go_sem, c3], fun o => by simp [go_sem, fr]⟩
theorem Own.set2 {w : World} {g : Nat} {a b c d : Int} (h : Own w g a b c d) (v : Int) : Own (w.setCell ⟨g, 2, none⟩ (.int .u64 v)) g a b v d := by
  obtain ⟨lt, c0, c1, c2, c3, fr⟩ := h
  exact ⟨by simpa [World.setCell] using lt, by simp [go_sem, c0], by simp [go_sem, c1], by simp [go_sem, c2], by simp [go_sem, c3], fun o => by simp [go_sem, fr]⟩
theorem Own.set3 {w : World} {g : Nat} {a b c d : Int} (h : Own w g a b c d) (v : Int) : Own (w.setCell ⟨g, 3, none⟩ (.int .u64 v)) g a b c v := by
  obtain ⟨lt, c0, c1, c2, c3, fr⟩ := h
  exact ⟨by simpa [World.setCell] using lt, by simp [go_sem, c0], by simp [go_sem, c1], by simp [go_sem, c2], by simp [go_sem, c3], fun o => by simp [go_sem, fr]⟩
theorem wrap_step {f d : Int} (h0 : 0 ≤ f) (h1 : f < 281474976710656) (d0 : 0 ≤ d) (d1 : d < 65536) : IntKind.u64.wrap (IntKind.u64.wrap (f * 65536) + d) = f * 65536 + d := by
  simp only [IntKind.wrap_u64]; omega
theorem own_eq {w : World} {g : Nat} {a b c d a' b' c' d' : Int} (h : Own w g a b c d) (e0 : a = a') (e1 : b = b') (e2 : c = c') (e3 : d = d') : Own w g a' b' c' d' := by
  subst e0 e1 e2 e3; exact h

theorem int_over {ao : Option Addr} {n cap : Nat} {N : Int} {L : Nat} {w : World} (hn : Num w ao n cap N L) (h : ¬ In N) :
    Calls Try.prog 42 #[.slice ao n cap] w fun e w' => e = .returned (.tuple #[big 0, .bool false]) ∧ Below w.heap.size w w' := by
  obtain ⟨zs, hd, ho, ht, hv, hl⟩ := hn
  have h0 := val_nonneg ho
  go_enter Try.func42, Try.ntmps42
  go_wp2_with fail
  refine (trim_any (hd.below (bAl (bMe w))) ho).mono ?_
  rintro e w2 ⟨ao2, n2, cap2, ys, rfl, t1, t2, t3, t4, t5, t6, rfl⟩
  have h16 : 16 < n2 := by
    by_cases hc : 16 < n2
    · exact hc
    · exfalso
      have := val_lt t2
      have := pw_mono (show ys.length ≤ 16 by have := t1.1; omega)
      rw [show pw 16 = 115792089237316195423570985008687907853269984665640564039457584007913129639936 by decide] at this
      unfold In at h
      omega
  have h16i : (16 : Int) < (n2 : Int) := by omega
  clear t1 t2 t3 t4 t5 t6 ho ht hv hl hd h h0
  go_wp2
  refine bodyPost_ret (v := .tuple #[.agg #[.int .u64 0, .int .u64 0, .int .u64 0, .int .u64 0], .bool false]) ?_ rfl ⟨by rw [show (Value.agg #[.int .u64 0, .int .u64 0, .int .u64 0, .int .u64 0]) = big 0 by unfold big; rw [lm_zero, lm_zero, lm_zero, lm_zero]], bAl (bMe w)⟩
  simp [results, Try.results42, go_sem]

set_option maxHeartbeats 4000000 in
theorem int_ok {ao : Option Addr} {n cap : Nat} {N : Int} {L : Nat} {w : World} (hn : Num w ao n cap N L) (h : In N) :
    Calls Try.prog 42 #[.slice ao n cap] w fun e w' => e = .returned (.tuple #[big N, .bool true]) ∧ Below w.heap.size w w' := by
  obtain ⟨zs, hd, ho, ht, hv, hl⟩ := hn
  have hgg : w.heap.size ≤ w.heap.size + 1 := by omega
  have hne : w.heap.size ≠ w.heap.size + 1 := by omega
  have HNE := hide hne; have HGG := hide hgg; have HI := hide h
  clear hne hgg
  go_enter Try.func42, Try.ntmps42
  go_wp2_with fail
  refine (trim_any (hd.below (bAl (bMe w))) ho).mono ?_
  rintro e w2 ⟨ao2, n2, cap2, ys, rfl, t1, t2, t3, t4, t5, t6, rfl⟩
  have e16 : ys.length ≤ 16 := by
    refine trimmed_short t2 t3 16 ?_
    rw [t4, hv, show pw 16 = 115792089237316195423570985008687907853269984665640564039457584007913129639936 by decide]
    exact h.2
  have hcell : ∀ m, m < n2 → ∃ b off, ao2 = some ⟨b, off, none⟩ ∧ b < w.heap.size ∧ w.cell? ⟨b, off + m, none⟩ = some (.int .i64 (ys.getD m 0)) := by
    intro m hm
    obtain ⟨b, off, e, _, hc⟩ := t1.cell m hm
    obtain ⟨b', off', e', hb', _⟩ := hd.cell 0 (by have := t1.1; have := hd.1; omega)
    rw [t6, e'] at e
    injection e with e
    injection e with e1 e2
    subst e1 e2
    exact ⟨_, _, t6.trans e', hb', by rw [← hc m hm]; exact (Below.cell (bAl (bMe w)) (p := ⟨b', off' + m, none⟩) hb').symm⟩
  have HCELL := hide hcell
  clear hcell
  have hlen : n2 = ys.length := t1.1
  have h16 : n2 ≤ 16 := by omega
  have HO := hide t2; have HV : Hid (val ys = N) := t4.trans hv; have HL := hide hlen
  clear t1 t2 t3 t4 t5 t6 ho ht hv hl hd h hlen e16
  go_wp2
  go_loopw [5] (fun t wr => ∃ k : Nat, k ≤ n2 ∧ t = .int .i64 ((k : Int) - 1) ∧ Below w.heap.size w wr ∧ Own wr w.heap.size 0 0 0 0 ∧ Own wr (w.heap.size + 1) (hq ys 0 k) (hq ys 1 k) (hq ys 2 k) (hq ys 3 k)) (fun t _ => (intOf t + 1).toNat)
  case atStart =>
    refine ⟨n2, Nat.le_refl _, rfl, bAl (bAl (bMe w)), (Own.new w _ _ _ _ _).past _, ?_⟩
    rw [HL.out, hq_start, hq_start, hq_start, hq_start]
    exact Own.new' _ _ _ _ _ _ (by simp)
  case round =>
    obtain ⟨k, hk, rfl, hb, o1, o2⟩ := hrel
    have HB := hide hb; have O1 := hide o1; have O2 := hide o2
    clear hb
    obtain ⟨_, x0, x1, x2, x3, xf⟩ := o1
    obtain ⟨_, y0, y1, y2, y3, yf⟩ := o2
    rcases Nat.eq_zero_or_pos k with h0 | h0
    · subst h0
      have hall : Hid (four (hq ys 0 0) (hq ys 1 0) (hq ys 2 0) (hq ys 3 0) = N) := (hq_all (by rw [← HL.out]; exact h16)).trans HV.out
      obtain ⟨e0, e1, e2, e3⟩ := lm_of hall.out.symm (hq_bd HO.out 0 0) (hq_bd HO.out 1 0) (hq_bd HO.out 2 0) (hq_bd HO.out 3 0)
      rw [e0] at y0; rw [e1] at y1; rw [e2] at y2; rw [e3] at y3
      clear e0 e1 e2 e3 O2
      have hm1 : ((0 : Nat) : Int) - 1 = -1 := rfl
      rw [hm1]
      go_wp2
      refine bodyPost_ret (v := .tuple #[big N, .bool true]) ?_ rfl ⟨rfl, put_below HB.out (Nat.le_refl _)⟩
      simp [results, Try.results42, go_sem, x0, x1, x2, x3]
    · obtain ⟨m, rfl⟩ : ∃ m, k = m + 1 := ⟨k - 1, by omega⟩
      clear h0
      have hm1 : ((m + 1 : Nat) : Int) - 1 = (m : Int) := by omega
      rw [hm1]
      obtain ⟨b1, off1, rfl, hb1, c0⟩ := HCELL.out m (by omega)
      have c1 := (HB.out.cell (p := ⟨b1, off1 + m, none⟩) hb1).trans c0
      have hbn : b1 ≠ w.heap.size + 1 := by omega
      clear c0
      have dd := HO.out.getD m
      obtain ⟨d0, d1⟩ := dd
      have hmn : (m : Int) < (n2 : Int) := by omega
      have hm0 : (0 : Int) ≤ (m : Int) := by omega
      have hc : m / 4 = 0 ∨ m / 4 = 1 ∨ m / 4 = 2 ∨ m / 4 = 3 := by omega
      rcases hc with hc | hc | hc | hc
      · have hq4 : IntKind.i64.wrap (Int.tdiv (m : Int) 4) = 0 := by rw [IntKind.wrap_i64, Int.tdiv_eq_ediv_of_nonneg hm0]; omega
        have hq5 : (m : Int) / 4 = 0 := by omega
        have hws := wrap_step (hq_bd HO.out 0 (m + 1)).1 (hq_less HO.out 0 m hc) d0 d1
        have HC := hide hc
        clear hc
        obtain ⟨dm, HDM⟩ : ∃ dm, Hid (dm = ys.getD m 0) := ⟨_, rfl⟩
        rw [← HDM.out] at c1 hws d0 d1
        go_wp2
        go_region
        all_goals
          go_wp2
          go_roundw
          case rel =>
            refine ⟨m, by omega, by go_num, (HB.out.setCell HGG.out _).drew, (O1.out.set HNE.out _).dn 1, ?_⟩
            exact own_eq ((O2.out.set0 _).dn 1) (by rw [HDM.out]; exact (hq_here ys 0 m HC.out).symm) (hq_there ys 1 m (by have := HC.out; omega)).symm (hq_there ys 2 m (by have := HC.out; omega)).symm (hq_there ys 3 m (by have := HC.out; omega)).symm
          case measure => simp [intOf]
      · have hq4 : IntKind.i64.wrap (Int.tdiv (m : Int) 4) = 1 := by rw [IntKind.wrap_i64, Int.tdiv_eq_ediv_of_nonneg hm0]; omega
        have hq5 : (m : Int) / 4 = 1 := by omega
        have hws := wrap_step (hq_bd HO.out 1 (m + 1)).1 (hq_less HO.out 1 m hc) d0 d1
        have HC := hide hc
        clear hc
        obtain ⟨dm, HDM⟩ : ∃ dm, Hid (dm = ys.getD m 0) := ⟨_, rfl⟩
        rw [← HDM.out] at c1 hws d0 d1
        go_wp2
        go_region
        all_goals
          go_wp2
          go_roundw
          case rel =>
            refine ⟨m, by omega, by go_num, (HB.out.setCell HGG.out _).drew, (O1.out.set HNE.out _).dn 1, ?_⟩
            exact own_eq ((O2.out.set1 _).dn 1) (hq_there ys 0 m (by have := HC.out; omega)).symm (by rw [HDM.out]; exact (hq_here ys 1 m HC.out).symm) (hq_there ys 2 m (by have := HC.out; omega)).symm (hq_there ys 3 m (by have := HC.out; omega)).symm
          case measure => simp [intOf]
      · have hq4 : IntKind.i64.wrap (Int.tdiv (m : Int) 4) = 2 := by rw [IntKind.wrap_i64, Int.tdiv_eq_ediv_of_nonneg hm0]; omega
        have hq5 : (m : Int) / 4 = 2 := by omega
        have hws := wrap_step (hq_bd HO.out 2 (m + 1)).1 (hq_less HO.out 2 m hc) d0 d1
        have HC := hide hc
        clear hc
        obtain ⟨dm, HDM⟩ : ∃ dm, Hid (dm = ys.getD m 0) := ⟨_, rfl⟩
        rw [← HDM.out] at c1 hws d0 d1
        go_wp2
        go_region
        all_goals
          go_wp2
          go_roundw
          case rel =>
            refine ⟨m, by omega, by go_num, (HB.out.setCell HGG.out _).drew, (O1.out.set HNE.out _).dn 1, ?_⟩
            exact own_eq ((O2.out.set2 _).dn 1) (hq_there ys 0 m (by have := HC.out; omega)).symm (hq_there ys 1 m (by have := HC.out; omega)).symm (by rw [HDM.out]; exact (hq_here ys 2 m HC.out).symm) (hq_there ys 3 m (by have := HC.out; omega)).symm
          case measure => simp [intOf]
      · have hq4 : IntKind.i64.wrap (Int.tdiv (m : Int) 4) = 3 := by rw [IntKind.wrap_i64, Int.tdiv_eq_ediv_of_nonneg hm0]; omega
        have hq5 : (m : Int) / 4 = 3 := by omega
        have hws := wrap_step (hq_bd HO.out 3 (m + 1)).1 (hq_less HO.out 3 m hc) d0 d1
        have HC := hide hc
        clear hc
        obtain ⟨dm, HDM⟩ : ∃ dm, Hid (dm = ys.getD m 0) := ⟨_, rfl⟩
        rw [← HDM.out] at c1 hws d0 d1
        go_wp2
        go_region
        all_goals
          go_wp2
          go_roundw
          case rel =>
            refine ⟨m, by omega, by go_num, (HB.out.setCell HGG.out _).drew, (O1.out.set HNE.out _).dn 1, ?_⟩
            exact own_eq ((O2.out.set3 _).dn 1) (hq_there ys 0 m (by have := HC.out; omega)).symm (hq_there ys 1 m (by have := HC.out; omega)).symm (hq_there ys 2 m (by have := HC.out; omega)).symm (by rw [HDM.out]; exact (hq_here ys 3 m HC.out).symm)
          case measure => simp [intOf]
end Go.Proofs.Ytodjfenbbbdofaa
