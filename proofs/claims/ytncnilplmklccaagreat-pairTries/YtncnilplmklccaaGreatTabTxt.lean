/- The contract of sponsionref02.Int over this translation: the number of a row of digits. The document's side of layer 13: wrong, Less, add, sub (gen-ref13.py). The document's side of layer 13: Supply (gen-ref13b.py). The document's side of layer 13: Mint, Burn, Move (gen-ref13c.py). The document's table against a book's row: Supply, Mint, Burn, Move. The text of a table, and of a book's row. -/
import Derived.Test.YtncnilplmklccaaGreatRef2
import Derived.Test.YtncnilplmklccaaGreatTab13
import Derived.Test.YtncnilplmklccaaGreatBkMath
/- The contract of sponsionref02.Int over this translation: the number of a row of digits. -/
namespace Go.Proofs.YtncnilplmklccaaGreat
open Go.RowKit Go.Lib

/-- A limb out of its upper digits. -/
def hn (zs : List Int) (q : Nat) : Nat → Int
  | 0 => 0
  | n + 1 => hn zs q n * 65536 + zs.getD (4 * q + 3 - n) 0
def hq (zs : List Int) (q k : Nat) : Int := hn zs q (min 4 (4 * q + 4 - k))
theorem hn_bd {zs : List Int} (h : Ok zs) (q n : Nat) : 0 ≤ hn zs q n ∧ hn zs q n < pw n := by
  induction n with
  | zero => simp [hn, pw_zero]
  | succ n ih =>
    have := h.getD (4 * q + 3 - n)
    rw [pw_succ]
    unfold hn
    omega
theorem hn_zero {zs : List Int} (q n : Nat) (h : ∀ j, 4 * q + 4 - n ≤ j → j < 4 * q + 4 → zs.getD j 0 = 0) (hn4 : n ≤ 4) : hn zs q n = 0 := by
  induction n with
  | zero => rfl
  | succ n ih =>
    unfold hn
    rw [ih (fun j hj hj2 => h j (by omega) hj2) (by omega), h (4 * q + 3 - n) (by omega) (by omega)]
    rfl
theorem hq_start (zs : List Int) (q : Nat) : hq zs q zs.length = 0 := by
  refine hn_zero _ _ (fun j hj hj2 => ?_) (Nat.min_le_left _ _)
  rw [List.getD_eq_getElem?_getD, List.getElem?_eq_none (by omega)]; rfl
theorem hq_here (zs : List Int) (q m : Nat) (h : m / 4 = q) : hq zs q m = hq zs q (m + 1) * 65536 + zs.getD m 0 := by
  unfold hq
  have e1 : min 4 (4 * q + 4 - m) = (4 * q + 3 - m) + 1 := by omega
  have e2 : min 4 (4 * q + 4 - (m + 1)) = 4 * q + 3 - m := by omega
  rw [e1, e2]
  show hn zs q (4 * q + 3 - m) * 65536 + zs.getD (4 * q + 3 - (4 * q + 3 - m)) 0 = _
  rw [show 4 * q + 3 - (4 * q + 3 - m) = m by omega]
theorem hq_there (zs : List Int) (q m : Nat) (h : m / 4 ≠ q) : hq zs q m = hq zs q (m + 1) := by
  unfold hq
  congr 1
  omega
theorem hq_bd {zs : List Int} (h : Ok zs) (q m : Nat) : 0 ≤ hq zs q m ∧ hq zs q m < 18446744073709551616 := by
  have := hn_bd h q (min 4 (4 * q + 4 - m))
  have h2 := pw_mono (show min 4 (4 * q + 4 - m) ≤ 4 from Nat.min_le_left _ _)
  rw [show pw 4 = 18446744073709551616 by decide] at h2
  unfold hq
  omega
theorem hq_less {zs : List Int} (h : Ok zs) (q m : Nat) (hm : m / 4 = q) : hq zs q (m + 1) < 281474976710656 := by
  have := hn_bd h q (min 4 (4 * q + 4 - (m + 1)))
  have h2 := pw_mono (show min 4 (4 * q + 4 - (m + 1)) ≤ 3 by omega)
  rw [show pw 3 = 281474976710656 by decide] at h2
  unfold hq
  omega
theorem hq_full (zs : List Int) (q : Nat) : hq zs q 0 = hn zs q 4 := by
  unfold hq; rw [Nat.min_eq_left (by omega)]
theorem hq_all {zs : List Int} (h : zs.length ≤ 16) : four (hq zs 0 0) (hq zs 1 0) (hq zs 2 0) (hq zs 3 0) = val zs := by
  rw [← val_take_all zs 16 h]
  rw [val_take, val_take, val_take, val_take, val_take, val_take, val_take, val_take, val_take, val_take, val_take, val_take, val_take, val_take, val_take, val_take]
  rw [hq_full, hq_full, hq_full, hq_full]
  unfold four
  simp only [hn, List.take_zero, val, pw, Nat.mul_zero, Nat.zero_add, Nat.reduceMul, Nat.reduceAdd, Nat.reduceSub, Nat.sub_zero, Int.reducePow]
  omega
theorem Own.set0 {w : World} {g : Nat} {a b c d : Int} (h : Own w g a b c d) (v : Int) : Own (w.setCell ⟨g, 0, none⟩ (.int .u64 v)) g v b c d := by
  obtain ⟨lt, c0, c1, c2, c3, fr⟩ := h
  exact ⟨by simpa [World.setCell] using lt, by simp [go_sem, c0], by simp [go_sem, c1], by simp [go_sem, c2], by simp [go_sem, c3], fun o => by simp [go_sem, fr]⟩
theorem Own.set1 {w : World} {g : Nat} {a b c d : Int} (h : Own w g a b c d) (v : Int) : Own (w.setCell ⟨g, 1, none⟩ (.int .u64 v)) g a v c d := by
  obtain ⟨lt, c0, c1, c2, c3, fr⟩ := h
  exact ⟨by simpa [World.setCell] using lt, by simp [go_sem, c0], by simp [go_sem, c1], by simp [go_sem, c2], by simp [go_sem, c3], fun o => by simp [go_sem, fr]⟩
theorem Own.set2 {w : World} {g : Nat} {a b c d : Int} (h : Own w g a b c d) (v : Int) : Own (w.setCell ⟨g, 2, none⟩ (.int .u64 v)) g a b v d := by
  obtain ⟨lt, c0, c1, c2, c3, fr⟩ := h
  exact ⟨by simpa [World.setCell] using lt, by simp [go_sem, c0], by simp [go_sem, c1], by simp [go_sem, c2], by simp [go_sem, c3], fun o => by simp [go_sem, fr]⟩
theorem Own.set3 {w : World} {g : Nat} {a b c d : Int} (h : Own w g a b c d) (v : Int) : Own (w.setCell ⟨g, 3, none⟩ (.int .u64 v)) g a b c v := by
  obtain ⟨lt, c0, c1, c2, c3, fr⟩ := h
  exact ⟨by simpa [World.setCell] using lt, by simp [go_sem, c0], by simp [go_sem, c1], by simp [go_sem, c2], by simp [go_sem, c3], fun o => by simp [go_sem, fr]⟩
theorem wrap_step {f d : Int} (h0 : 0 ≤ f) (h1 : f < 281474976710656) (d0 : 0 ≤ d) (d1 : d < 65536) : IntKind.u64.wrap (IntKind.u64.wrap (f * 65536) + d) = f * 65536 + d := by
  simp only [IntKind.wrap_u64]; omega
theorem own_eq {w : World} {g : Nat} {a b c d a' b' c' d' : Int} (h : Own w g a b c d) (e0 : a = a') (e1 : b = b') (e2 : c = c') (e3 : d = d') : Own w g a' b' c' d' := by
  subst e0 e1 e2 e3; exact h

theorem int_over {ao : Option Addr} {n cap : Nat} {N : Int} {L : Nat} {w : World} (hn : Num w ao n cap N L) (h : ¬ In N) :
    Calls Tryz.prog 48 #[.slice ao n cap] w fun e w' => e = .returned (.tuple #[big 0, .bool false]) ∧ Below w.heap.size w w' := by
  obtain ⟨zs, hd, ho, ht, hv, hl⟩ := hn
  have h0 := val_nonneg ho
  go_enter Tryz.func48, Tryz.ntmps48
  go_wp2_with fail
  refine (trim_any (hd.below (bAl (bMe w))) ho).mono ?_
  rintro e w2 ⟨ao2, n2, cap2, ys, rfl, t1, t2, t3, t4, t5, t6, rfl⟩
  have h16 : 16 < n2 := by
    by_cases hc : 16 < n2
    · exact hc
    · exfalso
      have := val_lt t2
      have := pw_mono (show ys.length ≤ 16 by have := t1.1; omega)
      rw [show pw 16 = 115792089237316195423570985008687907853269984665640564039457584007913129639936 by decide] at this
      unfold In at h
      omega
  have h16i : (16 : Int) < (n2 : Int) := by omega
  clear t1 t2 t3 t4 t5 t6 ho ht hv hl hd h h0
  go_wp2
  refine bodyPost_ret (v := .tuple #[.agg #[.int .u64 0, .int .u64 0, .int .u64 0, .int .u64 0], .bool false]) ?_ rfl ⟨by rw [show (Value.agg #[.int .u64 0, .int .u64 0, .int .u64 0, .int .u64 0]) = big 0 by unfold big; rw [lm_zero, lm_zero, lm_zero, lm_zero]], bAl (bMe w)⟩
  simp [results, Tryz.results48, go_sem]

set_option maxHeartbeats 4000000 in
theorem int_ok {ao : Option Addr} {n cap : Nat} {N : Int} {L : Nat} {w : World} (hn : Num w ao n cap N L) (h : In N) :
    Calls Tryz.prog 48 #[.slice ao n cap] w fun e w' => e = .returned (.tuple #[big N, .bool true]) ∧ Below w.heap.size w w' := by
  obtain ⟨zs, hd, ho, ht, hv, hl⟩ := hn
  have hgg : w.heap.size ≤ w.heap.size + 1 := by omega
  have hne : w.heap.size ≠ w.heap.size + 1 := by omega
  have HNE := hide hne; have HGG := hide hgg; have HI := hide h
  clear hne hgg
  go_enter Tryz.func48, Tryz.ntmps48
  go_wp2_with fail
  refine (trim_any (hd.below (bAl (bMe w))) ho).mono ?_
  rintro e w2 ⟨ao2, n2, cap2, ys, rfl, t1, t2, t3, t4, t5, t6, rfl⟩
  have e16 : ys.length ≤ 16 := by
    refine trimmed_short t2 t3 16 ?_
    rw [t4, hv, show pw 16 = 115792089237316195423570985008687907853269984665640564039457584007913129639936 by decide]
    exact h.2
  have hcell : ∀ m, m < n2 → ∃ b off, ao2 = some ⟨b, off, none⟩ ∧ b < w.heap.size ∧ w.cell? ⟨b, off + m, none⟩ = some (.int .i64 (ys.getD m 0)) := by
    intro m hm
    obtain ⟨b, off, e, _, hc⟩ := t1.cell m hm
    obtain ⟨b', off', e', hb', _⟩ := hd.cell 0 (by have := t1.1; have := hd.1; omega)
    rw [t6, e'] at e
    injection e with e
    injection e with e1 e2
    subst e1 e2
    exact ⟨_, _, t6.trans e', hb', by rw [← hc m hm]; exact (Below.cell (bAl (bMe w)) (p := ⟨b', off' + m, none⟩) hb').symm⟩
  have HCELL := hide hcell
  clear hcell
  have hlen : n2 = ys.length := t1.1
  have h16 : n2 ≤ 16 := by omega
  have HO := hide t2; have HV : Hid (val ys = N) := t4.trans hv; have HL := hide hlen
  clear t1 t2 t3 t4 t5 t6 ho ht hv hl hd h hlen e16
  go_wp2
  go_loopw [5] (fun t wr => ∃ k : Nat, k ≤ n2 ∧ t = .int .i64 ((k : Int) - 1) ∧ Below w.heap.size w wr ∧ Own wr w.heap.size 0 0 0 0 ∧ Own wr (w.heap.size + 1) (hq ys 0 k) (hq ys 1 k) (hq ys 2 k) (hq ys 3 k)) (fun t _ => (intOf t + 1).toNat)
  case atStart =>
    refine ⟨n2, Nat.le_refl _, rfl, bAl (bAl (bMe w)), (Own.new w _ _ _ _ _).past _, ?_⟩
    rw [HL.out, hq_start, hq_start, hq_start, hq_start]
    exact Own.new' _ _ _ _ _ _ (by simp)
  case round =>
    obtain ⟨k, hk, rfl, hb, o1, o2⟩ := hrel
    have HB := hide hb; have O1 := hide o1; have O2 := hide o2
    clear hb
    obtain ⟨_, x0, x1, x2, x3, xf⟩ := o1
    obtain ⟨_, y0, y1, y2, y3, yf⟩ := o2
    rcases Nat.eq_zero_or_pos k with h0 | h0
    · subst h0
      have hall : Hid (four (hq ys 0 0) (hq ys 1 0) (hq ys 2 0) (hq ys 3 0) = N) := (hq_all (by rw [← HL.out]; exact h16)).trans HV.out
      obtain ⟨e0, e1, e2, e3⟩ := lm_of hall.out.symm (hq_bd HO.out 0 0) (hq_bd HO.out 1 0) (hq_bd HO.out 2 0) (hq_bd HO.out 3 0)
      rw [e0] at y0; rw [e1] at y1; rw [e2] at y2; rw [e3] at y3
      clear e0 e1 e2 e3 O2
      have hm1 : ((0 : Nat) : Int) - 1 = -1 := rfl
      rw [hm1]
      go_wp2
      refine bodyPost_ret (v := .tuple #[big N, .bool true]) ?_ rfl ⟨rfl, put_below HB.out (Nat.le_refl _)⟩
      simp [results, Tryz.results48, go_sem, x0, x1, x2, x3]
    · obtain ⟨m, rfl⟩ : ∃ m, k = m + 1 := ⟨k - 1, by omega⟩
      clear h0
      have hm1 : ((m + 1 : Nat) : Int) - 1 = (m : Int) := by omega
      rw [hm1]
      obtain ⟨b1, off1, rfl, hb1, c0⟩ := HCELL.out m (by omega)
      have c1 := (HB.out.cell (p := ⟨b1, off1 + m, none⟩) hb1).trans c0
      have hbn : b1 ≠ w.heap.size + 1 := by omega
      clear c0
      have dd := HO.out.getD m
      obtain ⟨d0, d1⟩ := dd
      have hmn : (m : Int) < (n2 : Int) := by omega
      have hm0 : (0 : Int) ≤ (m : Int) := by omega
      have hc : m / 4 = 0 ∨ m / 4 = 1 ∨ m / 4 = 2 ∨ m / 4 = 3 := by omega
      rcases hc with hc | hc | hc | hc
      · have hq4 : IntKind.i64.wrap (Int.tdiv (m : Int) 4) = 0 := by rw [IntKind.wrap_i64, Int.tdiv_eq_ediv_of_nonneg hm0]; omega
        have hq5 : (m : Int) / 4 = 0 := by omega
        have hws := wrap_step (hq_bd HO.out 0 (m + 1)).1 (hq_less HO.out 0 m hc) d0 d1
        have HC := hide hc
        clear hc
        obtain ⟨dm, HDM⟩ : ∃ dm, Hid (dm = ys.getD m 0) := ⟨_, rfl⟩
        rw [← HDM.out] at c1 hws d0 d1
        go_wp2
        go_region
        all_goals
          go_wp2
          go_roundw
          case rel =>
            refine ⟨m, by omega, by go_num, (HB.out.setCell HGG.out _).drew, (O1.out.set HNE.out _).dn 1, ?_⟩
            exact own_eq ((O2.out.set0 _).dn 1) (by rw [HDM.out]; exact (hq_here ys 0 m HC.out).symm) (hq_there ys 1 m (by have := HC.out; omega)).symm (hq_there ys 2 m (by have := HC.out; omega)).symm (hq_there ys 3 m (by have := HC.out; omega)).symm
          case measure => simp [intOf]
      · have hq4 : IntKind.i64.wrap (Int.tdiv (m : Int) 4) = 1 := by rw [IntKind.wrap_i64, Int.tdiv_eq_ediv_of_nonneg hm0]; omega
        have hq5 : (m : Int) / 4 = 1 := by omega
        have hws := wrap_step (hq_bd HO.out 1 (m + 1)).1 (hq_less HO.out 1 m hc) d0 d1
        have HC := hide hc
        clear hc
        obtain ⟨dm, HDM⟩ : ∃ dm, Hid (dm = ys.getD m 0) := ⟨_, rfl⟩
        rw [← HDM.out] at c1 hws d0 d1
        go_wp2
        go_region
        all_goals
          go_wp2
          go_roundw
          case rel =>
            refine ⟨m, by omega, by go_num, (HB.out.setCell HGG.out _).drew, (O1.out.set HNE.out _).dn 1, ?_⟩
            exact own_eq ((O2.out.set1 _).dn 1) (hq_there ys 0 m (by have := HC.out; omega)).symm (by rw [HDM.out]; exact (hq_here ys 1 m HC.out).symm) (hq_there ys 2 m (by have := HC.out; omega)).symm (hq_there ys 3 m (by have := HC.out; omega)).symm
          case measure => simp [intOf]
      · have hq4 : IntKind.i64.wrap (Int.tdiv (m : Int) 4) = 2 := by rw [IntKind.wrap_i64, Int.tdiv_eq_ediv_of_nonneg hm0]; omega
        have hq5 : (m : Int) / 4 = 2 := by omega
        have hws := wrap_step (hq_bd HO.out 2 (m + 1)).1 (hq_less HO.out 2 m hc) d0 d1
        have HC := hide hc
        clear hc
        obtain ⟨dm, HDM⟩ : ∃ dm, Hid (dm = ys.getD m 0) := ⟨_, rfl⟩
        rw [← HDM.out] at c1 hws d0 d1
        go_wp2
        go_region
        all_goals
          go_wp2
          go_roundw
          case rel =>
            refine ⟨m, by omega, by go_num, (HB.out.setCell HGG.out _).drew, (O1.out.set HNE.out _).dn 1, ?_⟩
            exact own_eq ((O2.out.set2 _).dn 1) (hq_there ys 0 m (by have := HC.out; omega)).symm (hq_there ys 1 m (by have := HC.out; omega)).symm (by rw [HDM.out]; exact (hq_here ys 2 m HC.out).symm) (hq_there ys 3 m (by have := HC.out; omega)).symm
          case measure => simp [intOf]
      · have hq4 : IntKind.i64.wrap (Int.tdiv (m : Int) 4) = 3 := by rw [IntKind.wrap_i64, Int.tdiv_eq_ediv_of_nonneg hm0]; omega
        have hq5 : (m : Int) / 4 = 3 := by omega
        have hws := wrap_step (hq_bd HO.out 3 (m + 1)).1 (hq_less HO.out 3 m hc) d0 d1
        have HC := hide hc
        clear hc
        obtain ⟨dm, HDM⟩ : ∃ dm, Hid (dm = ys.getD m 0) := ⟨_, rfl⟩
        rw [← HDM.out] at c1 hws d0 d1
        go_wp2
        go_region
        all_goals
          go_wp2
          go_roundw
          case rel =>
            refine ⟨m, by omega, by go_num, (HB.out.setCell HGG.out _).drew, (O1.out.set HNE.out _).dn 1, ?_⟩
            exact own_eq ((O2.out.set3 _).dn 1) (hq_there ys 0 m (by have := HC.out; omega)).symm (hq_there ys 1 m (by have := HC.out; omega)).symm (hq_there ys 2 m (by have := HC.out; omega)).symm (by rw [HDM.out]; exact (hq_here ys 3 m HC.out).symm)
          case measure => simp [intOf]
end Go.Proofs.YtncnilplmklccaaGreat

/- The document's side of layer 13: wrong, Less, add, sub (gen-ref13.py). -/
namespace Go.Proofs.YtncnilplmklccaaGreat
set_option linter.unusedSimpArgs false
set_option linter.unusedVariables false
open Go.RowKit Go.Lib
attribute [local go_sem] setCell_drewN alloc_drewN

theorem Num.none {w : World} {ao : Option Addr} {n cap : Nat} {N : Int} {L : Nat} (h : Num w ao n cap N L) : n = 0 ↔ N = 0 := by
  obtain ⟨zs, hd, ho, ht, hv, hl⟩ := h
  have hn : n = zs.length := hd.1
  constructor
  · intro e
    have : zs = [] := List.length_eq_zero_iff.1 (by omega)
    subst this
    rw [← hv]; rfl
  · intro e
    have := trimmed_short ho ht 0 (by rw [hv, e, pw_zero]; omega)
    omega
/-- The error's number of a token, two places, and how much. -/
def wr (t p q N : Int) : Int := if 4 ≤ t then 1 else if 18 ≤ p then 1 else if 18 ≤ q then 1 else if N = 0 then 3 else 0
theorem wr_one (t p N : Int) : wr t p p N = chk t [p] N := by
  unfold wr chk
  by_cases h1 : 4 ≤ t
  · simp [h1]
  · by_cases h2 : 18 ≤ p <;> simp [h1, h2]
theorem wr_two (t p q N : Int) : wr t p q N = chk t [p, q] N := by
  unfold wr chk
  by_cases h1 : 4 ≤ t
  · simp [h1]
  · by_cases h2 : 18 ≤ p <;> by_cases h3 : 18 ≤ q <;> simp [h1, h2, h3]
set_option maxRecDepth 100000 in
set_option maxHeartbeats 1000000 in
theorem wrong_any {t p q N : Int} (w : World) (hN : In N) :
    Calls Tryz.prog 47 #[.int .u8 t, .int .u8 p, .int .u8 q, big N] w fun e w' => e = .returned (.int .i64 (wr t p q N)) ∧ Below w.heap.size w w' := by
  have P := Own.new w (lm N 0) (lm N 1) (lm N 2) (lm N 3) 29
  have B := hide (bAl (o := .cells #[.int .u64 (lm N 0), .int .u64 (lm N 1), .int .u64 (lm N 2), .int .u64 (lm N 3)] 29) (bMe w))
  have HN := hide hN
  clear hN
  unfold wr
  by_cases h1 : 4 ≤ t
  · have h1' : 3 < t := by omega
    rw [if_pos h1]
    clear P
    go_enter Tryz.func47, Tryz.ntmps47
    go_wp2
    go_ret
    exact ⟨rfl, B.out⟩
  rw [if_neg h1]
  have h1' : ¬ 3 < t := by omega
  by_cases h2 : 18 ≤ p
  · have h2' : 17 < p := by omega
    rw [if_pos h2]
    clear P
    go_enter Tryz.func47, Tryz.ntmps47
    go_wp2
    go_ret
    exact ⟨rfl, B.out⟩
  rw [if_neg h2]
  have h2' : ¬ 17 < p := by omega
  by_cases h3 : 18 ≤ q
  · have h3' : 17 < q := by omega
    rw [if_pos h3]
    clear P
    go_enter Tryz.func47, Tryz.ntmps47
    go_wp2
    go_ret
    exact ⟨rfl, B.out⟩
  rw [if_neg h3]
  have h3' : ¬ 17 < q := by omega
  obtain ⟨p5, p0, p1, p2, p3, _⟩ := P
  obtain ⟨V, hV⟩ : ∃ V : Int, (if N = 0 then (3 : Int) else 0) = V := ⟨_, rfl⟩
  rw [hV]
  have HV := hide hV
  clear hV
  go_enter Tryz.func47, Tryz.ntmps47
  go_wp2_with fail
  refine (row_of N _ HN.out).mono ?_
  rintro e w2 ⟨ao, n, cap, rfl, hn, hb⟩
  have B2 := hide (bOn B.out hb)
  have hz := hn.none
  clear hn hb
  by_cases h0 : N = 0
  · obtain rfl : n = 0 := hz.2 h0
    obtain rfl : V = 3 := by rw [← HV.out, if_pos h0]
    clear hz h0
    go_wp2
    go_ret
    exact ⟨rfl, B2.out⟩
  · have hn0 : ¬ n = 0 := fun e => h0 (hz.1 e)
    have hn1 : ¬ (n : Int) = 0 := by omega
    obtain rfl : V = 0 := by rw [← HV.out, if_neg h0]
    clear hz h0
    go_wp2
    go_ret
    exact ⟨rfl, B2.out⟩
set_option maxRecDepth 100000 in
set_option maxHeartbeats 2000000 in
theorem less_any {a b : Int} (w : World) (ha : In a) (hb : In b) :
    Calls Tryz.prog 51 #[big a, big b] w fun e w' => e = .returned (.bool (decide (a < b))) ∧ Below w.heap.size w w' := by
  have HA := hide ha
  have HB := hide hb
  clear ha hb
  obtain ⟨W, hW⟩ : ∃ W, (w.alloc (.cells (rowU 4 (lm a)).toArray 29)).alloc (.cells (rowU 4 (lm b)).toArray 29) = W := ⟨_, rfl⟩
  obtain ⟨g, hg⟩ : ∃ g, w.heap.size = g := ⟨_, rfl⟩
  have E : Hid (Uxs w W [(g + 1, 4, lm b), (g, 4, lm a)]) := by rw [← hW]; exact hide (((Uxs.none w).add hg (URow.box w 4 (lm a) _ hg)).add (by simp [hg]) (URow.box _ 4 (lm b) _ (by simp [hg])))
  obtain ⟨V, hV⟩ : ∃ V : Bool, decide (a < b) = V := ⟨_, rfl⟩
  rw [hV]
  have HV := hide hV
  clear hV
  have hW' : (w.alloc (.cells #[.int .u64 (lm a 0), .int .u64 (lm a 1), .int .u64 (lm a 2), .int .u64 (lm a 3)] 29)).alloc (.cells #[.int .u64 (lm b 0), .int .u64 (lm b 1), .int .u64 (lm b 2), .int .u64 (lm b 3)] 29) = W := hW
  clear hW
  go_enter Tryz.func51, Tryz.ntmps51
  go_wp2
  try rw [hW']
  try rw [hg]
  clear hW' hg
  have X : Hid (Uxs w W.drew [(g + 1, 4, lm b), (g, 4, lm a)]) := hide (E.out.after (bMe W).drew)
  clear E
  refine wp_region_held_drew (S := fun w1 => Uxs w w1 [(g + 1, 4, lm b), (g, 4, lm a)]) (by kernel_rfl) X.out (fun _ => ?_)
  refine tk0 (by kernel_rfl) (by kernel_rfl) (by kernel_rfl) (fun _ _ _ h => h) X.out (yieldsIf_load_mid (by rfl) _ _ rfl (g) (0) rfl (rowU 4 (lm a)) _ (fun _ hw => (hw.get 1 rfl).range) Tryz.underlying29 rfl (info_lm _)) ?_
  simp only [Act.put, List.setIfInBounds_toArray, List.set_cons_zero, List.set_cons_succ]
  refine tk2 (by kernel_rfl) (by kernel_rfl) (by kernel_rfl) (fun _ _ _ h => h) X.out (yieldsIf_load_mid (by rfl) _ _ rfl (g + 1) (0) rfl (rowU 4 (lm b)) _ (fun _ hw => (hw.get 0 rfl).range) Tryz.underlying29 rfl (info_lm _)) ?_
  simp only [Act.put, List.setIfInBounds_toArray, List.set_cons_zero, List.set_cons_succ]
  refine wpAnyH_ready (rs := [1]) (by kernel_rfl) (by simp) ?_
  refine rd1 (fun K hK => ?_) AllReadyH.nil
  go_simp
  refine (row_new a _ HA.out).mono ?_
  rintro e w' ⟨xo, xn, xc, rfl, nx, hb, _⟩
  simp only []
  replace X := hide (X.out.after hb)
  have NX := hide nx
  clear hb nx
  refine hK.out _ _ X.out (fun _ => ?_)
  clear hK K
  refine wpAnyH_ready (rs := [3]) (by kernel_rfl) (by simp) ?_
  refine rd3 (fun K hK => ?_) AllReadyH.nil
  go_simp
  refine (row_new b _ HB.out).mono ?_
  rintro e w' ⟨yo, yn, yc, rfl, ny, hb, _⟩
  simp only []
  replace X := hide (X.out.after hb)
  have NY := hide ny
  replace NX := hide (NX.out.below hb)
  clear hb ny
  refine hK.out _ _ X.out (fun _ => ?_)
  clear hK K
  refine wpAnyH_ready (rs := [4]) (by kernel_rfl) (by simp) ?_
  refine rd4 (fun K hK => ?_) AllReadyH.nil
  go_simp
  refine (cmp_num NX.out NY.out).mono ?_
  rintro e w2 ⟨⟨c, rfl, hc⟩, rfl⟩
  simp only []
  have hcv : decide (c < 0) = V := by rw [← HV.out]; clear HV; rw [decide_eq_decide]; omega
  clear hc
  refine hK.out _ _ X.out (fun _ => ?_)
  clear hK K
  refine tk5 (v := .bool V) (by kernel_rfl) (by kernel_rfl) (by kernel_rfl) (fun _ _ _ h => h) X.out (Or.inl ⟨by rfl, fun w hw => by go_simp; try rw [hcv]⟩) ?_
  simp only [Act.put, List.setIfInBounds_toArray, List.set_cons_zero, List.set_cons_succ]
  refine tk6 (v := .bool V) (by kernel_rfl) (by kernel_rfl) (by kernel_rfl) (fun _ _ _ h => h) X.out (Or.inl ⟨by rfl, fun w hw => by go_simp; try (with_reducible rfl)⟩) ?_
  simp only [Act.put, List.setIfInBounds_toArray, List.set_cons_zero, List.set_cons_succ]
  refine wpAnyH_done (by kernel_rfl) ?_ _
  go_wp2
  go_ret
  exact ⟨rfl, X.out.below⟩
set_option maxRecDepth 100000 in
set_option maxHeartbeats 4000000 in
theorem add13_any {a b : Int} (w : World) (ha : In a) (hb : In b) (hn : In (a + b)) :
    Calls Tryz.prog 50 #[big a, big b] w fun e w' => e = .returned (big (a + b)) ∧ Below w.heap.size w w' := by
  have HA := hide ha
  have HB := hide hb
  have HN := hide hn
  clear ha hb hn
  obtain ⟨W, hW⟩ : ∃ W, ((w.alloc (.cells (rowU 4 (lm a)).toArray 29)).alloc (.cells (rowU 4 (lm b)).toArray 29)).alloc (.cells (rowU 4 (fun _ => 0)).toArray 29) = W := ⟨_, rfl⟩
  obtain ⟨g, hg⟩ : ∃ g, w.heap.size = g := ⟨_, rfl⟩
  have E : Hid (Uxs w W [(g + 2, 4, fun _ => 0), (g + 1, 4, lm b), (g, 4, lm a)]) := by rw [← hW]; exact hide ((((Uxs.none w).add hg (URow.box w 4 (lm a) _ hg)).add (by simp [hg]) (URow.box _ 4 (lm b) _ (by simp [hg]))).add (by simp [hg]) (URow.box _ 4 (fun _ => 0) _ (by simp [hg])))
  have hW' : ((w.alloc (.cells #[.int .u64 (lm a 0), .int .u64 (lm a 1), .int .u64 (lm a 2), .int .u64 (lm a 3)] 29)).alloc (.cells #[.int .u64 (lm b 0), .int .u64 (lm b 1), .int .u64 (lm b 2), .int .u64 (lm b 3)] 29)).alloc (.cells #[.int .u64 0, .int .u64 0, .int .u64 0, .int .u64 0] 29) = W := hW
  clear hW
  go_enter Tryz.func50, Tryz.ntmps50
  go_wp2
  try rw [hW']
  try rw [hg]
  clear hW' hg
  have X : Hid (Uxs w W.drew [(g + 2, 4, fun _ => 0), (g + 1, 4, lm b), (g, 4, lm a)]) := hide (E.out.after (bMe W).drew)
  clear E
  refine wp_region_held_drew (S := fun w1 => Uxs w w1 [(g + 2, 4, fun _ => 0), (g + 1, 4, lm b), (g, 4, lm a)]) (by kernel_rfl) X.out (fun _ => ?_)
  obtain ⟨v0, hv0⟩ : ∃ v0, W.drew = v0 := ⟨_, rfl⟩
  rw [hv0] at X ⊢
  clear hv0
  refine tk0 (by kernel_rfl) (by kernel_rfl) (by kernel_rfl) (fun _ _ _ h => h) X.out (yieldsIf_load_mid (by rfl) _ _ rfl (g) (0) rfl (rowU 4 (lm a)) _ (fun _ hw => (hw.get 2 rfl).range) Tryz.underlying29 rfl (info_lm _)) ?_
  simp only [Act.put, List.setIfInBounds_toArray, List.set_cons_zero, List.set_cons_succ]
  refine tk2 (by kernel_rfl) (by kernel_rfl) (by kernel_rfl) (fun _ _ _ h => h) X.out (yieldsIf_load_mid (by rfl) _ _ rfl (g + 1) (0) rfl (rowU 4 (lm b)) _ (fun _ hw => (hw.get 1 rfl).range) Tryz.underlying29 rfl (info_lm _)) ?_
  simp only [Act.put, List.setIfInBounds_toArray, List.set_cons_zero, List.set_cons_succ]
  refine wpAnyH_ready (rs := [1, 9]) (by kernel_rfl) (by simp) ?_
  refine rd1 (fun K hK => ?_) (rd9 (fun K hK => ?_) AllReadyH.nil)
  · go_simp
    refine (row_new a _ HA.out).mono ?_
    rintro e v1 ⟨xo, xn, xc, rfl, nx, hb, _⟩
    simp only []
    replace X := hide (X.out.after hb)
    have NX := hide nx
    clear nx
    clear hb
    refine hK.out _ _ X.out (fun _ => ?_)
    clear hK K
    refine wpAnyH_ready (rs := [3, 9]) (by kernel_rfl) (by simp) ?_
    refine rd3 (fun K hK => ?_) (rd9 (fun K hK => ?_) AllReadyH.nil)
    · go_simp
      refine (row_new b _ HB.out).mono ?_
      rintro e v2 ⟨yo, yn, yc, rfl, ny, hb, _⟩
      simp only []
      replace X := hide (X.out.after hb)
      replace NX := hide (NX.out.below hb)
      have NY := hide ny
      clear ny
      clear hb
      refine hK.out _ _ X.out (fun _ => ?_)
      clear hK K
      refine wpAnyH_ready (rs := [4, 9]) (by kernel_rfl) (by simp) ?_
      refine rd4 (fun K hK => ?_) (rd9 (fun K hK => ?_) AllReadyH.nil)
      · go_simp
        refine (add_new NX.out NY.out (by omega)).mono ?_
        rintro e v3 ⟨zo, zn, zc, rfl, nz, hb, _⟩
        simp only []
        replace X := hide (X.out.after hb)
        have NZ := hide nz
        clear nz NX NY
        clear hb
        refine hK.out _ _ X.out (fun _ => ?_)
        clear hK K
        refine wpAnyH_ready (rs := [5, 9]) (by kernel_rfl) (by simp) ?_
        refine rd5 (fun K hK => ?_) (rd9 (fun K hK => ?_) AllReadyH.nil)
        · go_simp
          refine (int_ok NZ.out HN.out).mono ?_
          rintro e v4 ⟨rfl, hb⟩
          simp only []
          replace X := hide (X.out.after hb)
          clear NZ
          clear hb
          refine hK.out _ _ X.out (fun _ => ?_)
          clear hK K
          refine tk6 (v := .tuple #[big (a + b), .bool true]) (by kernel_rfl) (by kernel_rfl) (by kernel_rfl) (fun _ _ _ h => h) X.out (Or.inl ⟨by rfl, fun w hw => by go_simp; try (with_reducible rfl)⟩) ?_
          simp only [Act.put, List.setIfInBounds_toArray, List.set_cons_zero, List.set_cons_succ]
          refine tk7 (v := big (a + b)) (by kernel_rfl) (by kernel_rfl) (by kernel_rfl) (fun _ _ _ h => h) X.out (Or.inl ⟨by rfl, fun w hw => by go_simp; try (with_reducible rfl)⟩) ?_
          simp only [Act.put, List.setIfInBounds_toArray, List.set_cons_zero, List.set_cons_succ]
          refine tk8 (v := .bool true) (by kernel_rfl) (by kernel_rfl) (by kernel_rfl) (fun _ _ _ h => h) X.out (Or.inl ⟨by rfl, fun w hw => by go_simp; try (with_reducible rfl)⟩) ?_
          simp only [Act.put, List.setIfInBounds_toArray, List.set_cons_zero, List.set_cons_succ]
          refine wpAnyH_ready (rs := [9]) (by kernel_rfl) (by simp) ?_
          refine rd9 (fun K hK => ?_) AllReadyH.nil
          go_simp
          obtain ⟨g5, hg5⟩ : ∃ g5, v4.heap.size = g5 := ⟨_, rfl⟩
          obtain ⟨w5, hw5⟩ : ∃ w5, v4.alloc (.cells #[.int .u64 0, .int .u64 0, .int .u64 0, .int .u64 0] 29) = w5 := ⟨_, rfl⟩
          have E5 := hide (X.out.add hg5 (show URow (v4.alloc (.cells #[.int .u64 0, .int .u64 0, .int .u64 0, .int .u64 0] 29)) g5 4 (fun _ => 0) from URow.box v4 4 (fun _ => 0) 29 hg5))
          have hb := bAl (o := .cells #[.int .u64 0, .int .u64 0, .int .u64 0, .int .u64 0] 29) (bMe v4)
          rw [hw5] at E5 hb
          replace X := hide (X.out.after hb)
          rw [hg5, hw5]
          clear hb hw5 hg5
          refine hK.out _ _ X.out (fun _ => ?_)
          clear hK K
          refine wpAnyH_ready (rs := [10]) (by kernel_rfl) (by simp) ?_
          refine rd10 (fun K hK => ?_) AllReadyH.nil
          rw [if_pos (by rfl)]
          refine wp_store_mid _ _ _ rfl g5 0 (rowU 4 (lm (a + b))).toArray rfl rfl ((E5.out.get 0 rfl).thereA _) (info_lmA _) (rowU_oneA _ _) ?_
          obtain ⟨w6, hw6⟩ : ∃ w6, w5.setCells g5 0 (rowU 4 (lm (a + b))) = w6 := ⟨_, rfl⟩
          have E6 := hide (E5.out.put 0 rfl (lm (a + b)))
          rw [hw6] at E6
          rw [show (rowU 4 (lm (a + b))).toArray.toList = rowU 4 (lm (a + b)) from List.toList_toArray, hw6]
          replace X := hide E6.out.tail
          clear hw6 E5
          refine hK.out _ _ X.out (fun _ => ?_)
          clear hK K
          refine tk11 (v := .bool true) (by kernel_rfl) (by kernel_rfl) (by kernel_rfl) (fun _ _ _ h => h) X.out (Or.inl ⟨by rfl, fun w hw => by go_simp; try (with_reducible rfl)⟩) ?_
          simp only [Act.put, List.setIfInBounds_toArray, List.set_cons_zero, List.set_cons_succ]
          refine wpAnyH_done (by kernel_rfl) ?_ _
          go_wp2_with (first
            | refine wpList_load_mid rfl 29 _ rfl g5 0 rfl (rowU 4 (lm (a + b))) _ (E6.out.get 0 rfl).range Tryz.underlying29 rfl (info_lm _) ?_
            | refine wpList_store_mid rfl 29 _ _ rfl (g + 2) 0 (rowU 4 (lm (a + b))).toArray rfl rfl ((E6.out.get 1 rfl).thereA _) (info_lmA _) (rowU_oneA _ _) ?_)
          have EE := hide (E6.out.put 1 rfl (lm (a + b)))
          refine bodyPost_ret (v := big (a + b)) ?_ rfl ⟨rfl, EE.out.below⟩
          have hlv := run_loadVar_mid (P := Tryz.prog) _ _ _ _ _ _ (EE.out.get 1 rfl).range Tryz.underlying29 rfl (info_lm _)
          exact results_one Tryz.results50 rfl hlv
        · go_simp
          obtain ⟨g5, hg5⟩ : ∃ g5, v3.heap.size = g5 := ⟨_, rfl⟩
          obtain ⟨w5, hw5⟩ : ∃ w5, v3.alloc (.cells #[.int .u64 0, .int .u64 0, .int .u64 0, .int .u64 0] 29) = w5 := ⟨_, rfl⟩
          have E5 := hide (X.out.add hg5 (show URow (v3.alloc (.cells #[.int .u64 0, .int .u64 0, .int .u64 0, .int .u64 0] 29)) g5 4 (fun _ => 0) from URow.box v3 4 (fun _ => 0) 29 hg5))
          have hb := bAl (o := .cells #[.int .u64 0, .int .u64 0, .int .u64 0, .int .u64 0] 29) (bMe v3)
          rw [hw5] at E5 hb
          replace X := hide (X.out.after hb)
          replace NZ := hide (NZ.out.below hb)
          rw [hg5, hw5]
          clear hb hw5 hg5
          refine hK.out _ _ X.out (fun _ => ?_)
          clear hK K
          refine wpAnyH_ready (rs := [5]) (by kernel_rfl) (by simp) ?_
          refine rd5 (fun K hK => ?_) AllReadyH.nil
          go_simp
          refine (int_ok NZ.out HN.out).mono ?_
          rintro e u4 ⟨rfl, hb⟩
          simp only []
          replace X := hide (X.out.after hb)
          replace E5 := hide (E5.out.after hb)
          clear NZ
          clear hb
          refine hK.out _ _ X.out (fun _ => ?_)
          clear hK K
          refine tk6 (v := .tuple #[big (a + b), .bool true]) (by kernel_rfl) (by kernel_rfl) (by kernel_rfl) (fun _ _ _ h => h) X.out (Or.inl ⟨by rfl, fun w hw => by go_simp; try (with_reducible rfl)⟩) ?_
          simp only [Act.put, List.setIfInBounds_toArray, List.set_cons_zero, List.set_cons_succ]
          refine tk7 (v := big (a + b)) (by kernel_rfl) (by kernel_rfl) (by kernel_rfl) (fun _ _ _ h => h) X.out (Or.inl ⟨by rfl, fun w hw => by go_simp; try (with_reducible rfl)⟩) ?_
          simp only [Act.put, List.setIfInBounds_toArray, List.set_cons_zero, List.set_cons_succ]
          refine tk8 (v := .bool true) (by kernel_rfl) (by kernel_rfl) (by kernel_rfl) (fun _ _ _ h => h) X.out (Or.inl ⟨by rfl, fun w hw => by go_simp; try (with_reducible rfl)⟩) ?_
          simp only [Act.put, List.setIfInBounds_toArray, List.set_cons_zero, List.set_cons_succ]
          refine wpAnyH_ready (rs := [10]) (by kernel_rfl) (by simp) ?_
          refine rd10 (fun K hK => ?_) AllReadyH.nil
          rw [if_pos (by rfl)]
          refine wp_store_mid _ _ _ rfl g5 0 (rowU 4 (lm (a + b))).toArray rfl rfl ((E5.out.get 0 rfl).thereA _) (info_lmA _) (rowU_oneA _ _) ?_
          obtain ⟨w6, hw6⟩ : ∃ w6, u4.setCells g5 0 (rowU 4 (lm (a + b))) = w6 := ⟨_, rfl⟩
          have E6 := hide (E5.out.put 0 rfl (lm (a + b)))
          rw [hw6] at E6
          rw [show (rowU 4 (lm (a + b))).toArray.toList = rowU 4 (lm (a + b)) from List.toList_toArray, hw6]
          replace X := hide E6.out.tail
          clear hw6 E5
          refine hK.out _ _ X.out (fun _ => ?_)
          clear hK K
          refine tk11 (v := .bool true) (by kernel_rfl) (by kernel_rfl) (by kernel_rfl) (fun _ _ _ h => h) X.out (Or.inl ⟨by rfl, fun w hw => by go_simp; try (with_reducible rfl)⟩) ?_
          simp only [Act.put, List.setIfInBounds_toArray, List.set_cons_zero, List.set_cons_succ]
          refine wpAnyH_done (by kernel_rfl) ?_ _
          go_wp2_with (first
            | refine wpList_load_mid rfl 29 _ rfl g5 0 rfl (rowU 4 (lm (a + b))) _ (E6.out.get 0 rfl).range Tryz.underlying29 rfl (info_lm _) ?_
            | refine wpList_store_mid rfl 29 _ _ rfl (g + 2) 0 (rowU 4 (lm (a + b))).toArray rfl rfl ((E6.out.get 1 rfl).thereA _) (info_lmA _) (rowU_oneA _ _) ?_)
          have EE := hide (E6.out.put 1 rfl (lm (a + b)))
          refine bodyPost_ret (v := big (a + b)) ?_ rfl ⟨rfl, EE.out.below⟩
          have hlv := run_loadVar_mid (P := Tryz.prog) _ _ _ _ _ _ (EE.out.get 1 rfl).range Tryz.underlying29 rfl (info_lm _)
          exact results_one Tryz.results50 rfl hlv
      · go_simp
        obtain ⟨g5, hg5⟩ : ∃ g5, v2.heap.size = g5 := ⟨_, rfl⟩
        obtain ⟨w5, hw5⟩ : ∃ w5, v2.alloc (.cells #[.int .u64 0, .int .u64 0, .int .u64 0, .int .u64 0] 29) = w5 := ⟨_, rfl⟩
        have E5 := hide (X.out.add hg5 (show URow (v2.alloc (.cells #[.int .u64 0, .int .u64 0, .int .u64 0, .int .u64 0] 29)) g5 4 (fun _ => 0) from URow.box v2 4 (fun _ => 0) 29 hg5))
        have hb := bAl (o := .cells #[.int .u64 0, .int .u64 0, .int .u64 0, .int .u64 0] 29) (bMe v2)
        rw [hw5] at E5 hb
        replace X := hide (X.out.after hb)
        replace NX := hide (NX.out.below hb)
        replace NY := hide (NY.out.below hb)
        rw [hg5, hw5]
        clear hb hw5 hg5
        refine hK.out _ _ X.out (fun _ => ?_)
        clear hK K
        refine wpAnyH_ready (rs := [4]) (by kernel_rfl) (by simp) ?_
        refine rd4 (fun K hK => ?_) AllReadyH.nil
        go_simp
        refine (add_new NX.out NY.out (by omega)).mono ?_
        rintro e u3 ⟨zo, zn, zc, rfl, nz, hb, _⟩
        simp only []
        replace X := hide (X.out.after hb)
        replace E5 := hide (E5.out.after hb)
        have NZ := hide nz
        clear nz NX NY
        clear hb
        refine hK.out _ _ X.out (fun _ => ?_)
        clear hK K
        refine wpAnyH_ready (rs := [5]) (by kernel_rfl) (by simp) ?_
        refine rd5 (fun K hK => ?_) AllReadyH.nil
        go_simp
        refine (int_ok NZ.out HN.out).mono ?_
        rintro e u4 ⟨rfl, hb⟩
        simp only []
        replace X := hide (X.out.after hb)
        replace E5 := hide (E5.out.after hb)
        clear NZ
        clear hb
        refine hK.out _ _ X.out (fun _ => ?_)
        clear hK K
        refine tk6 (v := .tuple #[big (a + b), .bool true]) (by kernel_rfl) (by kernel_rfl) (by kernel_rfl) (fun _ _ _ h => h) X.out (Or.inl ⟨by rfl, fun w hw => by go_simp; try (with_reducible rfl)⟩) ?_
        simp only [Act.put, List.setIfInBounds_toArray, List.set_cons_zero, List.set_cons_succ]
        refine tk7 (v := big (a + b)) (by kernel_rfl) (by kernel_rfl) (by kernel_rfl) (fun _ _ _ h => h) X.out (Or.inl ⟨by rfl, fun w hw => by go_simp; try (with_reducible rfl)⟩) ?_
        simp only [Act.put, List.setIfInBounds_toArray, List.set_cons_zero, List.set_cons_succ]
        refine tk8 (v := .bool true) (by kernel_rfl) (by kernel_rfl) (by kernel_rfl) (fun _ _ _ h => h) X.out (Or.inl ⟨by rfl, fun w hw => by go_simp; try (with_reducible rfl)⟩) ?_
        simp only [Act.put, List.setIfInBounds_toArray, List.set_cons_zero, List.set_cons_succ]
        refine wpAnyH_ready (rs := [10]) (by kernel_rfl) (by simp) ?_
        refine rd10 (fun K hK => ?_) AllReadyH.nil
        rw [if_pos (by rfl)]
        refine wp_store_mid _ _ _ rfl g5 0 (rowU 4 (lm (a + b))).toArray rfl rfl ((E5.out.get 0 rfl).thereA _) (info_lmA _) (rowU_oneA _ _) ?_
        obtain ⟨w6, hw6⟩ : ∃ w6, u4.setCells g5 0 (rowU 4 (lm (a + b))) = w6 := ⟨_, rfl⟩
        have E6 := hide (E5.out.put 0 rfl (lm (a + b)))
        rw [hw6] at E6
        rw [show (rowU 4 (lm (a + b))).toArray.toList = rowU 4 (lm (a + b)) from List.toList_toArray, hw6]
        replace X := hide E6.out.tail
        clear hw6 E5
        refine hK.out _ _ X.out (fun _ => ?_)
        clear hK K
        refine tk11 (v := .bool true) (by kernel_rfl) (by kernel_rfl) (by kernel_rfl) (fun _ _ _ h => h) X.out (Or.inl ⟨by rfl, fun w hw => by go_simp; try (with_reducible rfl)⟩) ?_
        simp only [Act.put, List.setIfInBounds_toArray, List.set_cons_zero, List.set_cons_succ]
        refine wpAnyH_done (by kernel_rfl) ?_ _
        go_wp2_with (first
          | refine wpList_load_mid rfl 29 _ rfl g5 0 rfl (rowU 4 (lm (a + b))) _ (E6.out.get 0 rfl).range Tryz.underlying29 rfl (info_lm _) ?_
          | refine wpList_store_mid rfl 29 _ _ rfl (g + 2) 0 (rowU 4 (lm (a + b))).toArray rfl rfl ((E6.out.get 1 rfl).thereA _) (info_lmA _) (rowU_oneA _ _) ?_)
        have EE := hide (E6.out.put 1 rfl (lm (a + b)))
        refine bodyPost_ret (v := big (a + b)) ?_ rfl ⟨rfl, EE.out.below⟩
        have hlv := run_loadVar_mid (P := Tryz.prog) _ _ _ _ _ _ (EE.out.get 1 rfl).range Tryz.underlying29 rfl (info_lm _)
        exact results_one Tryz.results50 rfl hlv
    · go_simp
      obtain ⟨g5, hg5⟩ : ∃ g5, v1.heap.size = g5 := ⟨_, rfl⟩
      obtain ⟨w5, hw5⟩ : ∃ w5, v1.alloc (.cells #[.int .u64 0, .int .u64 0, .int .u64 0, .int .u64 0] 29) = w5 := ⟨_, rfl⟩
      have E5 := hide (X.out.add hg5 (show URow (v1.alloc (.cells #[.int .u64 0, .int .u64 0, .int .u64 0, .int .u64 0] 29)) g5 4 (fun _ => 0) from URow.box v1 4 (fun _ => 0) 29 hg5))
      have hb := bAl (o := .cells #[.int .u64 0, .int .u64 0, .int .u64 0, .int .u64 0] 29) (bMe v1)
      rw [hw5] at E5 hb
      replace X := hide (X.out.after hb)
      replace NX := hide (NX.out.below hb)
      rw [hg5, hw5]
      clear hb hw5 hg5
      refine hK.out _ _ X.out (fun _ => ?_)
      clear hK K
      refine wpAnyH_ready (rs := [3]) (by kernel_rfl) (by simp) ?_
      refine rd3 (fun K hK => ?_) AllReadyH.nil
      go_simp
      refine (row_new b _ HB.out).mono ?_
      rintro e u2 ⟨yo, yn, yc, rfl, ny, hb, _⟩
      simp only []
      replace X := hide (X.out.after hb)
      replace NX := hide (NX.out.below hb)
      replace E5 := hide (E5.out.after hb)
      have NY := hide ny
      clear ny
      clear hb
      refine hK.out _ _ X.out (fun _ => ?_)
      clear hK K
      refine wpAnyH_ready (rs := [4]) (by kernel_rfl) (by simp) ?_
      refine rd4 (fun K hK => ?_) AllReadyH.nil
      go_simp
      refine (add_new NX.out NY.out (by omega)).mono ?_
      rintro e u3 ⟨zo, zn, zc, rfl, nz, hb, _⟩
      simp only []
      replace X := hide (X.out.after hb)
      replace E5 := hide (E5.out.after hb)
      have NZ := hide nz
      clear nz NX NY
      clear hb
      refine hK.out _ _ X.out (fun _ => ?_)
      clear hK K
      refine wpAnyH_ready (rs := [5]) (by kernel_rfl) (by simp) ?_
      refine rd5 (fun K hK => ?_) AllReadyH.nil
      go_simp
      refine (int_ok NZ.out HN.out).mono ?_
      rintro e u4 ⟨rfl, hb⟩
      simp only []
      replace X := hide (X.out.after hb)
      replace E5 := hide (E5.out.after hb)
      clear NZ
      clear hb
      refine hK.out _ _ X.out (fun _ => ?_)
      clear hK K
      refine tk6 (v := .tuple #[big (a + b), .bool true]) (by kernel_rfl) (by kernel_rfl) (by kernel_rfl) (fun _ _ _ h => h) X.out (Or.inl ⟨by rfl, fun w hw => by go_simp; try (with_reducible rfl)⟩) ?_
      simp only [Act.put, List.setIfInBounds_toArray, List.set_cons_zero, List.set_cons_succ]
      refine tk7 (v := big (a + b)) (by kernel_rfl) (by kernel_rfl) (by kernel_rfl) (fun _ _ _ h => h) X.out (Or.inl ⟨by rfl, fun w hw => by go_simp; try (with_reducible rfl)⟩) ?_
      simp only [Act.put, List.setIfInBounds_toArray, List.set_cons_zero, List.set_cons_succ]
      refine tk8 (v := .bool true) (by kernel_rfl) (by kernel_rfl) (by kernel_rfl) (fun _ _ _ h => h) X.out (Or.inl ⟨by rfl, fun w hw => by go_simp; try (with_reducible rfl)⟩) ?_
      simp only [Act.put, List.setIfInBounds_toArray, List.set_cons_zero, List.set_cons_succ]
      refine wpAnyH_ready (rs := [10]) (by kernel_rfl) (by simp) ?_
      refine rd10 (fun K hK => ?_) AllReadyH.nil
      rw [if_pos (by rfl)]
      refine wp_store_mid _ _ _ rfl g5 0 (rowU 4 (lm (a + b))).toArray rfl rfl ((E5.out.get 0 rfl).thereA _) (info_lmA _) (rowU_oneA _ _) ?_
      obtain ⟨w6, hw6⟩ : ∃ w6, u4.setCells g5 0 (rowU 4 (lm (a + b))) = w6 := ⟨_, rfl⟩
      have E6 := hide (E5.out.put 0 rfl (lm (a + b)))
      rw [hw6] at E6
      rw [show (rowU 4 (lm (a + b))).toArray.toList = rowU 4 (lm (a + b)) from List.toList_toArray, hw6]
      replace X := hide E6.out.tail
      clear hw6 E5
      refine hK.out _ _ X.out (fun _ => ?_)
      clear hK K
      refine tk11 (v := .bool true) (by kernel_rfl) (by kernel_rfl) (by kernel_rfl) (fun _ _ _ h => h) X.out (Or.inl ⟨by rfl, fun w hw => by go_simp; try (with_reducible rfl)⟩) ?_
      simp only [Act.put, List.setIfInBounds_toArray, List.set_cons_zero, List.set_cons_succ]
      refine wpAnyH_done (by kernel_rfl) ?_ _
      go_wp2_with (first
        | refine wpList_load_mid rfl 29 _ rfl g5 0 rfl (rowU 4 (lm (a + b))) _ (E6.out.get 0 rfl).range Tryz.underlying29 rfl (info_lm _) ?_
        | refine wpList_store_mid rfl 29 _ _ rfl (g + 2) 0 (rowU 4 (lm (a + b))).toArray rfl rfl ((E6.out.get 1 rfl).thereA _) (info_lmA _) (rowU_oneA _ _) ?_)
      have EE := hide (E6.out.put 1 rfl (lm (a + b)))
      refine bodyPost_ret (v := big (a + b)) ?_ rfl ⟨rfl, EE.out.below⟩
      have hlv := run_loadVar_mid (P := Tryz.prog) _ _ _ _ _ _ (EE.out.get 1 rfl).range Tryz.underlying29 rfl (info_lm _)
      exact results_one Tryz.results50 rfl hlv
  · go_simp
    obtain ⟨g5, hg5⟩ : ∃ g5, v0.heap.size = g5 := ⟨_, rfl⟩
    obtain ⟨w5, hw5⟩ : ∃ w5, v0.alloc (.cells #[.int .u64 0, .int .u64 0, .int .u64 0, .int .u64 0] 29) = w5 := ⟨_, rfl⟩
    have E5 := hide (X.out.add hg5 (show URow (v0.alloc (.cells #[.int .u64 0, .int .u64 0, .int .u64 0, .int .u64 0] 29)) g5 4 (fun _ => 0) from URow.box v0 4 (fun _ => 0) 29 hg5))
    have hb := bAl (o := .cells #[.int .u64 0, .int .u64 0, .int .u64 0, .int .u64 0] 29) (bMe v0)
    rw [hw5] at E5 hb
    replace X := hide (X.out.after hb)
    rw [hg5, hw5]
    clear hb hw5 hg5
    refine hK.out _ _ X.out (fun _ => ?_)
    clear hK K
    refine wpAnyH_ready (rs := [1]) (by kernel_rfl) (by simp) ?_
    refine rd1 (fun K hK => ?_) AllReadyH.nil
    go_simp
    refine (row_new a _ HA.out).mono ?_
    rintro e u1 ⟨xo, xn, xc, rfl, nx, hb, _⟩
    simp only []
    replace X := hide (X.out.after hb)
    replace E5 := hide (E5.out.after hb)
    have NX := hide nx
    clear nx
    clear hb
    refine hK.out _ _ X.out (fun _ => ?_)
    clear hK K
    refine wpAnyH_ready (rs := [3]) (by kernel_rfl) (by simp) ?_
    refine rd3 (fun K hK => ?_) AllReadyH.nil
    go_simp
    refine (row_new b _ HB.out).mono ?_
    rintro e u2 ⟨yo, yn, yc, rfl, ny, hb, _⟩
    simp only []
    replace X := hide (X.out.after hb)
    replace E5 := hide (E5.out.after hb)
    replace NX := hide (NX.out.below hb)
    have NY := hide ny
    clear ny
    clear hb
    refine hK.out _ _ X.out (fun _ => ?_)
    clear hK K
    refine wpAnyH_ready (rs := [4]) (by kernel_rfl) (by simp) ?_
    refine rd4 (fun K hK => ?_) AllReadyH.nil
    go_simp
    refine (add_new NX.out NY.out (by omega)).mono ?_
    rintro e u3 ⟨zo, zn, zc, rfl, nz, hb, _⟩
    simp only []
    replace X := hide (X.out.after hb)
    replace E5 := hide (E5.out.after hb)
    have NZ := hide nz
    clear nz NX NY
    clear hb
    refine hK.out _ _ X.out (fun _ => ?_)
    clear hK K
    refine wpAnyH_ready (rs := [5]) (by kernel_rfl) (by simp) ?_
    refine rd5 (fun K hK => ?_) AllReadyH.nil
    go_simp
    refine (int_ok NZ.out HN.out).mono ?_
    rintro e u4 ⟨rfl, hb⟩
    simp only []
    replace X := hide (X.out.after hb)
    replace E5 := hide (E5.out.after hb)
    clear NZ
    clear hb
    refine hK.out _ _ X.out (fun _ => ?_)
    clear hK K
    refine tk6 (v := .tuple #[big (a + b), .bool true]) (by kernel_rfl) (by kernel_rfl) (by kernel_rfl) (fun _ _ _ h => h) X.out (Or.inl ⟨by rfl, fun w hw => by go_simp; try (with_reducible rfl)⟩) ?_
    simp only [Act.put, List.setIfInBounds_toArray, List.set_cons_zero, List.set_cons_succ]
    refine tk7 (v := big (a + b)) (by kernel_rfl) (by kernel_rfl) (by kernel_rfl) (fun _ _ _ h => h) X.out (Or.inl ⟨by rfl, fun w hw => by go_simp; try (with_reducible rfl)⟩) ?_
    simp only [Act.put, List.setIfInBounds_toArray, List.set_cons_zero, List.set_cons_succ]
    refine tk8 (v := .bool true) (by kernel_rfl) (by kernel_rfl) (by kernel_rfl) (fun _ _ _ h => h) X.out (Or.inl ⟨by rfl, fun w hw => by go_simp; try (with_reducible rfl)⟩) ?_
    simp only [Act.put, List.setIfInBounds_toArray, List.set_cons_zero, List.set_cons_succ]
    refine wpAnyH_ready (rs := [10]) (by kernel_rfl) (by simp) ?_
    refine rd10 (fun K hK => ?_) AllReadyH.nil
    rw [if_pos (by rfl)]
    refine wp_store_mid _ _ _ rfl g5 0 (rowU 4 (lm (a + b))).toArray rfl rfl ((E5.out.get 0 rfl).thereA _) (info_lmA _) (rowU_oneA _ _) ?_
    obtain ⟨w6, hw6⟩ : ∃ w6, u4.setCells g5 0 (rowU 4 (lm (a + b))) = w6 := ⟨_, rfl⟩
    have E6 := hide (E5.out.put 0 rfl (lm (a + b)))
    rw [hw6] at E6
    rw [show (rowU 4 (lm (a + b))).toArray.toList = rowU 4 (lm (a + b)) from List.toList_toArray, hw6]
    replace X := hide E6.out.tail
    clear hw6 E5
    refine hK.out _ _ X.out (fun _ => ?_)
    clear hK K
    refine tk11 (v := .bool true) (by kernel_rfl) (by kernel_rfl) (by kernel_rfl) (fun _ _ _ h => h) X.out (Or.inl ⟨by rfl, fun w hw => by go_simp; try (with_reducible rfl)⟩) ?_
    simp only [Act.put, List.setIfInBounds_toArray, List.set_cons_zero, List.set_cons_succ]
    refine wpAnyH_done (by kernel_rfl) ?_ _
    go_wp2_with (first
      | refine wpList_load_mid rfl 29 _ rfl g5 0 rfl (rowU 4 (lm (a + b))) _ (E6.out.get 0 rfl).range Tryz.underlying29 rfl (info_lm _) ?_
      | refine wpList_store_mid rfl 29 _ _ rfl (g + 2) 0 (rowU 4 (lm (a + b))).toArray rfl rfl ((E6.out.get 1 rfl).thereA _) (info_lmA _) (rowU_oneA _ _) ?_)
    have EE := hide (E6.out.put 1 rfl (lm (a + b)))
    refine bodyPost_ret (v := big (a + b)) ?_ rfl ⟨rfl, EE.out.below⟩
    have hlv := run_loadVar_mid (P := Tryz.prog) _ _ _ _ _ _ (EE.out.get 1 rfl).range Tryz.underlying29 rfl (info_lm _)
    exact results_one Tryz.results50 rfl hlv
set_option maxRecDepth 100000 in
set_option maxHeartbeats 4000000 in
theorem sub13_any {a b : Int} (w : World) (ha : In a) (hb : In b) (hn : b ≤ a) :
    Calls Tryz.prog 52 #[big a, big b] w fun e w' => e = .returned (big (a - b)) ∧ Below w.heap.size w w' := by
  have HA := hide ha
  have HB := hide hb
  have HN := hide hn
  clear ha hb hn
  obtain ⟨W, hW⟩ : ∃ W, ((w.alloc (.cells (rowU 4 (lm a)).toArray 29)).alloc (.cells (rowU 4 (lm b)).toArray 29)).alloc (.cells (rowU 4 (fun _ => 0)).toArray 29) = W := ⟨_, rfl⟩
  obtain ⟨g, hg⟩ : ∃ g, w.heap.size = g := ⟨_, rfl⟩
  have E : Hid (Uxs w W [(g + 2, 4, fun _ => 0), (g + 1, 4, lm b), (g, 4, lm a)]) := by rw [← hW]; exact hide ((((Uxs.none w).add hg (URow.box w 4 (lm a) _ hg)).add (by simp [hg]) (URow.box _ 4 (lm b) _ (by simp [hg]))).add (by simp [hg]) (URow.box _ 4 (fun _ => 0) _ (by simp [hg])))
  have hW' : ((w.alloc (.cells #[.int .u64 (lm a 0), .int .u64 (lm a 1), .int .u64 (lm a 2), .int .u64 (lm a 3)] 29)).alloc (.cells #[.int .u64 (lm b 0), .int .u64 (lm b 1), .int .u64 (lm b 2), .int .u64 (lm b 3)] 29)).alloc (.cells #[.int .u64 0, .int .u64 0, .int .u64 0, .int .u64 0] 29) = W := hW
  clear hW
  go_enter Tryz.func52, Tryz.ntmps52
  go_wp2
  try rw [hW']
  try rw [hg]
  clear hW' hg
  have X : Hid (Uxs w W.drew [(g + 2, 4, fun _ => 0), (g + 1, 4, lm b), (g, 4, lm a)]) := hide (E.out.after (bMe W).drew)
  clear E
  refine wp_region_held_drew (S := fun w1 => Uxs w w1 [(g + 2, 4, fun _ => 0), (g + 1, 4, lm b), (g, 4, lm a)]) (by kernel_rfl) X.out (fun _ => ?_)
  obtain ⟨v0, hv0⟩ : ∃ v0, W.drew = v0 := ⟨_, rfl⟩
  rw [hv0] at X ⊢
  clear hv0
  refine tk0 (by kernel_rfl) (by kernel_rfl) (by kernel_rfl) (fun _ _ _ h => h) X.out (yieldsIf_load_mid (by rfl) _ _ rfl (g) (0) rfl (rowU 4 (lm a)) _ (fun _ hw => (hw.get 2 rfl).range) Tryz.underlying29 rfl (info_lm _)) ?_
  simp only [Act.put, List.setIfInBounds_toArray, List.set_cons_zero, List.set_cons_succ]
  refine tk2 (by kernel_rfl) (by kernel_rfl) (by kernel_rfl) (fun _ _ _ h => h) X.out (yieldsIf_load_mid (by rfl) _ _ rfl (g + 1) (0) rfl (rowU 4 (lm b)) _ (fun _ hw => (hw.get 1 rfl).range) Tryz.underlying29 rfl (info_lm _)) ?_
  simp only [Act.put, List.setIfInBounds_toArray, List.set_cons_zero, List.set_cons_succ]
  refine wpAnyH_ready (rs := [1, 9]) (by kernel_rfl) (by simp) ?_
  refine rd1 (fun K hK => ?_) (rd9 (fun K hK => ?_) AllReadyH.nil)
  · go_simp
    refine (row_new a _ HA.out).mono ?_
    rintro e v1 ⟨xo, xn, xc, rfl, nx, hb, _⟩
    simp only []
    replace X := hide (X.out.after hb)
    have NX := hide nx
    clear nx
    clear hb
    refine hK.out _ _ X.out (fun _ => ?_)
    clear hK K
    refine wpAnyH_ready (rs := [3, 9]) (by kernel_rfl) (by simp) ?_
    refine rd3 (fun K hK => ?_) (rd9 (fun K hK => ?_) AllReadyH.nil)
    · go_simp
      refine (row_new b _ HB.out).mono ?_
      rintro e v2 ⟨yo, yn, yc, rfl, ny, hb, _⟩
      simp only []
      replace X := hide (X.out.after hb)
      replace NX := hide (NX.out.below hb)
      have NY := hide ny
      clear ny
      clear hb
      refine hK.out _ _ X.out (fun _ => ?_)
      clear hK K
      refine wpAnyH_ready (rs := [4, 9]) (by kernel_rfl) (by simp) ?_
      refine rd4 (fun K hK => ?_) (rd9 (fun K hK => ?_) AllReadyH.nil)
      · go_simp
        refine (sub_new NX.out NY.out HN.out).mono ?_
        rintro e v3 ⟨zo, zn, zc, rfl, nz, hb, _⟩
        simp only []
        replace X := hide (X.out.after hb)
        have NZ := hide nz
        clear nz NX NY
        clear hb
        refine hK.out _ _ X.out (fun _ => ?_)
        clear hK K
        refine wpAnyH_ready (rs := [5, 9]) (by kernel_rfl) (by simp) ?_
        refine rd5 (fun K hK => ?_) (rd9 (fun K hK => ?_) AllReadyH.nil)
        · go_simp
          refine (int_ok NZ.out (by have := HA.out; have := HB.out; have := HN.out; unfold In at *; omega)).mono ?_
          rintro e v4 ⟨rfl, hb⟩
          simp only []
          replace X := hide (X.out.after hb)
          clear NZ
          clear hb
          refine hK.out _ _ X.out (fun _ => ?_)
          clear hK K
          refine tk6 (v := .tuple #[big (a - b), .bool true]) (by kernel_rfl) (by kernel_rfl) (by kernel_rfl) (fun _ _ _ h => h) X.out (Or.inl ⟨by rfl, fun w hw => by go_simp; try (with_reducible rfl)⟩) ?_
          simp only [Act.put, List.setIfInBounds_toArray, List.set_cons_zero, List.set_cons_succ]
          refine tk7 (v := big (a - b)) (by kernel_rfl) (by kernel_rfl) (by kernel_rfl) (fun _ _ _ h => h) X.out (Or.inl ⟨by rfl, fun w hw => by go_simp; try (with_reducible rfl)⟩) ?_
          simp only [Act.put, List.setIfInBounds_toArray, List.set_cons_zero, List.set_cons_succ]
          refine tk8 (v := .bool true) (by kernel_rfl) (by kernel_rfl) (by kernel_rfl) (fun _ _ _ h => h) X.out (Or.inl ⟨by rfl, fun w hw => by go_simp; try (with_reducible rfl)⟩) ?_
          simp only [Act.put, List.setIfInBounds_toArray, List.set_cons_zero, List.set_cons_succ]
          refine wpAnyH_ready (rs := [9]) (by kernel_rfl) (by simp) ?_
          refine rd9 (fun K hK => ?_) AllReadyH.nil
          go_simp
          obtain ⟨g5, hg5⟩ : ∃ g5, v4.heap.size = g5 := ⟨_, rfl⟩
          obtain ⟨w5, hw5⟩ : ∃ w5, v4.alloc (.cells #[.int .u64 0, .int .u64 0, .int .u64 0, .int .u64 0] 29) = w5 := ⟨_, rfl⟩
          have E5 := hide (X.out.add hg5 (show URow (v4.alloc (.cells #[.int .u64 0, .int .u64 0, .int .u64 0, .int .u64 0] 29)) g5 4 (fun _ => 0) from URow.box v4 4 (fun _ => 0) 29 hg5))
          have hb := bAl (o := .cells #[.int .u64 0, .int .u64 0, .int .u64 0, .int .u64 0] 29) (bMe v4)
          rw [hw5] at E5 hb
          replace X := hide (X.out.after hb)
          rw [hg5, hw5]
          clear hb hw5 hg5
          refine hK.out _ _ X.out (fun _ => ?_)
          clear hK K
          refine wpAnyH_ready (rs := [10]) (by kernel_rfl) (by simp) ?_
          refine rd10 (fun K hK => ?_) AllReadyH.nil
          rw [if_pos (by rfl)]
          refine wp_store_mid _ _ _ rfl g5 0 (rowU 4 (lm (a - b))).toArray rfl rfl ((E5.out.get 0 rfl).thereA _) (info_lmA _) (rowU_oneA _ _) ?_
          obtain ⟨w6, hw6⟩ : ∃ w6, w5.setCells g5 0 (rowU 4 (lm (a - b))) = w6 := ⟨_, rfl⟩
          have E6 := hide (E5.out.put 0 rfl (lm (a - b)))
          rw [hw6] at E6
          rw [show (rowU 4 (lm (a - b))).toArray.toList = rowU 4 (lm (a - b)) from List.toList_toArray, hw6]
          replace X := hide E6.out.tail
          clear hw6 E5
          refine hK.out _ _ X.out (fun _ => ?_)
          clear hK K
          refine tk11 (v := .bool true) (by kernel_rfl) (by kernel_rfl) (by kernel_rfl) (fun _ _ _ h => h) X.out (Or.inl ⟨by rfl, fun w hw => by go_simp; try (with_reducible rfl)⟩) ?_
          simp only [Act.put, List.setIfInBounds_toArray, List.set_cons_zero, List.set_cons_succ]
          refine wpAnyH_done (by kernel_rfl) ?_ _
          go_wp2_with (first
            | refine wpList_load_mid rfl 29 _ rfl g5 0 rfl (rowU 4 (lm (a - b))) _ (E6.out.get 0 rfl).range Tryz.underlying29 rfl (info_lm _) ?_
            | refine wpList_store_mid rfl 29 _ _ rfl (g + 2) 0 (rowU 4 (lm (a - b))).toArray rfl rfl ((E6.out.get 1 rfl).thereA _) (info_lmA _) (rowU_oneA _ _) ?_)
          have EE := hide (E6.out.put 1 rfl (lm (a - b)))
          refine bodyPost_ret (v := big (a - b)) ?_ rfl ⟨rfl, EE.out.below⟩
          have hlv := run_loadVar_mid (P := Tryz.prog) _ _ _ _ _ _ (EE.out.get 1 rfl).range Tryz.underlying29 rfl (info_lm _)
          exact results_one Tryz.results52 rfl hlv
        · go_simp
          obtain ⟨g5, hg5⟩ : ∃ g5, v3.heap.size = g5 := ⟨_, rfl⟩
          obtain ⟨w5, hw5⟩ : ∃ w5, v3.alloc (.cells #[.int .u64 0, .int .u64 0, .int .u64 0, .int .u64 0] 29) = w5 := ⟨_, rfl⟩
          have E5 := hide (X.out.add hg5 (show URow (v3.alloc (.cells #[.int .u64 0, .int .u64 0, .int .u64 0, .int .u64 0] 29)) g5 4 (fun _ => 0) from URow.box v3 4 (fun _ => 0) 29 hg5))
          have hb := bAl (o := .cells #[.int .u64 0, .int .u64 0, .int .u64 0, .int .u64 0] 29) (bMe v3)
          rw [hw5] at E5 hb
          replace X := hide (X.out.after hb)
          replace NZ := hide (NZ.out.below hb)
          rw [hg5, hw5]
          clear hb hw5 hg5
          refine hK.out _ _ X.out (fun _ => ?_)
          clear hK K
          refine wpAnyH_ready (rs := [5]) (by kernel_rfl) (by simp) ?_
          refine rd5 (fun K hK => ?_) AllReadyH.nil
          go_simp
          refine (int_ok NZ.out (by have := HA.out; have := HB.out; have := HN.out; unfold In at *; omega)).mono ?_
          rintro e u4 ⟨rfl, hb⟩
          simp only []
          replace X := hide (X.out.after hb)
          replace E5 := hide (E5.out.after hb)
          clear NZ
          clear hb
          refine hK.out _ _ X.out (fun _ => ?_)
          clear hK K
          refine tk6 (v := .tuple #[big (a - b), .bool true]) (by kernel_rfl) (by kernel_rfl) (by kernel_rfl) (fun _ _ _ h => h) X.out (Or.inl ⟨by rfl, fun w hw => by go_simp; try (with_reducible rfl)⟩) ?_
          simp only [Act.put, List.setIfInBounds_toArray, List.set_cons_zero, List.set_cons_succ]
          refine tk7 (v := big (a - b)) (by kernel_rfl) (by kernel_rfl) (by kernel_rfl) (fun _ _ _ h => h) X.out (Or.inl ⟨by rfl, fun w hw => by go_simp; try (with_reducible rfl)⟩) ?_
          simp only [Act.put, List.setIfInBounds_toArray, List.set_cons_zero, List.set_cons_succ]
          refine tk8 (v := .bool true) (by kernel_rfl) (by kernel_rfl) (by kernel_rfl) (fun _ _ _ h => h) X.out (Or.inl ⟨by rfl, fun w hw => by go_simp; try (with_reducible rfl)⟩) ?_
          simp only [Act.put, List.setIfInBounds_toArray, List.set_cons_zero, List.set_cons_succ]
          refine wpAnyH_ready (rs := [10]) (by kernel_rfl) (by simp) ?_
          refine rd10 (fun K hK => ?_) AllReadyH.nil
          rw [if_pos (by rfl)]
          refine wp_store_mid _ _ _ rfl g5 0 (rowU 4 (lm (a - b))).toArray rfl rfl ((E5.out.get 0 rfl).thereA _) (info_lmA _) (rowU_oneA _ _) ?_
          obtain ⟨w6, hw6⟩ : ∃ w6, u4.setCells g5 0 (rowU 4 (lm (a - b))) = w6 := ⟨_, rfl⟩
          have E6 := hide (E5.out.put 0 rfl (lm (a - b)))
          rw [hw6] at E6
          rw [show (rowU 4 (lm (a - b))).toArray.toList = rowU 4 (lm (a - b)) from List.toList_toArray, hw6]
          replace X := hide E6.out.tail
          clear hw6 E5
          refine hK.out _ _ X.out (fun _ => ?_)
          clear hK K
          refine tk11 (v := .bool true) (by kernel_rfl) (by kernel_rfl) (by kernel_rfl) (fun _ _ _ h => h) X.out (Or.inl ⟨by rfl, fun w hw => by go_simp; try (with_reducible rfl)⟩) ?_
          simp only [Act.put, List.setIfInBounds_toArray, List.set_cons_zero, List.set_cons_succ]
          refine wpAnyH_done (by kernel_rfl) ?_ _
          go_wp2_with (first
            | refine wpList_load_mid rfl 29 _ rfl g5 0 rfl (rowU 4 (lm (a - b))) _ (E6.out.get 0 rfl).range Tryz.underlying29 rfl (info_lm _) ?_
            | refine wpList_store_mid rfl 29 _ _ rfl (g + 2) 0 (rowU 4 (lm (a - b))).toArray rfl rfl ((E6.out.get 1 rfl).thereA _) (info_lmA _) (rowU_oneA _ _) ?_)
          have EE := hide (E6.out.put 1 rfl (lm (a - b)))
          refine bodyPost_ret (v := big (a - b)) ?_ rfl ⟨rfl, EE.out.below⟩
          have hlv := run_loadVar_mid (P := Tryz.prog) _ _ _ _ _ _ (EE.out.get 1 rfl).range Tryz.underlying29 rfl (info_lm _)
          exact results_one Tryz.results52 rfl hlv
      · go_simp
        obtain ⟨g5, hg5⟩ : ∃ g5, v2.heap.size = g5 := ⟨_, rfl⟩
        obtain ⟨w5, hw5⟩ : ∃ w5, v2.alloc (.cells #[.int .u64 0, .int .u64 0, .int .u64 0, .int .u64 0] 29) = w5 := ⟨_, rfl⟩
        have E5 := hide (X.out.add hg5 (show URow (v2.alloc (.cells #[.int .u64 0, .int .u64 0, .int .u64 0, .int .u64 0] 29)) g5 4 (fun _ => 0) from URow.box v2 4 (fun _ => 0) 29 hg5))
        have hb := bAl (o := .cells #[.int .u64 0, .int .u64 0, .int .u64 0, .int .u64 0] 29) (bMe v2)
        rw [hw5] at E5 hb
        replace X := hide (X.out.after hb)
        replace NX := hide (NX.out.below hb)
        replace NY := hide (NY.out.below hb)
        rw [hg5, hw5]
        clear hb hw5 hg5
        refine hK.out _ _ X.out (fun _ => ?_)
        clear hK K
        refine wpAnyH_ready (rs := [4]) (by kernel_rfl) (by simp) ?_
        refine rd4 (fun K hK => ?_) AllReadyH.nil
        go_simp
        refine (sub_new NX.out NY.out HN.out).mono ?_
        rintro e u3 ⟨zo, zn, zc, rfl, nz, hb, _⟩
        simp only []
        replace X := hide (X.out.after hb)
        replace E5 := hide (E5.out.after hb)
        have NZ := hide nz
        clear nz NX NY
        clear hb
        refine hK.out _ _ X.out (fun _ => ?_)
        clear hK K
        refine wpAnyH_ready (rs := [5]) (by kernel_rfl) (by simp) ?_
        refine rd5 (fun K hK => ?_) AllReadyH.nil
        go_simp
        refine (int_ok NZ.out (by have := HA.out; have := HB.out; have := HN.out; unfold In at *; omega)).mono ?_
        rintro e u4 ⟨rfl, hb⟩
        simp only []
        replace X := hide (X.out.after hb)
        replace E5 := hide (E5.out.after hb)
        clear NZ
        clear hb
        refine hK.out _ _ X.out (fun _ => ?_)
        clear hK K
        refine tk6 (v := .tuple #[big (a - b), .bool true]) (by kernel_rfl) (by kernel_rfl) (by kernel_rfl) (fun _ _ _ h => h) X.out (Or.inl ⟨by rfl, fun w hw => by go_simp; try (with_reducible rfl)⟩) ?_
        simp only [Act.put, List.setIfInBounds_toArray, List.set_cons_zero, List.set_cons_succ]
        refine tk7 (v := big (a - b)) (by kernel_rfl) (by kernel_rfl) (by kernel_rfl) (fun _ _ _ h => h) X.out (Or.inl ⟨by rfl, fun w hw => by go_simp; try (with_reducible rfl)⟩) ?_
        simp only [Act.put, List.setIfInBounds_toArray, List.set_cons_zero, List.set_cons_succ]
        refine tk8 (v := .bool true) (by kernel_rfl) (by kernel_rfl) (by kernel_rfl) (fun _ _ _ h => h) X.out (Or.inl ⟨by rfl, fun w hw => by go_simp; try (with_reducible rfl)⟩) ?_
        simp only [Act.put, List.setIfInBounds_toArray, List.set_cons_zero, List.set_cons_succ]
        refine wpAnyH_ready (rs := [10]) (by kernel_rfl) (by simp) ?_
        refine rd10 (fun K hK => ?_) AllReadyH.nil
        rw [if_pos (by rfl)]
        refine wp_store_mid _ _ _ rfl g5 0 (rowU 4 (lm (a - b))).toArray rfl rfl ((E5.out.get 0 rfl).thereA _) (info_lmA _) (rowU_oneA _ _) ?_
        obtain ⟨w6, hw6⟩ : ∃ w6, u4.setCells g5 0 (rowU 4 (lm (a - b))) = w6 := ⟨_, rfl⟩
        have E6 := hide (E5.out.put 0 rfl (lm (a - b)))
        rw [hw6] at E6
        rw [show (rowU 4 (lm (a - b))).toArray.toList = rowU 4 (lm (a - b)) from List.toList_toArray, hw6]
        replace X := hide E6.out.tail
        clear hw6 E5
        refine hK.out _ _ X.out (fun _ => ?_)
        clear hK K
        refine tk11 (v := .bool true) (by kernel_rfl) (by kernel_rfl) (by kernel_rfl) (fun _ _ _ h => h) X.out (Or.inl ⟨by rfl, fun w hw => by go_simp; try (with_reducible rfl)⟩) ?_
        simp only [Act.put, List.setIfInBounds_toArray, List.set_cons_zero, List.set_cons_succ]
        refine wpAnyH_done (by kernel_rfl) ?_ _
        go_wp2_with (first
          | refine wpList_load_mid rfl 29 _ rfl g5 0 rfl (rowU 4 (lm (a - b))) _ (E6.out.get 0 rfl).range Tryz.underlying29 rfl (info_lm _) ?_
          | refine wpList_store_mid rfl 29 _ _ rfl (g + 2) 0 (rowU 4 (lm (a - b))).toArray rfl rfl ((E6.out.get 1 rfl).thereA _) (info_lmA _) (rowU_oneA _ _) ?_)
        have EE := hide (E6.out.put 1 rfl (lm (a - b)))
        refine bodyPost_ret (v := big (a - b)) ?_ rfl ⟨rfl, EE.out.below⟩
        have hlv := run_loadVar_mid (P := Tryz.prog) _ _ _ _ _ _ (EE.out.get 1 rfl).range Tryz.underlying29 rfl (info_lm _)
        exact results_one Tryz.results52 rfl hlv
    · go_simp
      obtain ⟨g5, hg5⟩ : ∃ g5, v1.heap.size = g5 := ⟨_, rfl⟩
      obtain ⟨w5, hw5⟩ : ∃ w5, v1.alloc (.cells #[.int .u64 0, .int .u64 0, .int .u64 0, .int .u64 0] 29) = w5 := ⟨_, rfl⟩
      have E5 := hide (X.out.add hg5 (show URow (v1.alloc (.cells #[.int .u64 0, .int .u64 0, .int .u64 0, .int .u64 0] 29)) g5 4 (fun _ => 0) from URow.box v1 4 (fun _ => 0) 29 hg5))
      have hb := bAl (o := .cells #[.int .u64 0, .int .u64 0, .int .u64 0, .int .u64 0] 29) (bMe v1)
      rw [hw5] at E5 hb
      replace X := hide (X.out.after hb)
      replace NX := hide (NX.out.below hb)
      rw [hg5, hw5]
      clear hb hw5 hg5
      refine hK.out _ _ X.out (fun _ => ?_)
      clear hK K
      refine wpAnyH_ready (rs := [3]) (by kernel_rfl) (by simp) ?_
      refine rd3 (fun K hK => ?_) AllReadyH.nil
      go_simp
      refine (row_new b _ HB.out).mono ?_
      rintro e u2 ⟨yo, yn, yc, rfl, ny, hb, _⟩
      simp only []
      replace X := hide (X.out.after hb)
      replace NX := hide (NX.out.below hb)
      replace E5 := hide (E5.out.after hb)
      have NY := hide ny
      clear ny
      clear hb
      refine hK.out _ _ X.out (fun _ => ?_)
      clear hK K
      refine wpAnyH_ready (rs := [4]) (by kernel_rfl) (by simp) ?_
      refine rd4 (fun K hK => ?_) AllReadyH.nil
      go_simp
      refine (sub_new NX.out NY.out HN.out).mono ?_
      rintro e u3 ⟨zo, zn, zc, rfl, nz, hb, _⟩
      simp only []
      replace X := hide (X.out.after hb)
      replace E5 := hide (E5.out.after hb)
      have NZ := hide nz
      clear nz NX NY
      clear hb
      refine hK.out _ _ X.out (fun _ => ?_)
      clear hK K
      refine wpAnyH_ready (rs := [5]) (by kernel_rfl) (by simp) ?_
      refine rd5 (fun K hK => ?_) AllReadyH.nil
      go_simp
      refine (int_ok NZ.out (by have := HA.out; have := HB.out; have := HN.out; unfold In at *; omega)).mono ?_
      rintro e u4 ⟨rfl, hb⟩
      simp only []
      replace X := hide (X.out.after hb)
      replace E5 := hide (E5.out.after hb)
      clear NZ
      clear hb
      refine hK.out _ _ X.out (fun _ => ?_)
      clear hK K
      refine tk6 (v := .tuple #[big (a - b), .bool true]) (by kernel_rfl) (by kernel_rfl) (by kernel_rfl) (fun _ _ _ h => h) X.out (Or.inl ⟨by rfl, fun w hw => by go_simp; try (with_reducible rfl)⟩) ?_
      simp only [Act.put, List.setIfInBounds_toArray, List.set_cons_zero, List.set_cons_succ]
      refine tk7 (v := big (a - b)) (by kernel_rfl) (by kernel_rfl) (by kernel_rfl) (fun _ _ _ h => h) X.out (Or.inl ⟨by rfl, fun w hw => by go_simp; try (with_reducible rfl)⟩) ?_
      simp only [Act.put, List.setIfInBounds_toArray, List.set_cons_zero, List.set_cons_succ]
      refine tk8 (v := .bool true) (by kernel_rfl) (by kernel_rfl) (by kernel_rfl) (fun _ _ _ h => h) X.out (Or.inl ⟨by rfl, fun w hw => by go_simp; try (with_reducible rfl)⟩) ?_
      simp only [Act.put, List.setIfInBounds_toArray, List.set_cons_zero, List.set_cons_succ]
      refine wpAnyH_ready (rs := [10]) (by kernel_rfl) (by simp) ?_
      refine rd10 (fun K hK => ?_) AllReadyH.nil
      rw [if_pos (by rfl)]
      refine wp_store_mid _ _ _ rfl g5 0 (rowU 4 (lm (a - b))).toArray rfl rfl ((E5.out.get 0 rfl).thereA _) (info_lmA _) (rowU_oneA _ _) ?_
      obtain ⟨w6, hw6⟩ : ∃ w6, u4.setCells g5 0 (rowU 4 (lm (a - b))) = w6 := ⟨_, rfl⟩
      have E6 := hide (E5.out.put 0 rfl (lm (a - b)))
      rw [hw6] at E6
      rw [show (rowU 4 (lm (a - b))).toArray.toList = rowU 4 (lm (a - b)) from List.toList_toArray, hw6]
      replace X := hide E6.out.tail
      clear hw6 E5
      refine hK.out _ _ X.out (fun _ => ?_)
      clear hK K
      refine tk11 (v := .bool true) (by kernel_rfl) (by kernel_rfl) (by kernel_rfl) (fun _ _ _ h => h) X.out (Or.inl ⟨by rfl, fun w hw => by go_simp; try (with_reducible rfl)⟩) ?_
      simp only [Act.put, List.setIfInBounds_toArray, List.set_cons_zero, List.set_cons_succ]
      refine wpAnyH_done (by kernel_rfl) ?_ _
      go_wp2_with (first
        | refine wpList_load_mid rfl 29 _ rfl g5 0 rfl (rowU 4 (lm (a - b))) _ (E6.out.get 0 rfl).range Tryz.underlying29 rfl (info_lm _) ?_
        | refine wpList_store_mid rfl 29 _ _ rfl (g + 2) 0 (rowU 4 (lm (a - b))).toArray rfl rfl ((E6.out.get 1 rfl).thereA _) (info_lmA _) (rowU_oneA _ _) ?_)
      have EE := hide (E6.out.put 1 rfl (lm (a - b)))
      refine bodyPost_ret (v := big (a - b)) ?_ rfl ⟨rfl, EE.out.below⟩
      have hlv := run_loadVar_mid (P := Tryz.prog) _ _ _ _ _ _ (EE.out.get 1 rfl).range Tryz.underlying29 rfl (info_lm _)
      exact results_one Tryz.results52 rfl hlv
  · go_simp
    obtain ⟨g5, hg5⟩ : ∃ g5, v0.heap.size = g5 := ⟨_, rfl⟩
    obtain ⟨w5, hw5⟩ : ∃ w5, v0.alloc (.cells #[.int .u64 0, .int .u64 0, .int .u64 0, .int .u64 0] 29) = w5 := ⟨_, rfl⟩
    have E5 := hide (X.out.add hg5 (show URow (v0.alloc (.cells #[.int .u64 0, .int .u64 0, .int .u64 0, .int .u64 0] 29)) g5 4 (fun _ => 0) from URow.box v0 4 (fun _ => 0) 29 hg5))
    have hb := bAl (o := .cells #[.int .u64 0, .int .u64 0, .int .u64 0, .int .u64 0] 29) (bMe v0)
    rw [hw5] at E5 hb
    replace X := hide (X.out.after hb)
    rw [hg5, hw5]
    clear hb hw5 hg5
    refine hK.out _ _ X.out (fun _ => ?_)
    clear hK K
    refine wpAnyH_ready (rs := [1]) (by kernel_rfl) (by simp) ?_
    refine rd1 (fun K hK => ?_) AllReadyH.nil
    go_simp
    refine (row_new a _ HA.out).mono ?_
    rintro e u1 ⟨xo, xn, xc, rfl, nx, hb, _⟩
    simp only []
    replace X := hide (X.out.after hb)
    replace E5 := hide (E5.out.after hb)
    have NX := hide nx
    clear nx
    clear hb
    refine hK.out _ _ X.out (fun _ => ?_)
    clear hK K
    refine wpAnyH_ready (rs := [3]) (by kernel_rfl) (by simp) ?_
    refine rd3 (fun K hK => ?_) AllReadyH.nil
    go_simp
    refine (row_new b _ HB.out).mono ?_
    rintro e u2 ⟨yo, yn, yc, rfl, ny, hb, _⟩
    simp only []
    replace X := hide (X.out.after hb)
    replace E5 := hide (E5.out.after hb)
    replace NX := hide (NX.out.below hb)
    have NY := hide ny
    clear ny
    clear hb
    refine hK.out _ _ X.out (fun _ => ?_)
    clear hK K
    refine wpAnyH_ready (rs := [4]) (by kernel_rfl) (by simp) ?_
    refine rd4 (fun K hK => ?_) AllReadyH.nil
    go_simp
    refine (sub_new NX.out NY.out HN.out).mono ?_
    rintro e u3 ⟨zo, zn, zc, rfl, nz, hb, _⟩
    simp only []
    replace X := hide (X.out.after hb)
    replace E5 := hide (E5.out.after hb)
    have NZ := hide nz
    clear nz NX NY
    clear hb
    refine hK.out _ _ X.out (fun _ => ?_)
    clear hK K
    refine wpAnyH_ready (rs := [5]) (by kernel_rfl) (by simp) ?_
    refine rd5 (fun K hK => ?_) AllReadyH.nil
    go_simp
    refine (int_ok NZ.out (by have := HA.out; have := HB.out; have := HN.out; unfold In at *; omega)).mono ?_
    rintro e u4 ⟨rfl, hb⟩
    simp only []
    replace X := hide (X.out.after hb)
    replace E5 := hide (E5.out.after hb)
    clear NZ
    clear hb
    refine hK.out _ _ X.out (fun _ => ?_)
    clear hK K
    refine tk6 (v := .tuple #[big (a - b), .bool true]) (by kernel_rfl) (by kernel_rfl) (by kernel_rfl) (fun _ _ _ h => h) X.out (Or.inl ⟨by rfl, fun w hw => by go_simp; try (with_reducible rfl)⟩) ?_
    simp only [Act.put, List.setIfInBounds_toArray, List.set_cons_zero, List.set_cons_succ]
    refine tk7 (v := big (a - b)) (by kernel_rfl) (by kernel_rfl) (by kernel_rfl) (fun _ _ _ h => h) X.out (Or.inl ⟨by rfl, fun w hw => by go_simp; try (with_reducible rfl)⟩) ?_
    simp only [Act.put, List.setIfInBounds_toArray, List.set_cons_zero, List.set_cons_succ]
    refine tk8 (v := .bool true) (by kernel_rfl) (by kernel_rfl) (by kernel_rfl) (fun _ _ _ h => h) X.out (Or.inl ⟨by rfl, fun w hw => by go_simp; try (with_reducible rfl)⟩) ?_
    simp only [Act.put, List.setIfInBounds_toArray, List.set_cons_zero, List.set_cons_succ]
    refine wpAnyH_ready (rs := [10]) (by kernel_rfl) (by simp) ?_
    refine rd10 (fun K hK => ?_) AllReadyH.nil
    rw [if_pos (by rfl)]
    refine wp_store_mid _ _ _ rfl g5 0 (rowU 4 (lm (a - b))).toArray rfl rfl ((E5.out.get 0 rfl).thereA _) (info_lmA _) (rowU_oneA _ _) ?_
    obtain ⟨w6, hw6⟩ : ∃ w6, u4.setCells g5 0 (rowU 4 (lm (a - b))) = w6 := ⟨_, rfl⟩
    have E6 := hide (E5.out.put 0 rfl (lm (a - b)))
    rw [hw6] at E6
    rw [show (rowU 4 (lm (a - b))).toArray.toList = rowU 4 (lm (a - b)) from List.toList_toArray, hw6]
    replace X := hide E6.out.tail
    clear hw6 E5
    refine hK.out _ _ X.out (fun _ => ?_)
    clear hK K
    refine tk11 (v := .bool true) (by kernel_rfl) (by kernel_rfl) (by kernel_rfl) (fun _ _ _ h => h) X.out (Or.inl ⟨by rfl, fun w hw => by go_simp; try (with_reducible rfl)⟩) ?_
    simp only [Act.put, List.setIfInBounds_toArray, List.set_cons_zero, List.set_cons_succ]
    refine wpAnyH_done (by kernel_rfl) ?_ _
    go_wp2_with (first
      | refine wpList_load_mid rfl 29 _ rfl g5 0 rfl (rowU 4 (lm (a - b))) _ (E6.out.get 0 rfl).range Tryz.underlying29 rfl (info_lm _) ?_
      | refine wpList_store_mid rfl 29 _ _ rfl (g + 2) 0 (rowU 4 (lm (a - b))).toArray rfl rfl ((E6.out.get 1 rfl).thereA _) (info_lmA _) (rowU_oneA _ _) ?_)
    have EE := hide (E6.out.put 1 rfl (lm (a - b)))
    refine bodyPost_ret (v := big (a - b)) ?_ rfl ⟨rfl, EE.out.below⟩
    have hlv := run_loadVar_mid (P := Tryz.prog) _ _ _ _ _ _ (EE.out.get 1 rfl).range Tryz.underlying29 rfl (info_lm _)
    exact results_one Tryz.results52 rfl hlv
end Go.Proofs.YtncnilplmklccaaGreat

/- The document's side of layer 13: Supply (gen-ref13b.py). -/
namespace Go.Proofs.YtncnilplmklccaaGreat
set_option linter.unusedSimpArgs false
set_option linter.unusedVariables false
open Go.RowKit Go.Lib
attribute [local go_sem] setCell_drewN alloc_drewN

theorem info_72 (f : Nat → Int) : (Tryz.prog.info? 30).map (·.size) = some (rowU 72 f).length := by rw [rowU_length]; kernel_rfl
theorem idx_tb (f : Nat → Int) (w : World) {k : Nat} (hk : k < 18) : (Instr.index 30 (.agg (rowU 72 f).toArray) (.int .i64 (k : Int))).run Tryz.prog w = .ok (.agg #[.int .u64 (f (4 * k)), .int .u64 (f (4 * k + 1)), .int .u64 (f (4 * k + 2)), .int .u64 (f (4 * k + 3))]) w := by
  have h : k = 0 ∨ k = 1 ∨ k = 2 ∨ k = 3 ∨ k = 4 ∨ k = 5 ∨ k = 6 ∨ k = 7 ∨ k = 8 ∨ k = 9 ∨ k = 10 ∨ k = 11 ∨ k = 12 ∨ k = 13 ∨ k = 14 ∨ k = 15 ∨ k = 16 ∨ k = 17 := by omega
  rcases h with rfl | rfl | rfl | rfl | rfl | rfl | rfl | rfl | rfl | rfl | rfl | rfl | rfl | rfl | rfl | rfl | rfl | rfl <;> (show _ = _; kernel_rfl)
theorem sup_at {B : Tb} (hB : Tok B) {t k : Nat} (hk : k < 18) (i : Nat) (hi : i < 4) : tl B (t * 72 + (4 * k + i)) = lm (B (18 * t + k)) i := by
  rw [show t * 72 + (4 * k + i) = (18 * t + k) * 4 + i by omega]
  exact tl_at B _ i hi
set_option maxRecDepth 100000 in
set_option maxHeartbeats 1000000 in
theorem supply13_any {B : Tb} (hB : Tok B) {t : Nat} (ht : t < 4) (w : World) :
    Calls Tryz.prog 40 #[tv B, .int .u8 (t : Int)] w fun e w' => ∃ ao n cap, e = .returned (.slice ao n cap) ∧ Num w' ao n cap (sums (fun p => B (18 * t + p)) 18) 34 ∧ Below w.heap.size w w' := by
  have HB := hide hB
  clear hB
  obtain ⟨R, hR⟩ : ∃ R, (rowU 288 (tl B)).toArray = R := ⟨_, rfl⟩
  obtain ⟨W, hW⟩ : ∃ W, w.alloc (.cells R 33) = W := ⟨_, rfl⟩
  obtain ⟨g, hg⟩ : ∃ g, w.heap.size = g := ⟨_, rfl⟩
  have E : Hid (Uxs w W [(g, 288, tl B)]) := by rw [← hW, ← hR]; exact hide ((Uxs.none w).add hg (URow.box w 288 (tl B) _ hg))
  have hti : (t : Int) < 4 := by omega
  have hix := fun (w : World) (k : Nat) (hk : k < 18) => idx_tb (fun j => tl B (t * 72 + j)) w hk
  obtain ⟨R2, hR2⟩ : ∃ R2, (rowU 72 fun j => tl B (t * 72 + j)).toArray = R2 := ⟨_, rfl⟩
  have HR2 := hide hR2
  rw [hR2] at hix
  have HIX := hide hix
  show Calls _ _ #[.agg (rowU 288 (tl B)).toArray, _] _ _
  rw [hR]
  clear hR hR2 hix
  go_enter Tryz.func40, Tryz.ntmps40
  have BW : Hid (Below w.heap.size w W) := hide E.out.below
  go_wp2_with (refine wpList_load_mid rfl 30 _ rfl g (t * 72) rfl (rowU 72 fun j => tl B (t * 72 + j)) _ ((E.out.get 0 rfl).part (t * 72) 72 _ (by omega) (fun j _ => rfl)) Tryz.underlying30 rfl (info_72 _) ?_)
  have hR2 := HR2.out
  try simp only [hR2]
  clear hW hg E hR2
  go_loopw [5, 12] (fun v q wr => ∃ (k : Nat) (ao : Option Addr) (n cap : Nat), q = .int .i64 k ∧ k ≤ 18 ∧ v = .slice ao n cap ∧ Num wr ao n cap (sums (fun p => B (18 * t + p)) k) (16 + k) ∧ Below w.heap.size w wr) (fun _ q _ => 18 - (intOf q).toNat)
  case atStart => exact ⟨0, none, 0, 0, rfl, by omega, rfl, Num.nil _ _, BW.out⟩
  case round =>
    obtain ⟨k, ao, n, cap, rfl, hk, rfl, hn, hb⟩ := hrel
    have NS := hide hn
    have HBB := hide hb
    clear hn hb BW
    by_cases hlt : k < 18
    · have hlt' : (k : Int) < 18 := by omega
      have hwi : IntKind.i64.wrap ((k : Int) + 1) = ((k + 1 : Nat) : Int) := by rw [IntKind.wrap_i64]; omega
      have hix := fun w => HIX.out w k hlt
      rw [← Nat.add_zero (4 * k)] at hix
      simp only [sup_at HB.out hlt 0 (by omega), sup_at HB.out hlt 1 (by omega), sup_at HB.out hlt 2 (by omega), sup_at HB.out hlt 3 (by omega)] at hix
      go_wp2_with fail
      refine (row_of (B (18 * t + k)) _ (HB.out _)).mono ?_
      rintro e w2 ⟨bo, m, cap2, rfl, hm, hb2⟩
      have hb3 := bOn (bAl (o := .cells #[.int .u64 (lm (B (18 * t + k)) 0), .int .u64 (lm (B (18 * t + k)) 1), .int .u64 (lm (B (18 * t + k)) 2), .int .u64 (lm (B (18 * t + k)) 3)] 29) (bMe wr)) hb2
      have C := hide (add_any (NS.out.below hb3) (hm.mono (show 16 ≤ 16 + k by omega)) (by omega))
      have HB3 := hide (bOn HBB.out hb3)
      clear hm hb2 hb3 hix
      go_wp2_with fail
      refine C.out.mono ?_
      clear C
      rintro e w3 ⟨ao3, n3, cap3, rfl, hn3, hb3⟩
      have H3 := hide (show Num w3 ao3 n3 cap3 (sums (fun p => B (18 * t + p)) (k + 1)) (16 + (k + 1)) from hn3)
      have B3 := hide (bOn HB3.out hb3)
      clear hn3 hb3
      go_wp2
      exact ⟨⟨k + 1, ao3, n3, cap3, by simp, by omega, rfl, H3.out, B3.out⟩, by simp [intOf]; omega⟩
    · obtain rfl : k = 18 := by omega
      clear HIX
      go_wp2
      go_ret
      exact ⟨ao, n, cap, rfl, NS.out, HBB.out⟩
end Go.Proofs.YtncnilplmklccaaGreat

/- The document's side of layer 13: Mint, Burn, Move (gen-ref13c.py). -/
namespace Go.Proofs.YtncnilplmklccaaGreat
set_option linter.unusedSimpArgs false
set_option linter.unusedVariables false
open Go.RowKit Go.Lib
attribute [local go_sem] setCell_drewN alloc_drewN

theorem results_two {P : Program} {fn : Func} {p u : Tmp} {ty : TypeId} (h : fn.results = #[.cell p ty, .tmp u]) {tmps : Array Value} {w : World} {ad : Addr} {v x : Value} (hp : tmps.getD p undef = .pointer (some ad)) (hx : tmps.getD u undef = x) (hl : (loadVar ty ad).run P w = .ok v w) :
    (results fn tmps).run P w = .ok (.tuple #[v, x]) w := by
  have hp' : tmps[p]?.getD undef = .pointer (some ad) := by simpa using hp
  have hx' : tmps[u]?.getD undef = x := by simpa using hx
  simp [results, h, hp', hx', asAddr, hl]
/-- The table with one balance stored anew. -/
theorem Uxs.upd {w0 w : World} {l : List (Nat × Nat × (Nat → Int))} (h : Uxs w0 w l) (i : Nat) {g : Nat} {B : Tb} (e : l[i]? = some (g, 288, tl B)) {t p : Nat} (ht : t < 4) (hp : p < 18) (v : Int) : Uxs w0 (w.setCells g (t * 72 + p * 4) (rowU 4 (lm v))) (l.set i (g, 288, tl (updT B (18 * t + p) v))) :=
  h.putAt i e (t * 72 + p * 4) 4 (lm v) _ (by omega) (fun j _ => by rw [tl_upd, show (18 * t + p) * 4 = t * 72 + p * 4 by omega])
theorem URow.balAt {w : World} {g : Nat} {B : Tb} (h : URow w g 288 (tl B)) {t p : Nat} (ht : t < 4) (hp : p < 18) : w.rangeAt g (t * 72 + p * 4) (rowU 4 (lm (B (18 * t + p)))) := by
  rw [show t * 72 + p * 4 = (18 * t + p) * 4 by omega]
  exact h.bal (18 * t + p) (by omega)
set_option maxRecDepth 100000 in
set_option maxHeartbeats 2000000 in
theorem mint13_no {B : Tb} {t p : Int} {N : Int} (w : World) (hB : Tok B) (hN : In N) (hs : chk t [p] N ≠ 0) :
    Calls Tryz.prog 25 #[tv B, .int .u8 t, .int .u8 p, big N] w fun e w' => e = .returned (.tuple #[tv B, .int .i64 (chk t [p] N)]) ∧ Below w.heap.size w w' := by
  have HN := hide hN
  have HB := hide hB
  clear hN hB
  obtain ⟨W, hW⟩ : ∃ W, ((w.alloc (.cells (rowU 288 (tl B)).toArray 33)).alloc (.cells #[.int .u64 (lm N 0), .int .u64 (lm N 1), .int .u64 (lm N 2), .int .u64 (lm N 3)] 29)).alloc (.cells (rowU 288 (tl tz)).toArray 33) = W := ⟨_, rfl⟩
  obtain ⟨g, hg⟩ : ∃ g, w.heap.size = g := ⟨_, rfl⟩
  have E : Hid (Uxs w W [(g + 2, 288, tl tz), (g + 1, 4, lm N), (g, 288, tl B)]) := by rw [← hW]; exact hide ((((Uxs.none w).add hg (URow.box w 288 (tl B) _ hg)).add (by simp [hg]) (show URow _ (g + 1) 4 (lm N) from URow.box _ 4 (lm N) _ (by simp [hg]))).add (by simp [hg]) (URow.box _ 288 (tl tz) _ (by simp [hg])))
  have hzp := fun w => zeroTb w
  obtain ⟨c, hc⟩ : ∃ c, chk t [p] N = c := ⟨_, rfl⟩
  rw [hc] at hs ⊢
  have HC := hide hc
  clear hc
  go_enter Tryz.func25, Tryz.ntmps25
  go_wp2_with (first
    | (go_at_call 47; refine (wrong_any (N := N) _ HN.out).mono ?_; rintro e w1 ⟨rfl, hb⟩; rw [wr_one, HC.out]; have E1 := hide (E.out.after hb); clear hb)
    | refine wpList_load_mid rfl 29 _ rfl (g + 1) 0 rfl (rowU 4 (lm N)) _ (E.out.get 1 rfl).range Tryz.underlying29 rfl (info_lm _) ?_
    | refine wpList_load_mid rfl 33 _ rfl g 0 rfl (rowU 288 (tl B)) _ (E1.out.get 2 rfl).range Tryz.underlying33 rfl (info_tb _) ?_
    | refine wpList_store_mid rfl 33 _ _ rfl (g + 2) 0 (rowU 288 (tl B)).toArray rfl rfl ((E1.out.get 0 rfl).thereA _) (info_tbA _) (rowU_oneA _ _) ?_)
  have EE := hide (E1.out.put 0 rfl (tl B))
  refine bodyPost_ret (v := .tuple #[tv B, .int .i64 c]) ?_ rfl ⟨rfl, EE.out.below⟩
  have hlv := run_loadVar_mid (P := Tryz.prog) _ _ _ _ _ _ (EE.out.get 0 rfl).range Tryz.underlying33 rfl (info_tb _)
  exact results_two Tryz.results25 rfl rfl hlv
set_option maxRecDepth 100000 in
set_option maxHeartbeats 2000000 in
theorem burn13_no {B : Tb} {t p : Int} {N : Int} (w : World) (hB : Tok B) (hN : In N) (hs : chk t [p] N ≠ 0) :
    Calls Tryz.prog 26 #[tv B, .int .u8 t, .int .u8 p, big N] w fun e w' => e = .returned (.tuple #[tv B, .int .i64 (chk t [p] N)]) ∧ Below w.heap.size w w' := by
  have HN := hide hN
  have HB := hide hB
  clear hN hB
  obtain ⟨W, hW⟩ : ∃ W, ((w.alloc (.cells (rowU 288 (tl B)).toArray 33)).alloc (.cells #[.int .u64 (lm N 0), .int .u64 (lm N 1), .int .u64 (lm N 2), .int .u64 (lm N 3)] 29)).alloc (.cells (rowU 288 (tl tz)).toArray 33) = W := ⟨_, rfl⟩
  obtain ⟨g, hg⟩ : ∃ g, w.heap.size = g := ⟨_, rfl⟩
  have E : Hid (Uxs w W [(g + 2, 288, tl tz), (g + 1, 4, lm N), (g, 288, tl B)]) := by rw [← hW]; exact hide ((((Uxs.none w).add hg (URow.box w 288 (tl B) _ hg)).add (by simp [hg]) (show URow _ (g + 1) 4 (lm N) from URow.box _ 4 (lm N) _ (by simp [hg]))).add (by simp [hg]) (URow.box _ 288 (tl tz) _ (by simp [hg])))
  have hzp := fun w => zeroTb w
  obtain ⟨c, hc⟩ : ∃ c, chk t [p] N = c := ⟨_, rfl⟩
  rw [hc] at hs ⊢
  have HC := hide hc
  clear hc
  go_enter Tryz.func26, Tryz.ntmps26
  go_wp2_with (first
    | (go_at_call 47; refine (wrong_any (N := N) _ HN.out).mono ?_; rintro e w1 ⟨rfl, hb⟩; rw [wr_one, HC.out]; have E1 := hide (E.out.after hb); clear hb)
    | refine wpList_load_mid rfl 29 _ rfl (g + 1) 0 rfl (rowU 4 (lm N)) _ (E.out.get 1 rfl).range Tryz.underlying29 rfl (info_lm _) ?_
    | refine wpList_load_mid rfl 33 _ rfl g 0 rfl (rowU 288 (tl B)) _ (E1.out.get 2 rfl).range Tryz.underlying33 rfl (info_tb _) ?_
    | refine wpList_store_mid rfl 33 _ _ rfl (g + 2) 0 (rowU 288 (tl B)).toArray rfl rfl ((E1.out.get 0 rfl).thereA _) (info_tbA _) (rowU_oneA _ _) ?_)
  have EE := hide (E1.out.put 0 rfl (tl B))
  refine bodyPost_ret (v := .tuple #[tv B, .int .i64 c]) ?_ rfl ⟨rfl, EE.out.below⟩
  have hlv := run_loadVar_mid (P := Tryz.prog) _ _ _ _ _ _ (EE.out.get 0 rfl).range Tryz.underlying33 rfl (info_tb _)
  exact results_two Tryz.results26 rfl rfl hlv
set_option maxRecDepth 100000 in
set_option maxHeartbeats 2000000 in
theorem move13_no {B : Tb} {t p q : Int} {N : Int} (w : World) (hB : Tok B) (hN : In N) (hs : chk t [p, q] N ≠ 0) :
    Calls Tryz.prog 27 #[tv B, .int .u8 t, .int .u8 p, .int .u8 q, big N] w fun e w' => e = .returned (.tuple #[tv B, .int .i64 (chk t [p, q] N)]) ∧ Below w.heap.size w w' := by
  have HN := hide hN
  have HB := hide hB
  clear hN hB
  obtain ⟨W, hW⟩ : ∃ W, ((w.alloc (.cells (rowU 288 (tl B)).toArray 33)).alloc (.cells #[.int .u64 (lm N 0), .int .u64 (lm N 1), .int .u64 (lm N 2), .int .u64 (lm N 3)] 29)).alloc (.cells (rowU 288 (tl tz)).toArray 33) = W := ⟨_, rfl⟩
  obtain ⟨g, hg⟩ : ∃ g, w.heap.size = g := ⟨_, rfl⟩
  have E : Hid (Uxs w W [(g + 2, 288, tl tz), (g + 1, 4, lm N), (g, 288, tl B)]) := by rw [← hW]; exact hide ((((Uxs.none w).add hg (URow.box w 288 (tl B) _ hg)).add (by simp [hg]) (show URow _ (g + 1) 4 (lm N) from URow.box _ 4 (lm N) _ (by simp [hg]))).add (by simp [hg]) (URow.box _ 288 (tl tz) _ (by simp [hg])))
  have hzp := fun w => zeroTb w
  obtain ⟨c, hc⟩ : ∃ c, chk t [p, q] N = c := ⟨_, rfl⟩
  rw [hc] at hs ⊢
  have HC := hide hc
  clear hc
  go_enter Tryz.func27, Tryz.ntmps27
  go_wp2_with (first
    | (go_at_call 47; refine (wrong_any (N := N) _ HN.out).mono ?_; rintro e w1 ⟨rfl, hb⟩; rw [wr_two, HC.out]; have E1 := hide (E.out.after hb); clear hb)
    | refine wpList_load_mid rfl 29 _ rfl (g + 1) 0 rfl (rowU 4 (lm N)) _ (E.out.get 1 rfl).range Tryz.underlying29 rfl (info_lm _) ?_
    | refine wpList_load_mid rfl 33 _ rfl g 0 rfl (rowU 288 (tl B)) _ (E1.out.get 2 rfl).range Tryz.underlying33 rfl (info_tb _) ?_
    | refine wpList_store_mid rfl 33 _ _ rfl (g + 2) 0 (rowU 288 (tl B)).toArray rfl rfl ((E1.out.get 0 rfl).thereA _) (info_tbA _) (rowU_oneA _ _) ?_)
  have EE := hide (E1.out.put 0 rfl (tl B))
  refine bodyPost_ret (v := .tuple #[tv B, .int .i64 c]) ?_ rfl ⟨rfl, EE.out.below⟩
  have hlv := run_loadVar_mid (P := Tryz.prog) _ _ _ _ _ _ (EE.out.get 0 rfl).range Tryz.underlying33 rfl (info_tb _)
  exact results_two Tryz.results27 rfl rfl hlv
set_option maxRecDepth 100000 in
set_option maxHeartbeats 2000000 in
theorem burn13_few {B : Tb} {t p : Nat} {N : Int} (w : World) (hB : Tok B) (hN : In N) (ht : t < 4) (hp : p < 18) (hs : chk (t : Int) [(p : Int)] N = 0) (hle : B (18 * t + p) < N) :
    Calls Tryz.prog 26 #[tv B, .int .u8 (t : Int), .int .u8 (p : Int), big N] w fun e w' => e = .returned (.tuple #[tv B, .int .i64 8]) ∧ Below w.heap.size w w' := by
  have HN := hide hN
  have HB := hide hB
  clear hN hB
  obtain ⟨W, hW⟩ : ∃ W, ((w.alloc (.cells (rowU 288 (tl B)).toArray 33)).alloc (.cells #[.int .u64 (lm N 0), .int .u64 (lm N 1), .int .u64 (lm N 2), .int .u64 (lm N 3)] 29)).alloc (.cells (rowU 288 (tl tz)).toArray 33) = W := ⟨_, rfl⟩
  obtain ⟨g, hg⟩ : ∃ g, w.heap.size = g := ⟨_, rfl⟩
  have E : Hid (Uxs w W [(g + 2, 288, tl tz), (g + 1, 4, lm N), (g, 288, tl B)]) := by rw [← hW]; exact hide ((((Uxs.none w).add hg (URow.box w 288 (tl B) _ hg)).add (by simp [hg]) (show URow _ (g + 1) 4 (lm N) from URow.box _ 4 (lm N) _ (by simp [hg]))).add (by simp [hg]) (URow.box _ 288 (tl tz) _ (by simp [hg])))
  have hzp := fun w => zeroTb w
  have hti : (t : Int) < 4 := by omega
  have hpi : (p : Int) < 18 := by omega
  have HT := hide ht
  have HP := hide hp
  have HS := hide hs
  have HLE : Hid (decide (B (18 * t + p) < N) = true) := hide (by simp; omega)
  have HLL := hide hle
  clear ht hp hs hle
  go_enter Tryz.func26, Tryz.ntmps26
  go_wp2_with (first
    | (go_at_call 47; refine (wrong_any (N := N) _ HN.out).mono ?_; rintro e w1 ⟨rfl, hb⟩; rw [wr_one, HS.out]; have E1 := hide (E.out.after hb); clear hb)
    | refine wpList_load_mid rfl 29 _ rfl (g + 1) 0 rfl (rowU 4 (lm N)) _ (E.out.get 1 rfl).range Tryz.underlying29 rfl (info_lm _) ?_)
  clear E hzp
  have X : Hid (Uxs w w1.drew [(g + 2, 288, tl tz), (g + 1, 4, lm N), (g, 288, tl B)]) := hide (E1.out.after (bMe w1).drew)
  refine wp_region_held_drew (S := fun w1 => Uxs w w1 [(g + 2, 288, tl tz), (g + 1, 4, lm N), (g, 288, tl B)]) (by kernel_rfl) X.out (fun _ => ?_)
  refine tk0 (v := .int .u8 (t : Int)) (by kernel_rfl) (by kernel_rfl) (by kernel_rfl) (fun _ _ _ h => h) X.out (Or.inl ⟨by rfl, fun w hw => by go_simp; try (with_reducible rfl)⟩) ?_
  simp only [Act.put, List.setIfInBounds_toArray, List.set_cons_zero, List.set_cons_succ]
  refine tk1 (v := .int .u8 (p : Int)) (by kernel_rfl) (by kernel_rfl) (by kernel_rfl) (fun _ _ _ h => h) X.out (Or.inl ⟨by rfl, fun w hw => by go_simp; try (with_reducible rfl)⟩) ?_
  simp only [Act.put, List.setIfInBounds_toArray, List.set_cons_zero, List.set_cons_succ]
  refine tk2 (v := .pointer (some ⟨g, 0, none⟩)) (by kernel_rfl) (by kernel_rfl) (by kernel_rfl) (fun _ _ _ h => h) X.out (Or.inl ⟨by rfl, fun w hw => by go_simp; try (with_reducible rfl)⟩) ?_
  simp only [Act.put, List.setIfInBounds_toArray, List.set_cons_zero, List.set_cons_succ]
  refine tk3 (v := .pointer (some ⟨g, t * 72, none⟩)) (by kernel_rfl) (by kernel_rfl) (by kernel_rfl) (fun _ _ _ h => h) X.out (Or.inl ⟨by rfl, fun w hw => by go_simp; try (with_reducible rfl)⟩) ?_
  simp only [Act.put, List.setIfInBounds_toArray, List.set_cons_zero, List.set_cons_succ]
  refine tk4 (v := .pointer (some ⟨g, t * 72 + p * 4, none⟩)) (by kernel_rfl) (by kernel_rfl) (by kernel_rfl) (fun _ _ _ h => h) X.out (Or.inl ⟨by rfl, fun w hw => by go_simp; try (with_reducible rfl)⟩) ?_
  simp only [Act.put, List.setIfInBounds_toArray, List.set_cons_zero, List.set_cons_succ]
  refine tk5 (by kernel_rfl) (by kernel_rfl) (by kernel_rfl) (fun _ _ _ h => h) X.out (yieldsIf_load_mid (by rfl) _ _ rfl (g) (t * 72 + p * 4) rfl (rowU 4 (lm (B (18 * t + p)))) _ (fun _ hw => (hw.get 2 rfl).balAt HT.out HP.out) Tryz.underlying29 rfl (info_lm _)) ?_
  simp only [Act.put, List.setIfInBounds_toArray, List.set_cons_zero, List.set_cons_succ]
  refine tk6 (by kernel_rfl) (by kernel_rfl) (by kernel_rfl) (fun _ _ _ h => h) X.out (yieldsIf_load_mid (by rfl) _ _ rfl (g + 1) (0) rfl (rowU 4 (lm N)) _ (fun _ hw => (hw.get 1 rfl).range) Tryz.underlying29 rfl (info_lm _)) ?_
  simp only [Act.put, List.setIfInBounds_toArray, List.set_cons_zero, List.set_cons_succ]
  refine wpAnyH_ready (rs := [7]) (by kernel_rfl) (by simp) ?_
  refine rd7 (fun K hK => ?_) AllReadyH.nil
  go_simp
  refine (less_any _ (HB.out (18 * t + p)) HN.out).mono ?_
  rintro e w2 ⟨rfl, hb⟩
  rw [HLE.out]
  simp only []
  replace X := hide (X.out.after hb)
  clear hb
  refine hK.out _ _ X.out (fun _ => ?_)
  clear hK K
  refine wpAnyH_done (by kernel_rfl) ?_ _
  have E2 := hide X.out
  clear X
  go_wp2_with (first
    | refine wpList_load_mid rfl 33 _ rfl g 0 rfl (rowU 288 (tl B)) _ (E2.out.get 2 rfl).range Tryz.underlying33 rfl (info_tb _) ?_
    | refine wpList_store_mid rfl 33 _ _ rfl (g + 2) 0 (rowU 288 (tl B)).toArray rfl rfl ((E2.out.get 0 rfl).thereA _) (info_tbA _) (rowU_oneA _ _) ?_)
  have EE := hide (E2.out.put 0 rfl (tl B))
  refine bodyPost_ret (v := .tuple #[tv B, .int .i64 8]) ?_ rfl ⟨rfl, EE.out.below⟩
  have hlv := run_loadVar_mid (P := Tryz.prog) _ _ _ _ _ _ (EE.out.get 0 rfl).range Tryz.underlying33 rfl (info_tb _)
  exact results_two Tryz.results26 rfl rfl hlv
set_option maxRecDepth 100000 in
set_option maxHeartbeats 2000000 in
theorem burn13_yes {B : Tb} {t p : Nat} {N : Int} (w : World) (hB : Tok B) (hN : In N) (ht : t < 4) (hp : p < 18) (hs : chk (t : Int) [(p : Int)] N = 0) (hle : N ≤ B (18 * t + p)) :
    Calls Tryz.prog 26 #[tv B, .int .u8 (t : Int), .int .u8 (p : Int), big N] w fun e w' => e = .returned (.tuple #[tv (updT B (18 * t + p) (B (18 * t + p) - N)), .int .i64 0]) ∧ Below w.heap.size w w' := by
  have HN := hide hN
  have HB := hide hB
  clear hN hB
  obtain ⟨W, hW⟩ : ∃ W, ((w.alloc (.cells (rowU 288 (tl B)).toArray 33)).alloc (.cells #[.int .u64 (lm N 0), .int .u64 (lm N 1), .int .u64 (lm N 2), .int .u64 (lm N 3)] 29)).alloc (.cells (rowU 288 (tl tz)).toArray 33) = W := ⟨_, rfl⟩
  obtain ⟨g, hg⟩ : ∃ g, w.heap.size = g := ⟨_, rfl⟩
  have E : Hid (Uxs w W [(g + 2, 288, tl tz), (g + 1, 4, lm N), (g, 288, tl B)]) := by rw [← hW]; exact hide ((((Uxs.none w).add hg (URow.box w 288 (tl B) _ hg)).add (by simp [hg]) (show URow _ (g + 1) 4 (lm N) from URow.box _ 4 (lm N) _ (by simp [hg]))).add (by simp [hg]) (URow.box _ 288 (tl tz) _ (by simp [hg])))
  have hzp := fun w => zeroTb w
  have hti : (t : Int) < 4 := by omega
  have hpi : (p : Int) < 18 := by omega
  have HT := hide ht
  have HP := hide hp
  have HS := hide hs
  have HLE : Hid (decide (B (18 * t + p) < N) = false) := hide (by simp; omega)
  have HLL := hide hle
  clear ht hp hs hle
  go_enter Tryz.func26, Tryz.ntmps26
  go_wp2_with (first
    | (go_at_call 47; refine (wrong_any (N := N) _ HN.out).mono ?_; rintro e w1 ⟨rfl, hb⟩; rw [wr_one, HS.out]; have E1 := hide (E.out.after hb); clear hb)
    | refine wpList_load_mid rfl 29 _ rfl (g + 1) 0 rfl (rowU 4 (lm N)) _ (E.out.get 1 rfl).range Tryz.underlying29 rfl (info_lm _) ?_)
  clear E hzp
  have X : Hid (Uxs w w1.drew [(g + 2, 288, tl tz), (g + 1, 4, lm N), (g, 288, tl B)]) := hide (E1.out.after (bMe w1).drew)
  refine wp_region_held_drew (S := fun w1 => Uxs w w1 [(g + 2, 288, tl tz), (g + 1, 4, lm N), (g, 288, tl B)]) (by kernel_rfl) X.out (fun _ => ?_)
  refine tk0 (v := .int .u8 (t : Int)) (by kernel_rfl) (by kernel_rfl) (by kernel_rfl) (fun _ _ _ h => h) X.out (Or.inl ⟨by rfl, fun w hw => by go_simp; try (with_reducible rfl)⟩) ?_
  simp only [Act.put, List.setIfInBounds_toArray, List.set_cons_zero, List.set_cons_succ]
  refine tk1 (v := .int .u8 (p : Int)) (by kernel_rfl) (by kernel_rfl) (by kernel_rfl) (fun _ _ _ h => h) X.out (Or.inl ⟨by rfl, fun w hw => by go_simp; try (with_reducible rfl)⟩) ?_
  simp only [Act.put, List.setIfInBounds_toArray, List.set_cons_zero, List.set_cons_succ]
  refine tk2 (v := .pointer (some ⟨g, 0, none⟩)) (by kernel_rfl) (by kernel_rfl) (by kernel_rfl) (fun _ _ _ h => h) X.out (Or.inl ⟨by rfl, fun w hw => by go_simp; try (with_reducible rfl)⟩) ?_
  simp only [Act.put, List.setIfInBounds_toArray, List.set_cons_zero, List.set_cons_succ]
  refine tk3 (v := .pointer (some ⟨g, t * 72, none⟩)) (by kernel_rfl) (by kernel_rfl) (by kernel_rfl) (fun _ _ _ h => h) X.out (Or.inl ⟨by rfl, fun w hw => by go_simp; try (with_reducible rfl)⟩) ?_
  simp only [Act.put, List.setIfInBounds_toArray, List.set_cons_zero, List.set_cons_succ]
  refine tk4 (v := .pointer (some ⟨g, t * 72 + p * 4, none⟩)) (by kernel_rfl) (by kernel_rfl) (by kernel_rfl) (fun _ _ _ h => h) X.out (Or.inl ⟨by rfl, fun w hw => by go_simp; try (with_reducible rfl)⟩) ?_
  simp only [Act.put, List.setIfInBounds_toArray, List.set_cons_zero, List.set_cons_succ]
  refine tk5 (by kernel_rfl) (by kernel_rfl) (by kernel_rfl) (fun _ _ _ h => h) X.out (yieldsIf_load_mid (by rfl) _ _ rfl (g) (t * 72 + p * 4) rfl (rowU 4 (lm (B (18 * t + p)))) _ (fun _ hw => (hw.get 2 rfl).balAt HT.out HP.out) Tryz.underlying29 rfl (info_lm _)) ?_
  simp only [Act.put, List.setIfInBounds_toArray, List.set_cons_zero, List.set_cons_succ]
  refine tk6 (by kernel_rfl) (by kernel_rfl) (by kernel_rfl) (fun _ _ _ h => h) X.out (yieldsIf_load_mid (by rfl) _ _ rfl (g + 1) (0) rfl (rowU 4 (lm N)) _ (fun _ hw => (hw.get 1 rfl).range) Tryz.underlying29 rfl (info_lm _)) ?_
  simp only [Act.put, List.setIfInBounds_toArray, List.set_cons_zero, List.set_cons_succ]
  refine wpAnyH_ready (rs := [7]) (by kernel_rfl) (by simp) ?_
  refine rd7 (fun K hK => ?_) AllReadyH.nil
  go_simp
  refine (less_any _ (HB.out (18 * t + p)) HN.out).mono ?_
  rintro e w2 ⟨rfl, hb⟩
  rw [HLE.out]
  simp only []
  replace X := hide (X.out.after hb)
  clear hb
  refine hK.out _ _ X.out (fun _ => ?_)
  clear hK K
  refine wpAnyH_done (by kernel_rfl) ?_ _
  have E2 := hide X.out
  clear X
  go_wp2
  have E3 : Hid (Uxs w w2.drew [(g + 2, 288, tl tz), (g + 1, 4, lm N), (g, 288, tl B)]) := hide (E2.out.after (bMe w2).drew)
  clear E2
  have X : Hid (∃ X, Uxs w w2.drew [(g + 2, 288, tl tz), (g + 1, 4, lm N), (g, 288, X)]) := hide ⟨_, E3.out⟩
  refine wp_region_held_drew (S := fun w1 => ∃ X, Uxs w w1 [(g + 2, 288, tl tz), (g + 1, 4, lm N), (g, 288, X)]) (by kernel_rfl) X.out (fun _ => ?_)
  refine tk0 (v := .int .u8 (t : Int)) (by kernel_rfl) (by kernel_rfl) (by kernel_rfl) (fun _ _ _ h => h) X.out (Or.inl ⟨by rfl, fun w hw => by go_simp; try (with_reducible rfl)⟩) ?_
  simp only [Act.put, List.setIfInBounds_toArray, List.set_cons_zero, List.set_cons_succ]
  refine tk1 (v := .int .u8 (p : Int)) (by kernel_rfl) (by kernel_rfl) (by kernel_rfl) (fun _ _ _ h => h) X.out (Or.inl ⟨by rfl, fun w hw => by go_simp; try (with_reducible rfl)⟩) ?_
  simp only [Act.put, List.setIfInBounds_toArray, List.set_cons_zero, List.set_cons_succ]
  refine tk2 (v := .int .u8 (t : Int)) (by kernel_rfl) (by kernel_rfl) (by kernel_rfl) (fun _ _ _ h => h) X.out (Or.inl ⟨by rfl, fun w hw => by go_simp; try (with_reducible rfl)⟩) ?_
  simp only [Act.put, List.setIfInBounds_toArray, List.set_cons_zero, List.set_cons_succ]
  refine tk3 (v := .int .u8 (p : Int)) (by kernel_rfl) (by kernel_rfl) (by kernel_rfl) (fun _ _ _ h => h) X.out (Or.inl ⟨by rfl, fun w hw => by go_simp; try (with_reducible rfl)⟩) ?_
  simp only [Act.put, List.setIfInBounds_toArray, List.set_cons_zero, List.set_cons_succ]
  refine tk4 (v := .pointer (some ⟨g, 0, none⟩)) (by kernel_rfl) (by kernel_rfl) (by kernel_rfl) (fun _ _ _ h => h) X.out (Or.inl ⟨by rfl, fun w hw => by go_simp; try (with_reducible rfl)⟩) ?_
  simp only [Act.put, List.setIfInBounds_toArray, List.set_cons_zero, List.set_cons_succ]
  refine tk5 (v := .pointer (some ⟨g, t * 72, none⟩)) (by kernel_rfl) (by kernel_rfl) (by kernel_rfl) (fun _ _ _ h => h) X.out (Or.inl ⟨by rfl, fun w hw => by go_simp; try (with_reducible rfl)⟩) ?_
  simp only [Act.put, List.setIfInBounds_toArray, List.set_cons_zero, List.set_cons_succ]
  refine tk6 (v := .pointer (some ⟨g, t * 72 + p * 4, none⟩)) (by kernel_rfl) (by kernel_rfl) (by kernel_rfl) (fun _ _ _ h => h) X.out (Or.inl ⟨by rfl, fun w hw => by go_simp; try (with_reducible rfl)⟩) ?_
  simp only [Act.put, List.setIfInBounds_toArray, List.set_cons_zero, List.set_cons_succ]
  refine tk8 (by kernel_rfl) (by kernel_rfl) (by kernel_rfl) (fun _ _ _ h => h) X.out (yieldsIf_load_mid (by rfl) _ _ rfl (g + 1) (0) rfl (rowU 4 (lm N)) _ (fun _ hw => by obtain ⟨Y, hY⟩ := hw; exact (hY.get 1 rfl).range) Tryz.underlying29 rfl (info_lm _)) ?_
  simp only [Act.put, List.setIfInBounds_toArray, List.set_cons_zero, List.set_cons_succ]
  refine tk10 (v := .pointer (some ⟨g, 0, none⟩)) (by kernel_rfl) (by kernel_rfl) (by kernel_rfl) (fun _ _ _ h => h) X.out (Or.inl ⟨by rfl, fun w hw => by go_simp; try (with_reducible rfl)⟩) ?_
  simp only [Act.put, List.setIfInBounds_toArray, List.set_cons_zero, List.set_cons_succ]
  refine tk11 (v := .pointer (some ⟨g, t * 72, none⟩)) (by kernel_rfl) (by kernel_rfl) (by kernel_rfl) (fun _ _ _ h => h) X.out (Or.inl ⟨by rfl, fun w hw => by go_simp; try (with_reducible rfl)⟩) ?_
  simp only [Act.put, List.setIfInBounds_toArray, List.set_cons_zero, List.set_cons_succ]
  refine wpAnyH_ready (rs := [7]) (by kernel_rfl) (by simp) ?_
  refine rd7 (fun K hK => ?_) AllReadyH.nil
  rw [if_pos (by rfl)]
  refine wp_load_mid 29 _ rfl g (t * 72 + p * 4) rfl (rowU 4 (lm (B (18 * t + p)))) _ ((E3.out.get 2 rfl).balAt HT.out HP.out) Tryz.underlying29 rfl (info_lm _) ?_
  refine hK.out _ _ X.out (fun _ => ?_)
  clear hK K
  simp only [Act.put, List.setIfInBounds_toArray, List.set_cons_zero, List.set_cons_succ]
  refine wpAnyH_ready (rs := [9]) (by kernel_rfl) (by simp) ?_
  refine rd9 (fun K hK => ?_) AllReadyH.nil
  go_simp
  refine (sub13_any _ (HB.out (18 * t + p)) HN.out HLL.out).mono ?_
  rintro e w3 ⟨rfl, hb⟩
  simp only []
  replace E3 := hide (E3.out.after hb)
  replace X : Hid (∃ X, Uxs w w3 [(g + 2, 288, tl tz), (g + 1, 4, lm N), (g, 288, X)]) := hide ⟨_, E3.out⟩
  clear hb
  refine hK.out _ _ X.out (fun _ => ?_)
  clear hK K
  refine tk12 (v := .pointer (some ⟨g, t * 72 + p * 4, none⟩)) (by kernel_rfl) (by kernel_rfl) (by kernel_rfl) (fun _ _ _ h => h) X.out (Or.inl ⟨by rfl, fun w hw => by go_simp; try (with_reducible rfl)⟩) ?_
  simp only [Act.put, List.setIfInBounds_toArray, List.set_cons_zero, List.set_cons_succ]
  refine wpAnyH_ready (rs := [13]) (by kernel_rfl) (by simp) ?_
  refine rd13 (fun K hK => ?_) AllReadyH.nil
  rw [if_pos (by rfl)]
  refine wp_store_mid _ _ _ rfl g (t * 72 + p * 4) (rowU 4 (lm (B (18 * t + p) - N))).toArray rfl rfl ((E3.out.get 2 rfl).thereAt _ 4 _ (by have := HT.out; have := HP.out; omega)) (info_lmA _) (rowU_oneA _ _) ?_
  obtain ⟨w4, hw4⟩ : ∃ w4, w3.setCells g (t * 72 + p * 4) (rowU 4 (lm (B (18 * t + p) - N))) = w4 := ⟨_, rfl⟩
  replace E3 : Hid (Uxs w w4 [(g + 2, 288, tl tz), (g + 1, 4, lm N), (g, 288, tl (updT B (18 * t + p) (B (18 * t + p) - N)))]) := by rw [← hw4]; exact hide (E3.out.upd 2 rfl HT.out HP.out (B (18 * t + p) - N))
  rw [show (rowU 4 (lm (B (18 * t + p) - N))).toArray.toList = rowU 4 (lm (B (18 * t + p) - N)) from List.toList_toArray, hw4]
  replace X : Hid (∃ X, Uxs w w4 [(g + 2, 288, tl tz), (g + 1, 4, lm N), (g, 288, X)]) := hide ⟨_, E3.out⟩
  clear hw4
  refine hK.out _ _ X.out (fun _ => ?_)
  clear hK K
  refine wpAnyH_done (by kernel_rfl) ?_ _
  clear X
  go_wp2_with (first
    | refine wpList_load_mid rfl 33 _ rfl g 0 rfl (rowU 288 (tl (updT B (18 * t + p) (B (18 * t + p) - N)))) _ (E3.out.get 2 rfl).range Tryz.underlying33 rfl (info_tb _) ?_
    | refine wpList_store_mid rfl 33 _ _ rfl (g + 2) 0 (rowU 288 (tl (updT B (18 * t + p) (B (18 * t + p) - N)))).toArray rfl rfl ((E3.out.get 0 rfl).thereA _) (info_tbA _) (rowU_oneA _ _) ?_)
  have EE := hide (E3.out.put 0 rfl (tl (updT B (18 * t + p) (B (18 * t + p) - N))))
  refine bodyPost_ret (v := .tuple #[tv (updT B (18 * t + p) (B (18 * t + p) - N)), .int .i64 0]) ?_ rfl ⟨rfl, EE.out.below⟩
  have hlv := run_loadVar_mid (P := Tryz.prog) _ _ _ _ _ _ (EE.out.get 0 rfl).range Tryz.underlying33 rfl (info_tb _)
  exact results_two Tryz.results26 rfl rfl hlv
set_option maxRecDepth 100000 in
set_option maxHeartbeats 2000000 in
theorem move13_few {B : Tb} {t p q : Nat} {N : Int} (w : World) (hB : Tok B) (hN : In N) (ht : t < 4) (hp : p < 18) (hq : q < 18) (hs : chk (t : Int) [(p : Int), (q : Int)] N = 0) (hle : B (18 * t + p) < N) :
    Calls Tryz.prog 27 #[tv B, .int .u8 (t : Int), .int .u8 (p : Int), .int .u8 (q : Int), big N] w fun e w' => e = .returned (.tuple #[tv B, .int .i64 8]) ∧ Below w.heap.size w w' := by
  have HN := hide hN
  have HB := hide hB
  clear hN hB
  obtain ⟨W, hW⟩ : ∃ W, ((w.alloc (.cells (rowU 288 (tl B)).toArray 33)).alloc (.cells #[.int .u64 (lm N 0), .int .u64 (lm N 1), .int .u64 (lm N 2), .int .u64 (lm N 3)] 29)).alloc (.cells (rowU 288 (tl tz)).toArray 33) = W := ⟨_, rfl⟩
  obtain ⟨g, hg⟩ : ∃ g, w.heap.size = g := ⟨_, rfl⟩
  have E : Hid (Uxs w W [(g + 2, 288, tl tz), (g + 1, 4, lm N), (g, 288, tl B)]) := by rw [← hW]; exact hide ((((Uxs.none w).add hg (URow.box w 288 (tl B) _ hg)).add (by simp [hg]) (show URow _ (g + 1) 4 (lm N) from URow.box _ 4 (lm N) _ (by simp [hg]))).add (by simp [hg]) (URow.box _ 288 (tl tz) _ (by simp [hg])))
  have hzp := fun w => zeroTb w
  have hti : (t : Int) < 4 := by omega
  have hpi : (p : Int) < 18 := by omega
  have HT := hide ht
  have HP := hide hp
  have HQ := hide hq
  have hqi : (q : Int) < 18 := by omega
  have HS := hide hs
  have HLE : Hid (decide (B (18 * t + p) < N) = true) := hide (by simp; omega)
  have HLL := hide hle
  clear ht hp hs hle hq
  go_enter Tryz.func27, Tryz.ntmps27
  go_wp2_with (first
    | (go_at_call 47; refine (wrong_any (N := N) _ HN.out).mono ?_; rintro e w1 ⟨rfl, hb⟩; rw [wr_two, HS.out]; have E1 := hide (E.out.after hb); clear hb)
    | refine wpList_load_mid rfl 29 _ rfl (g + 1) 0 rfl (rowU 4 (lm N)) _ (E.out.get 1 rfl).range Tryz.underlying29 rfl (info_lm _) ?_)
  clear E hzp
  have X : Hid (Uxs w w1.drew [(g + 2, 288, tl tz), (g + 1, 4, lm N), (g, 288, tl B)]) := hide (E1.out.after (bMe w1).drew)
  refine wp_region_held_drew (S := fun w1 => Uxs w w1 [(g + 2, 288, tl tz), (g + 1, 4, lm N), (g, 288, tl B)]) (by kernel_rfl) X.out (fun _ => ?_)
  refine tk0 (v := .int .u8 (t : Int)) (by kernel_rfl) (by kernel_rfl) (by kernel_rfl) (fun _ _ _ h => h) X.out (Or.inl ⟨by rfl, fun w hw => by go_simp; try (with_reducible rfl)⟩) ?_
  simp only [Act.put, List.setIfInBounds_toArray, List.set_cons_zero, List.set_cons_succ]
  refine tk1 (v := .int .u8 (p : Int)) (by kernel_rfl) (by kernel_rfl) (by kernel_rfl) (fun _ _ _ h => h) X.out (Or.inl ⟨by rfl, fun w hw => by go_simp; try (with_reducible rfl)⟩) ?_
  simp only [Act.put, List.setIfInBounds_toArray, List.set_cons_zero, List.set_cons_succ]
  refine tk2 (v := .pointer (some ⟨g, 0, none⟩)) (by kernel_rfl) (by kernel_rfl) (by kernel_rfl) (fun _ _ _ h => h) X.out (Or.inl ⟨by rfl, fun w hw => by go_simp; try (with_reducible rfl)⟩) ?_
  simp only [Act.put, List.setIfInBounds_toArray, List.set_cons_zero, List.set_cons_succ]
  refine tk3 (v := .pointer (some ⟨g, t * 72, none⟩)) (by kernel_rfl) (by kernel_rfl) (by kernel_rfl) (fun _ _ _ h => h) X.out (Or.inl ⟨by rfl, fun w hw => by go_simp; try (with_reducible rfl)⟩) ?_
  simp only [Act.put, List.setIfInBounds_toArray, List.set_cons_zero, List.set_cons_succ]
  refine tk4 (v := .pointer (some ⟨g, t * 72 + p * 4, none⟩)) (by kernel_rfl) (by kernel_rfl) (by kernel_rfl) (fun _ _ _ h => h) X.out (Or.inl ⟨by rfl, fun w hw => by go_simp; try (with_reducible rfl)⟩) ?_
  simp only [Act.put, List.setIfInBounds_toArray, List.set_cons_zero, List.set_cons_succ]
  refine tk5 (by kernel_rfl) (by kernel_rfl) (by kernel_rfl) (fun _ _ _ h => h) X.out (yieldsIf_load_mid (by rfl) _ _ rfl (g) (t * 72 + p * 4) rfl (rowU 4 (lm (B (18 * t + p)))) _ (fun _ hw => (hw.get 2 rfl).balAt HT.out HP.out) Tryz.underlying29 rfl (info_lm _)) ?_
  simp only [Act.put, List.setIfInBounds_toArray, List.set_cons_zero, List.set_cons_succ]
  refine tk6 (by kernel_rfl) (by kernel_rfl) (by kernel_rfl) (fun _ _ _ h => h) X.out (yieldsIf_load_mid (by rfl) _ _ rfl (g + 1) (0) rfl (rowU 4 (lm N)) _ (fun _ hw => (hw.get 1 rfl).range) Tryz.underlying29 rfl (info_lm _)) ?_
  simp only [Act.put, List.setIfInBounds_toArray, List.set_cons_zero, List.set_cons_succ]
  refine wpAnyH_ready (rs := [7]) (by kernel_rfl) (by simp) ?_
  refine rd7 (fun K hK => ?_) AllReadyH.nil
  go_simp
  refine (less_any _ (HB.out (18 * t + p)) HN.out).mono ?_
  rintro e w2 ⟨rfl, hb⟩
  rw [HLE.out]
  simp only []
  replace X := hide (X.out.after hb)
  clear hb
  refine hK.out _ _ X.out (fun _ => ?_)
  clear hK K
  refine wpAnyH_done (by kernel_rfl) ?_ _
  have E2 := hide X.out
  clear X
  go_wp2_with (first
    | refine wpList_load_mid rfl 33 _ rfl g 0 rfl (rowU 288 (tl B)) _ (E2.out.get 2 rfl).range Tryz.underlying33 rfl (info_tb _) ?_
    | refine wpList_store_mid rfl 33 _ _ rfl (g + 2) 0 (rowU 288 (tl B)).toArray rfl rfl ((E2.out.get 0 rfl).thereA _) (info_tbA _) (rowU_oneA _ _) ?_)
  have EE := hide (E2.out.put 0 rfl (tl B))
  refine bodyPost_ret (v := .tuple #[tv B, .int .i64 8]) ?_ rfl ⟨rfl, EE.out.below⟩
  have hlv := run_loadVar_mid (P := Tryz.prog) _ _ _ _ _ _ (EE.out.get 0 rfl).range Tryz.underlying33 rfl (info_tb _)
  exact results_two Tryz.results27 rfl rfl hlv
set_option maxRecDepth 100000 in
set_option maxHeartbeats 2000000 in
theorem move13_yes {B : Tb} {t p q : Nat} {N : Int} (w : World) (hB : Tok B) (hN : In N) (ht : t < 4) (hp : p < 18) (hq : q < 18) (hs : chk (t : Int) [(p : Int), (q : Int)] N = 0) (hle : N ≤ B (18 * t + p)) (hin : In ((updT B (18 * t + p) (B (18 * t + p) - N)) (18 * t + q) + N)) :
    Calls Tryz.prog 27 #[tv B, .int .u8 (t : Int), .int .u8 (p : Int), .int .u8 (q : Int), big N] w fun e w' => e = .returned (.tuple #[tv (updT (updT B (18 * t + p) (B (18 * t + p) - N)) (18 * t + q) ((updT B (18 * t + p) (B (18 * t + p) - N)) (18 * t + q) + N)), .int .i64 0]) ∧ Below w.heap.size w w' := by
  have HN := hide hN
  have HB := hide hB
  clear hN hB
  obtain ⟨W, hW⟩ : ∃ W, ((w.alloc (.cells (rowU 288 (tl B)).toArray 33)).alloc (.cells #[.int .u64 (lm N 0), .int .u64 (lm N 1), .int .u64 (lm N 2), .int .u64 (lm N 3)] 29)).alloc (.cells (rowU 288 (tl tz)).toArray 33) = W := ⟨_, rfl⟩
  obtain ⟨g, hg⟩ : ∃ g, w.heap.size = g := ⟨_, rfl⟩
  have E : Hid (Uxs w W [(g + 2, 288, tl tz), (g + 1, 4, lm N), (g, 288, tl B)]) := by rw [← hW]; exact hide ((((Uxs.none w).add hg (URow.box w 288 (tl B) _ hg)).add (by simp [hg]) (show URow _ (g + 1) 4 (lm N) from URow.box _ 4 (lm N) _ (by simp [hg]))).add (by simp [hg]) (URow.box _ 288 (tl tz) _ (by simp [hg])))
  have hzp := fun w => zeroTb w
  have hti : (t : Int) < 4 := by omega
  have hpi : (p : Int) < 18 := by omega
  have HT := hide ht
  have HP := hide hp
  have HQ := hide hq
  have hqi : (q : Int) < 18 := by omega
  have HS := hide hs
  have HLE : Hid (decide (B (18 * t + p) < N) = false) := hide (by simp; omega)
  have HLL := hide hle
  have HIN := hide hin
  clear hin
  clear ht hp hs hle hq
  go_enter Tryz.func27, Tryz.ntmps27
  go_wp2_with (first
    | (go_at_call 47; refine (wrong_any (N := N) _ HN.out).mono ?_; rintro e w1 ⟨rfl, hb⟩; rw [wr_two, HS.out]; have E1 := hide (E.out.after hb); clear hb)
    | refine wpList_load_mid rfl 29 _ rfl (g + 1) 0 rfl (rowU 4 (lm N)) _ (E.out.get 1 rfl).range Tryz.underlying29 rfl (info_lm _) ?_)
  clear E hzp
  have X : Hid (Uxs w w1.drew [(g + 2, 288, tl tz), (g + 1, 4, lm N), (g, 288, tl B)]) := hide (E1.out.after (bMe w1).drew)
  refine wp_region_held_drew (S := fun w1 => Uxs w w1 [(g + 2, 288, tl tz), (g + 1, 4, lm N), (g, 288, tl B)]) (by kernel_rfl) X.out (fun _ => ?_)
  refine tk0 (v := .int .u8 (t : Int)) (by kernel_rfl) (by kernel_rfl) (by kernel_rfl) (fun _ _ _ h => h) X.out (Or.inl ⟨by rfl, fun w hw => by go_simp; try (with_reducible rfl)⟩) ?_
  simp only [Act.put, List.setIfInBounds_toArray, List.set_cons_zero, List.set_cons_succ]
  refine tk1 (v := .int .u8 (p : Int)) (by kernel_rfl) (by kernel_rfl) (by kernel_rfl) (fun _ _ _ h => h) X.out (Or.inl ⟨by rfl, fun w hw => by go_simp; try (with_reducible rfl)⟩) ?_
  simp only [Act.put, List.setIfInBounds_toArray, List.set_cons_zero, List.set_cons_succ]
  refine tk2 (v := .pointer (some ⟨g, 0, none⟩)) (by kernel_rfl) (by kernel_rfl) (by kernel_rfl) (fun _ _ _ h => h) X.out (Or.inl ⟨by rfl, fun w hw => by go_simp; try (with_reducible rfl)⟩) ?_
  simp only [Act.put, List.setIfInBounds_toArray, List.set_cons_zero, List.set_cons_succ]
  refine tk3 (v := .pointer (some ⟨g, t * 72, none⟩)) (by kernel_rfl) (by kernel_rfl) (by kernel_rfl) (fun _ _ _ h => h) X.out (Or.inl ⟨by rfl, fun w hw => by go_simp; try (with_reducible rfl)⟩) ?_
  simp only [Act.put, List.setIfInBounds_toArray, List.set_cons_zero, List.set_cons_succ]
  refine tk4 (v := .pointer (some ⟨g, t * 72 + p * 4, none⟩)) (by kernel_rfl) (by kernel_rfl) (by kernel_rfl) (fun _ _ _ h => h) X.out (Or.inl ⟨by rfl, fun w hw => by go_simp; try (with_reducible rfl)⟩) ?_
  simp only [Act.put, List.setIfInBounds_toArray, List.set_cons_zero, List.set_cons_succ]
  refine tk5 (by kernel_rfl) (by kernel_rfl) (by kernel_rfl) (fun _ _ _ h => h) X.out (yieldsIf_load_mid (by rfl) _ _ rfl (g) (t * 72 + p * 4) rfl (rowU 4 (lm (B (18 * t + p)))) _ (fun _ hw => (hw.get 2 rfl).balAt HT.out HP.out) Tryz.underlying29 rfl (info_lm _)) ?_
  simp only [Act.put, List.setIfInBounds_toArray, List.set_cons_zero, List.set_cons_succ]
  refine tk6 (by kernel_rfl) (by kernel_rfl) (by kernel_rfl) (fun _ _ _ h => h) X.out (yieldsIf_load_mid (by rfl) _ _ rfl (g + 1) (0) rfl (rowU 4 (lm N)) _ (fun _ hw => (hw.get 1 rfl).range) Tryz.underlying29 rfl (info_lm _)) ?_
  simp only [Act.put, List.setIfInBounds_toArray, List.set_cons_zero, List.set_cons_succ]
  refine wpAnyH_ready (rs := [7]) (by kernel_rfl) (by simp) ?_
  refine rd7 (fun K hK => ?_) AllReadyH.nil
  go_simp
  refine (less_any _ (HB.out (18 * t + p)) HN.out).mono ?_
  rintro e w2 ⟨rfl, hb⟩
  rw [HLE.out]
  simp only []
  replace X := hide (X.out.after hb)
  clear hb
  refine hK.out _ _ X.out (fun _ => ?_)
  clear hK K
  refine wpAnyH_done (by kernel_rfl) ?_ _
  have E2 := hide X.out
  clear X
  go_wp2
  have E3 : Hid (Uxs w w2.drew [(g + 2, 288, tl tz), (g + 1, 4, lm N), (g, 288, tl B)]) := hide (E2.out.after (bMe w2).drew)
  clear E2
  have X : Hid (∃ X, Uxs w w2.drew [(g + 2, 288, tl tz), (g + 1, 4, lm N), (g, 288, X)]) := hide ⟨_, E3.out⟩
  refine wp_region_held_drew (S := fun w1 => ∃ X, Uxs w w1 [(g + 2, 288, tl tz), (g + 1, 4, lm N), (g, 288, X)]) (by kernel_rfl) X.out (fun _ => ?_)
  refine tk0 (v := .int .u8 (t : Int)) (by kernel_rfl) (by kernel_rfl) (by kernel_rfl) (fun _ _ _ h => h) X.out (Or.inl ⟨by rfl, fun w hw => by go_simp; try (with_reducible rfl)⟩) ?_
  simp only [Act.put, List.setIfInBounds_toArray, List.set_cons_zero, List.set_cons_succ]
  refine tk1 (v := .int .u8 (p : Int)) (by kernel_rfl) (by kernel_rfl) (by kernel_rfl) (fun _ _ _ h => h) X.out (Or.inl ⟨by rfl, fun w hw => by go_simp; try (with_reducible rfl)⟩) ?_
  simp only [Act.put, List.setIfInBounds_toArray, List.set_cons_zero, List.set_cons_succ]
  refine tk2 (v := .int .u8 (t : Int)) (by kernel_rfl) (by kernel_rfl) (by kernel_rfl) (fun _ _ _ h => h) X.out (Or.inl ⟨by rfl, fun w hw => by go_simp; try (with_reducible rfl)⟩) ?_
  simp only [Act.put, List.setIfInBounds_toArray, List.set_cons_zero, List.set_cons_succ]
  refine tk3 (v := .int .u8 (p : Int)) (by kernel_rfl) (by kernel_rfl) (by kernel_rfl) (fun _ _ _ h => h) X.out (Or.inl ⟨by rfl, fun w hw => by go_simp; try (with_reducible rfl)⟩) ?_
  simp only [Act.put, List.setIfInBounds_toArray, List.set_cons_zero, List.set_cons_succ]
  refine tk4 (v := .pointer (some ⟨g, 0, none⟩)) (by kernel_rfl) (by kernel_rfl) (by kernel_rfl) (fun _ _ _ h => h) X.out (Or.inl ⟨by rfl, fun w hw => by go_simp; try (with_reducible rfl)⟩) ?_
  simp only [Act.put, List.setIfInBounds_toArray, List.set_cons_zero, List.set_cons_succ]
  refine tk5 (v := .pointer (some ⟨g, t * 72, none⟩)) (by kernel_rfl) (by kernel_rfl) (by kernel_rfl) (fun _ _ _ h => h) X.out (Or.inl ⟨by rfl, fun w hw => by go_simp; try (with_reducible rfl)⟩) ?_
  simp only [Act.put, List.setIfInBounds_toArray, List.set_cons_zero, List.set_cons_succ]
  refine tk6 (v := .pointer (some ⟨g, t * 72 + p * 4, none⟩)) (by kernel_rfl) (by kernel_rfl) (by kernel_rfl) (fun _ _ _ h => h) X.out (Or.inl ⟨by rfl, fun w hw => by go_simp; try (with_reducible rfl)⟩) ?_
  simp only [Act.put, List.setIfInBounds_toArray, List.set_cons_zero, List.set_cons_succ]
  refine tk8 (by kernel_rfl) (by kernel_rfl) (by kernel_rfl) (fun _ _ _ h => h) X.out (yieldsIf_load_mid (by rfl) _ _ rfl (g + 1) (0) rfl (rowU 4 (lm N)) _ (fun _ hw => by obtain ⟨Y, hY⟩ := hw; exact (hY.get 1 rfl).range) Tryz.underlying29 rfl (info_lm _)) ?_
  simp only [Act.put, List.setIfInBounds_toArray, List.set_cons_zero, List.set_cons_succ]
  refine tk10 (v := .pointer (some ⟨g, 0, none⟩)) (by kernel_rfl) (by kernel_rfl) (by kernel_rfl) (fun _ _ _ h => h) X.out (Or.inl ⟨by rfl, fun w hw => by go_simp; try (with_reducible rfl)⟩) ?_
  simp only [Act.put, List.setIfInBounds_toArray, List.set_cons_zero, List.set_cons_succ]
  refine tk11 (v := .pointer (some ⟨g, t * 72, none⟩)) (by kernel_rfl) (by kernel_rfl) (by kernel_rfl) (fun _ _ _ h => h) X.out (Or.inl ⟨by rfl, fun w hw => by go_simp; try (with_reducible rfl)⟩) ?_
  simp only [Act.put, List.setIfInBounds_toArray, List.set_cons_zero, List.set_cons_succ]
  refine wpAnyH_ready (rs := [7]) (by kernel_rfl) (by simp) ?_
  refine rd7 (fun K hK => ?_) AllReadyH.nil
  rw [if_pos (by rfl)]
  refine wp_load_mid 29 _ rfl g (t * 72 + p * 4) rfl (rowU 4 (lm (B (18 * t + p)))) _ ((E3.out.get 2 rfl).balAt HT.out HP.out) Tryz.underlying29 rfl (info_lm _) ?_
  refine hK.out _ _ X.out (fun _ => ?_)
  clear hK K
  simp only [Act.put, List.setIfInBounds_toArray, List.set_cons_zero, List.set_cons_succ]
  refine wpAnyH_ready (rs := [9]) (by kernel_rfl) (by simp) ?_
  refine rd9 (fun K hK => ?_) AllReadyH.nil
  go_simp
  refine (sub13_any _ (HB.out (18 * t + p)) HN.out HLL.out).mono ?_
  rintro e w3 ⟨rfl, hb⟩
  simp only []
  replace E3 := hide (E3.out.after hb)
  replace X : Hid (∃ X, Uxs w w3 [(g + 2, 288, tl tz), (g + 1, 4, lm N), (g, 288, X)]) := hide ⟨_, E3.out⟩
  clear hb
  refine hK.out _ _ X.out (fun _ => ?_)
  clear hK K
  refine tk12 (v := .pointer (some ⟨g, t * 72 + p * 4, none⟩)) (by kernel_rfl) (by kernel_rfl) (by kernel_rfl) (fun _ _ _ h => h) X.out (Or.inl ⟨by rfl, fun w hw => by go_simp; try (with_reducible rfl)⟩) ?_
  simp only [Act.put, List.setIfInBounds_toArray, List.set_cons_zero, List.set_cons_succ]
  refine wpAnyH_ready (rs := [13]) (by kernel_rfl) (by simp) ?_
  refine rd13 (fun K hK => ?_) AllReadyH.nil
  rw [if_pos (by rfl)]
  refine wp_store_mid _ _ _ rfl g (t * 72 + p * 4) (rowU 4 (lm (B (18 * t + p) - N))).toArray rfl rfl ((E3.out.get 2 rfl).thereAt _ 4 _ (by have := HT.out; have := HP.out; omega)) (info_lmA _) (rowU_oneA _ _) ?_
  obtain ⟨w4, hw4⟩ : ∃ w4, w3.setCells g (t * 72 + p * 4) (rowU 4 (lm (B (18 * t + p) - N))) = w4 := ⟨_, rfl⟩
  replace E3 : Hid (Uxs w w4 [(g + 2, 288, tl tz), (g + 1, 4, lm N), (g, 288, tl (updT B (18 * t + p) (B (18 * t + p) - N)))]) := by rw [← hw4]; exact hide (E3.out.upd 2 rfl HT.out HP.out (B (18 * t + p) - N))
  rw [show (rowU 4 (lm (B (18 * t + p) - N))).toArray.toList = rowU 4 (lm (B (18 * t + p) - N)) from List.toList_toArray, hw4]
  replace X : Hid (∃ X, Uxs w w4 [(g + 2, 288, tl tz), (g + 1, 4, lm N), (g, 288, X)]) := hide ⟨_, E3.out⟩
  clear hw4
  refine hK.out _ _ X.out (fun _ => ?_)
  clear hK K
  refine wpAnyH_done (by kernel_rfl) ?_ _
  clear X
  have HB1 : Hid (Tok (updT B (18 * t + p) (B (18 * t + p) - N))) := hide (HB.out.upd _ (by have h1 := HB.out (18 * t + p); have h2 := HN.out; have h3 := HLL.out; unfold In at *; omega))
  obtain ⟨B1, hB1⟩ : ∃ B1, updT B (18 * t + p) (B (18 * t + p) - N) = B1 := ⟨_, rfl⟩
  have HIN1 : Hid (In (B1 (18 * t + q) + N)) := by rw [← hB1]; exact HIN.out
  rw [hB1] at E3 HB1
  have HB1E := hide hB1
  clear hB1 HIN
  go_wp2
  have E4 : Hid (Uxs w w4.drew [(g + 2, 288, tl tz), (g + 1, 4, lm N), (g, 288, tl B1)]) := hide (E3.out.after (bMe w4).drew)
  clear E3
  have X : Hid (∃ X, Uxs w w4.drew [(g + 2, 288, tl tz), (g + 1, 4, lm N), (g, 288, X)]) := hide ⟨_, E4.out⟩
  refine wp_region_held_drew (S := fun w1 => ∃ X, Uxs w w1 [(g + 2, 288, tl tz), (g + 1, 4, lm N), (g, 288, X)]) (by kernel_rfl) X.out (fun _ => ?_)
  refine tk0 (v := .int .u8 (t : Int)) (by kernel_rfl) (by kernel_rfl) (by kernel_rfl) (fun _ _ _ h => h) X.out (Or.inl ⟨by rfl, fun w hw => by go_simp; try (with_reducible rfl)⟩) ?_
  simp only [Act.put, List.setIfInBounds_toArray, List.set_cons_zero, List.set_cons_succ]
  refine tk1 (v := .int .u8 (q : Int)) (by kernel_rfl) (by kernel_rfl) (by kernel_rfl) (fun _ _ _ h => h) X.out (Or.inl ⟨by rfl, fun w hw => by go_simp; try (with_reducible rfl)⟩) ?_
  simp only [Act.put, List.setIfInBounds_toArray, List.set_cons_zero, List.set_cons_succ]
  refine tk2 (v := .int .u8 (t : Int)) (by kernel_rfl) (by kernel_rfl) (by kernel_rfl) (fun _ _ _ h => h) X.out (Or.inl ⟨by rfl, fun w hw => by go_simp; try (with_reducible rfl)⟩) ?_
  simp only [Act.put, List.setIfInBounds_toArray, List.set_cons_zero, List.set_cons_succ]
  refine tk3 (v := .int .u8 (q : Int)) (by kernel_rfl) (by kernel_rfl) (by kernel_rfl) (fun _ _ _ h => h) X.out (Or.inl ⟨by rfl, fun w hw => by go_simp; try (with_reducible rfl)⟩) ?_
  simp only [Act.put, List.setIfInBounds_toArray, List.set_cons_zero, List.set_cons_succ]
  refine tk4 (v := .pointer (some ⟨g, 0, none⟩)) (by kernel_rfl) (by kernel_rfl) (by kernel_rfl) (fun _ _ _ h => h) X.out (Or.inl ⟨by rfl, fun w hw => by go_simp; try (with_reducible rfl)⟩) ?_
  simp only [Act.put, List.setIfInBounds_toArray, List.set_cons_zero, List.set_cons_succ]
  refine tk5 (v := .pointer (some ⟨g, t * 72, none⟩)) (by kernel_rfl) (by kernel_rfl) (by kernel_rfl) (fun _ _ _ h => h) X.out (Or.inl ⟨by rfl, fun w hw => by go_simp; try (with_reducible rfl)⟩) ?_
  simp only [Act.put, List.setIfInBounds_toArray, List.set_cons_zero, List.set_cons_succ]
  refine tk6 (v := .pointer (some ⟨g, t * 72 + q * 4, none⟩)) (by kernel_rfl) (by kernel_rfl) (by kernel_rfl) (fun _ _ _ h => h) X.out (Or.inl ⟨by rfl, fun w hw => by go_simp; try (with_reducible rfl)⟩) ?_
  simp only [Act.put, List.setIfInBounds_toArray, List.set_cons_zero, List.set_cons_succ]
  refine tk8 (by kernel_rfl) (by kernel_rfl) (by kernel_rfl) (fun _ _ _ h => h) X.out (yieldsIf_load_mid (by rfl) _ _ rfl (g + 1) (0) rfl (rowU 4 (lm N)) _ (fun _ hw => by obtain ⟨Y, hY⟩ := hw; exact (hY.get 1 rfl).range) Tryz.underlying29 rfl (info_lm _)) ?_
  simp only [Act.put, List.setIfInBounds_toArray, List.set_cons_zero, List.set_cons_succ]
  refine tk10 (v := .pointer (some ⟨g, 0, none⟩)) (by kernel_rfl) (by kernel_rfl) (by kernel_rfl) (fun _ _ _ h => h) X.out (Or.inl ⟨by rfl, fun w hw => by go_simp; try (with_reducible rfl)⟩) ?_
  simp only [Act.put, List.setIfInBounds_toArray, List.set_cons_zero, List.set_cons_succ]
  refine tk11 (v := .pointer (some ⟨g, t * 72, none⟩)) (by kernel_rfl) (by kernel_rfl) (by kernel_rfl) (fun _ _ _ h => h) X.out (Or.inl ⟨by rfl, fun w hw => by go_simp; try (with_reducible rfl)⟩) ?_
  simp only [Act.put, List.setIfInBounds_toArray, List.set_cons_zero, List.set_cons_succ]
  refine wpAnyH_ready (rs := [7]) (by kernel_rfl) (by simp) ?_
  refine rd7 (fun K hK => ?_) AllReadyH.nil
  rw [if_pos (by rfl)]
  refine wp_load_mid 29 _ rfl g (t * 72 + q * 4) rfl (rowU 4 (lm (B1 (18 * t + q)))) _ ((E4.out.get 2 rfl).balAt HT.out HQ.out) Tryz.underlying29 rfl (info_lm _) ?_
  refine hK.out _ _ X.out (fun _ => ?_)
  clear hK K
  simp only [Act.put, List.setIfInBounds_toArray, List.set_cons_zero, List.set_cons_succ]
  refine wpAnyH_ready (rs := [9]) (by kernel_rfl) (by simp) ?_
  refine rd9 (fun K hK => ?_) AllReadyH.nil
  go_simp
  refine (add13_any _ (HB1.out (18 * t + q)) HN.out HIN1.out).mono ?_
  rintro e w3 ⟨rfl, hb⟩
  simp only []
  replace E4 := hide (E4.out.after hb)
  replace X : Hid (∃ X, Uxs w w3 [(g + 2, 288, tl tz), (g + 1, 4, lm N), (g, 288, X)]) := hide ⟨_, E4.out⟩
  clear hb
  refine hK.out _ _ X.out (fun _ => ?_)
  clear hK K
  refine tk12 (v := .pointer (some ⟨g, t * 72 + q * 4, none⟩)) (by kernel_rfl) (by kernel_rfl) (by kernel_rfl) (fun _ _ _ h => h) X.out (Or.inl ⟨by rfl, fun w hw => by go_simp; try (with_reducible rfl)⟩) ?_
  simp only [Act.put, List.setIfInBounds_toArray, List.set_cons_zero, List.set_cons_succ]
  refine wpAnyH_ready (rs := [13]) (by kernel_rfl) (by simp) ?_
  refine rd13 (fun K hK => ?_) AllReadyH.nil
  rw [if_pos (by rfl)]
  refine wp_store_mid _ _ _ rfl g (t * 72 + q * 4) (rowU 4 (lm (B1 (18 * t + q) + N))).toArray rfl rfl ((E4.out.get 2 rfl).thereAt _ 4 _ (by have := HT.out; have := HQ.out; omega)) (info_lmA _) (rowU_oneA _ _) ?_
  obtain ⟨w4, hw4⟩ : ∃ w4, w3.setCells g (t * 72 + q * 4) (rowU 4 (lm (B1 (18 * t + q) + N))) = w4 := ⟨_, rfl⟩
  replace E4 : Hid (Uxs w w4 [(g + 2, 288, tl tz), (g + 1, 4, lm N), (g, 288, tl (updT B1 (18 * t + q) (B1 (18 * t + q) + N)))]) := by rw [← hw4]; exact hide (E4.out.upd 2 rfl HT.out HQ.out (B1 (18 * t + q) + N))
  rw [show (rowU 4 (lm (B1 (18 * t + q) + N))).toArray.toList = rowU 4 (lm (B1 (18 * t + q) + N)) from List.toList_toArray, hw4]
  replace X : Hid (∃ X, Uxs w w4 [(g + 2, 288, tl tz), (g + 1, 4, lm N), (g, 288, X)]) := hide ⟨_, E4.out⟩
  clear hw4
  refine hK.out _ _ X.out (fun _ => ?_)
  clear hK K
  refine wpAnyH_done (by kernel_rfl) ?_ _
  clear X
  go_wp2_with (first
    | refine wpList_load_mid rfl 33 _ rfl g 0 rfl (rowU 288 (tl (updT B1 (18 * t + q) (B1 (18 * t + q) + N)))) _ (E4.out.get 2 rfl).range Tryz.underlying33 rfl (info_tb _) ?_
    | refine wpList_store_mid rfl 33 _ _ rfl (g + 2) 0 (rowU 288 (tl (updT B1 (18 * t + q) (B1 (18 * t + q) + N)))).toArray rfl rfl ((E4.out.get 0 rfl).thereA _) (info_tbA _) (rowU_oneA _ _) ?_)
  have EE := hide (E4.out.put 0 rfl (tl (updT B1 (18 * t + q) (B1 (18 * t + q) + N))))
  refine bodyPost_ret (v := .tuple #[tv (updT B1 (18 * t + q) (B1 (18 * t + q) + N)), .int .i64 0]) ?_ rfl ⟨by rw [← HB1E.out], EE.out.below⟩
  have hlv := run_loadVar_mid (P := Tryz.prog) _ _ _ _ _ _ (EE.out.get 0 rfl).range Tryz.underlying33 rfl (info_tb _)
  exact results_two Tryz.results27 rfl rfl hlv
set_option maxRecDepth 100000 in
set_option maxHeartbeats 2000000 in
theorem mint13_over {B : Tb} {t p : Nat} {N : Int} (w : World) (hB : Tok B) (hN : In N) (ht : t < 4) (hp : p < 18) (hs : chk (t : Int) [(p : Int)] N = 0) (hsum : ¬ In (sums (fun p => B (18 * t + p)) 18 + N)) :
    Calls Tryz.prog 25 #[tv B, .int .u8 (t : Int), .int .u8 (p : Int), big N] w fun e w' => e = .returned (.tuple #[tv B, .int .i64 2]) ∧ Below w.heap.size w w' := by
  have HN := hide hN
  have HB := hide hB
  clear hN hB
  obtain ⟨W, hW⟩ : ∃ W, ((w.alloc (.cells (rowU 288 (tl B)).toArray 33)).alloc (.cells #[.int .u64 (lm N 0), .int .u64 (lm N 1), .int .u64 (lm N 2), .int .u64 (lm N 3)] 29)).alloc (.cells (rowU 288 (tl tz)).toArray 33) = W := ⟨_, rfl⟩
  obtain ⟨g, hg⟩ : ∃ g, w.heap.size = g := ⟨_, rfl⟩
  have E : Hid (Uxs w W [(g + 2, 288, tl tz), (g + 1, 4, lm N), (g, 288, tl B)]) := by rw [← hW]; exact hide ((((Uxs.none w).add hg (URow.box w 288 (tl B) _ hg)).add (by simp [hg]) (show URow _ (g + 1) 4 (lm N) from URow.box _ 4 (lm N) _ (by simp [hg]))).add (by simp [hg]) (URow.box _ 288 (tl tz) _ (by simp [hg])))
  have hzp := fun w => zeroTb w
  have hti : (t : Int) < 4 := by omega
  have hpi : (p : Int) < 18 := by omega
  have HT := hide ht
  have HP := hide hp
  have HS := hide hs
  have HSUP := fun w => supply13_any HB.out ht w
  obtain ⟨SS, hSS⟩ : ∃ SS, sums (fun p => B (18 * t + p)) 18 = SS := ⟨_, rfl⟩
  rw [hSS] at hsum
  rw [hSS] at HSUP
  have HSUP := hide HSUP
  have HSM := hide hsum
  clear ht hp hs hsum hSS
  go_enter Tryz.func25, Tryz.ntmps25
  go_wp2_with (first
    | (go_at_call 47; refine (wrong_any (N := N) _ HN.out).mono ?_; rintro e w1 ⟨rfl, hb⟩; rw [wr_one, HS.out]; have E1 := hide (E.out.after hb); clear hb)
    | refine wpList_load_mid rfl 29 _ rfl (g + 1) 0 rfl (rowU 4 (lm N)) _ (E.out.get 1 rfl).range Tryz.underlying29 rfl (info_lm _) ?_)
  clear E hzp
  have X : Hid (Uxs w w1.drew [(g + 2, 288, tl tz), (g + 1, 4, lm N), (g, 288, tl B)]) := hide (E1.out.after (bMe w1).drew)
  clear E1
  refine wp_region_held_drew (S := fun w1 => Uxs w w1 [(g + 2, 288, tl tz), (g + 1, 4, lm N), (g, 288, tl B)]) (by kernel_rfl) X.out (fun _ => ?_)
  obtain ⟨v0, hv0⟩ : ∃ v0, w1.drew = v0 := ⟨_, rfl⟩
  rw [hv0] at X ⊢
  clear hv0
  refine tk0 (by kernel_rfl) (by kernel_rfl) (by kernel_rfl) (fun _ _ _ h => h) X.out (yieldsIf_load_mid (by rfl) _ _ rfl (g) (0) rfl (rowU 288 (tl B)) _ (fun _ hw => (hw.get 2 rfl).range) Tryz.underlying33 rfl (info_tb _)) ?_
  simp only [Act.put, List.setIfInBounds_toArray, List.set_cons_zero, List.set_cons_succ]
  refine tk1 (v := .int .u8 (t : Int)) (by kernel_rfl) (by kernel_rfl) (by kernel_rfl) (fun _ _ _ h => h) X.out (Or.inl ⟨by rfl, fun w hw => by go_simp; try (with_reducible rfl)⟩) ?_
  simp only [Act.put, List.setIfInBounds_toArray, List.set_cons_zero, List.set_cons_succ]
  refine tk3 (by kernel_rfl) (by kernel_rfl) (by kernel_rfl) (fun _ _ _ h => h) X.out (yieldsIf_load_mid (by rfl) _ _ rfl (g + 1) (0) rfl (rowU 4 (lm N)) _ (fun _ hw => (hw.get 1 rfl).range) Tryz.underlying29 rfl (info_lm _)) ?_
  simp only [Act.put, List.setIfInBounds_toArray, List.set_cons_zero, List.set_cons_succ]
  refine wpAnyH_ready (rs := [2, 10]) (by kernel_rfl) (by simp) ?_
  refine rd2 (fun K hK => ?_) (rd10 (fun K hK => ?_) AllReadyH.nil)
  · go_simp
    refine (HSUP.out _).mono ?_
    rintro e v1 ⟨xo, xn, xc, rfl, nx, hb⟩
    simp only []
    replace X := hide (X.out.after hb)
    have NX := hide nx
    clear nx
    clear hb
    refine hK.out _ _ X.out (fun _ => ?_)
    clear hK K
    refine wpAnyH_ready (rs := [4, 10]) (by kernel_rfl) (by simp) ?_
    refine rd4 (fun K hK => ?_) (rd10 (fun K hK => ?_) AllReadyH.nil)
    · go_simp
      refine (row_of N _ HN.out).mono ?_
      rintro e v2 ⟨yo, yn, yc, rfl, ny, hb⟩
      simp only []
      replace X := hide (X.out.after hb)
      replace NX := hide (NX.out.below hb)
      have NY := hide (ny.mono (show 16 ≤ 34 by omega))
      clear ny
      clear hb
      refine hK.out _ _ X.out (fun _ => ?_)
      clear hK K
      refine wpAnyH_ready (rs := [5, 10]) (by kernel_rfl) (by simp) ?_
      refine rd5 (fun K hK => ?_) (rd10 (fun K hK => ?_) AllReadyH.nil)
      · go_simp
        refine (add_any NX.out NY.out (by omega)).mono ?_
        rintro e v3 ⟨zo, zn, zc, rfl, nz, hb⟩
        simp only []
        replace X := hide (X.out.after hb)
        have NZ := hide nz
        clear nz NX NY
        clear hb
        refine hK.out _ _ X.out (fun _ => ?_)
        clear hK K
        refine wpAnyH_ready (rs := [6, 10]) (by kernel_rfl) (by simp) ?_
        refine rd6 (fun K hK => ?_) (rd10 (fun K hK => ?_) AllReadyH.nil)
        · go_simp
          refine (int_over NZ.out HSM.out).mono ?_
          rintro e v4 ⟨rfl, hb⟩
          simp only []
          replace X := hide (X.out.after hb)
          clear NZ
          clear hb
          refine hK.out _ _ X.out (fun _ => ?_)
          clear hK K
          refine tk7 (v := .tuple #[big (0), .bool false]) (by kernel_rfl) (by kernel_rfl) (by kernel_rfl) (fun _ _ _ h => h) X.out (Or.inl ⟨by rfl, fun w hw => by go_simp; try (with_reducible rfl)⟩) ?_
          simp only [Act.put, List.setIfInBounds_toArray, List.set_cons_zero, List.set_cons_succ]
          refine tk8 (v := big (0)) (by kernel_rfl) (by kernel_rfl) (by kernel_rfl) (fun _ _ _ h => h) X.out (Or.inl ⟨by rfl, fun w hw => by go_simp; try (with_reducible rfl)⟩) ?_
          simp only [Act.put, List.setIfInBounds_toArray, List.set_cons_zero, List.set_cons_succ]
          refine tk9 (v := .bool false) (by kernel_rfl) (by kernel_rfl) (by kernel_rfl) (fun _ _ _ h => h) X.out (Or.inl ⟨by rfl, fun w hw => by go_simp; try (with_reducible rfl)⟩) ?_
          simp only [Act.put, List.setIfInBounds_toArray, List.set_cons_zero, List.set_cons_succ]
          refine wpAnyH_ready (rs := [10]) (by kernel_rfl) (by simp) ?_
          refine rd10 (fun K hK => ?_) AllReadyH.nil
          go_simp
          obtain ⟨g5, hg5⟩ : ∃ g5, v4.heap.size = g5 := ⟨_, rfl⟩
          obtain ⟨w5, hw5⟩ : ∃ w5, v4.alloc (.cells #[.int .u64 0, .int .u64 0, .int .u64 0, .int .u64 0] 29) = w5 := ⟨_, rfl⟩
          have E5 := hide (X.out.add hg5 (show URow (v4.alloc (.cells #[.int .u64 0, .int .u64 0, .int .u64 0, .int .u64 0] 29)) g5 4 (fun _ => 0) from URow.box v4 4 (fun _ => 0) 29 hg5))
          have hb := bAl (o := .cells #[.int .u64 0, .int .u64 0, .int .u64 0, .int .u64 0] 29) (bMe v4)
          rw [hw5] at E5 hb
          replace X := hide (X.out.after hb)
          rw [hg5, hw5]
          clear hb hw5 hg5
          refine hK.out _ _ X.out (fun _ => ?_)
          clear hK K
          refine wpAnyH_ready (rs := [11]) (by kernel_rfl) (by simp) ?_
          refine rd11 (fun K hK => ?_) AllReadyH.nil
          rw [if_pos (by rfl)]
          refine wp_store_mid _ _ _ rfl g5 0 (rowU 4 (lm (0))).toArray rfl rfl ((E5.out.get 0 rfl).thereA _) (info_lmA _) (rowU_oneA _ _) ?_
          obtain ⟨w6, hw6⟩ : ∃ w6, w5.setCells g5 0 (rowU 4 (lm (0))) = w6 := ⟨_, rfl⟩
          have E6 := hide (E5.out.put 0 rfl (lm (0)))
          rw [hw6] at E6
          rw [show (rowU 4 (lm (0))).toArray.toList = rowU 4 (lm (0)) from List.toList_toArray, hw6]
          replace X := hide E6.out.tail
          clear hw6 E5
          refine hK.out _ _ X.out (fun _ => ?_)
          clear hK K
          refine tk12 (v := .bool false) (by kernel_rfl) (by kernel_rfl) (by kernel_rfl) (fun _ _ _ h => h) X.out (Or.inl ⟨by rfl, fun w hw => by go_simp; try (with_reducible rfl)⟩) ?_
          simp only [Act.put, List.setIfInBounds_toArray, List.set_cons_zero, List.set_cons_succ]
          refine wpAnyH_done (by kernel_rfl) ?_ _
          have E7 := hide X.out
          clear X E6
          go_wp2_with (first
            | refine wpList_load_mid rfl 33 _ rfl g 0 rfl (rowU 288 (tl B)) _ (E7.out.get 2 rfl).range Tryz.underlying33 rfl (info_tb _) ?_
            | refine wpList_store_mid rfl 33 _ _ rfl (g + 2) 0 (rowU 288 (tl B)).toArray rfl rfl ((E7.out.get 0 rfl).thereA _) (info_tbA _) (rowU_oneA _ _) ?_)
          have EE := hide (E7.out.put 0 rfl (tl B))
          refine bodyPost_ret (v := .tuple #[tv B, .int .i64 2]) ?_ rfl ⟨rfl, EE.out.below⟩
          have hlv := run_loadVar_mid (P := Tryz.prog) _ _ _ _ _ _ (EE.out.get 0 rfl).range Tryz.underlying33 rfl (info_tb _)
          exact results_two Tryz.results25 rfl rfl hlv
        · go_simp
          obtain ⟨g5, hg5⟩ : ∃ g5, v3.heap.size = g5 := ⟨_, rfl⟩
          obtain ⟨w5, hw5⟩ : ∃ w5, v3.alloc (.cells #[.int .u64 0, .int .u64 0, .int .u64 0, .int .u64 0] 29) = w5 := ⟨_, rfl⟩
          have E5 := hide (X.out.add hg5 (show URow (v3.alloc (.cells #[.int .u64 0, .int .u64 0, .int .u64 0, .int .u64 0] 29)) g5 4 (fun _ => 0) from URow.box v3 4 (fun _ => 0) 29 hg5))
          have hb := bAl (o := .cells #[.int .u64 0, .int .u64 0, .int .u64 0, .int .u64 0] 29) (bMe v3)
          rw [hw5] at E5 hb
          replace X := hide (X.out.after hb)
          replace NZ := hide (NZ.out.below hb)
          rw [hg5, hw5]
          clear hb hw5 hg5
          refine hK.out _ _ X.out (fun _ => ?_)
          clear hK K
          refine wpAnyH_ready (rs := [6]) (by kernel_rfl) (by simp) ?_
          refine rd6 (fun K hK => ?_) AllReadyH.nil
          go_simp
          refine (int_over NZ.out HSM.out).mono ?_
          rintro e u4 ⟨rfl, hb⟩
          simp only []
          replace X := hide (X.out.after hb)
          replace E5 := hide (E5.out.after hb)
          clear NZ
          clear hb
          refine hK.out _ _ X.out (fun _ => ?_)
          clear hK K
          refine tk7 (v := .tuple #[big (0), .bool false]) (by kernel_rfl) (by kernel_rfl) (by kernel_rfl) (fun _ _ _ h => h) X.out (Or.inl ⟨by rfl, fun w hw => by go_simp; try (with_reducible rfl)⟩) ?_
          simp only [Act.put, List.setIfInBounds_toArray, List.set_cons_zero, List.set_cons_succ]
          refine tk8 (v := big (0)) (by kernel_rfl) (by kernel_rfl) (by kernel_rfl) (fun _ _ _ h => h) X.out (Or.inl ⟨by rfl, fun w hw => by go_simp; try (with_reducible rfl)⟩) ?_
          simp only [Act.put, List.setIfInBounds_toArray, List.set_cons_zero, List.set_cons_succ]
          refine tk9 (v := .bool false) (by kernel_rfl) (by kernel_rfl) (by kernel_rfl) (fun _ _ _ h => h) X.out (Or.inl ⟨by rfl, fun w hw => by go_simp; try (with_reducible rfl)⟩) ?_
          simp only [Act.put, List.setIfInBounds_toArray, List.set_cons_zero, List.set_cons_succ]
          refine wpAnyH_ready (rs := [11]) (by kernel_rfl) (by simp) ?_
          refine rd11 (fun K hK => ?_) AllReadyH.nil
          rw [if_pos (by rfl)]
          refine wp_store_mid _ _ _ rfl g5 0 (rowU 4 (lm (0))).toArray rfl rfl ((E5.out.get 0 rfl).thereA _) (info_lmA _) (rowU_oneA _ _) ?_
          obtain ⟨w6, hw6⟩ : ∃ w6, u4.setCells g5 0 (rowU 4 (lm (0))) = w6 := ⟨_, rfl⟩
          have E6 := hide (E5.out.put 0 rfl (lm (0)))
          rw [hw6] at E6
          rw [show (rowU 4 (lm (0))).toArray.toList = rowU 4 (lm (0)) from List.toList_toArray, hw6]
          replace X := hide E6.out.tail
          clear hw6 E5
          refine hK.out _ _ X.out (fun _ => ?_)
          clear hK K
          refine tk12 (v := .bool false) (by kernel_rfl) (by kernel_rfl) (by kernel_rfl) (fun _ _ _ h => h) X.out (Or.inl ⟨by rfl, fun w hw => by go_simp; try (with_reducible rfl)⟩) ?_
          simp only [Act.put, List.setIfInBounds_toArray, List.set_cons_zero, List.set_cons_succ]
          refine wpAnyH_done (by kernel_rfl) ?_ _
          have E7 := hide X.out
          clear X E6
          go_wp2_with (first
            | refine wpList_load_mid rfl 33 _ rfl g 0 rfl (rowU 288 (tl B)) _ (E7.out.get 2 rfl).range Tryz.underlying33 rfl (info_tb _) ?_
            | refine wpList_store_mid rfl 33 _ _ rfl (g + 2) 0 (rowU 288 (tl B)).toArray rfl rfl ((E7.out.get 0 rfl).thereA _) (info_tbA _) (rowU_oneA _ _) ?_)
          have EE := hide (E7.out.put 0 rfl (tl B))
          refine bodyPost_ret (v := .tuple #[tv B, .int .i64 2]) ?_ rfl ⟨rfl, EE.out.below⟩
          have hlv := run_loadVar_mid (P := Tryz.prog) _ _ _ _ _ _ (EE.out.get 0 rfl).range Tryz.underlying33 rfl (info_tb _)
          exact results_two Tryz.results25 rfl rfl hlv
      · go_simp
        obtain ⟨g5, hg5⟩ : ∃ g5, v2.heap.size = g5 := ⟨_, rfl⟩
        obtain ⟨w5, hw5⟩ : ∃ w5, v2.alloc (.cells #[.int .u64 0, .int .u64 0, .int .u64 0, .int .u64 0] 29) = w5 := ⟨_, rfl⟩
        have E5 := hide (X.out.add hg5 (show URow (v2.alloc (.cells #[.int .u64 0, .int .u64 0, .int .u64 0, .int .u64 0] 29)) g5 4 (fun _ => 0) from URow.box v2 4 (fun _ => 0) 29 hg5))
        have hb := bAl (o := .cells #[.int .u64 0, .int .u64 0, .int .u64 0, .int .u64 0] 29) (bMe v2)
        rw [hw5] at E5 hb
        replace X := hide (X.out.after hb)
        replace NX := hide (NX.out.below hb)
        replace NY := hide (NY.out.below hb)
        rw [hg5, hw5]
        clear hb hw5 hg5
        refine hK.out _ _ X.out (fun _ => ?_)
        clear hK K
        refine wpAnyH_ready (rs := [5]) (by kernel_rfl) (by simp) ?_
        refine rd5 (fun K hK => ?_) AllReadyH.nil
        go_simp
        refine (add_any NX.out NY.out (by omega)).mono ?_
        rintro e u3 ⟨zo, zn, zc, rfl, nz, hb⟩
        simp only []
        replace X := hide (X.out.after hb)
        replace E5 := hide (E5.out.after hb)
        have NZ := hide nz
        clear nz NX NY
        clear hb
        refine hK.out _ _ X.out (fun _ => ?_)
        clear hK K
        refine wpAnyH_ready (rs := [6]) (by kernel_rfl) (by simp) ?_
        refine rd6 (fun K hK => ?_) AllReadyH.nil
        go_simp
        refine (int_over NZ.out HSM.out).mono ?_
        rintro e u4 ⟨rfl, hb⟩
        simp only []
        replace X := hide (X.out.after hb)
        replace E5 := hide (E5.out.after hb)
        clear NZ
        clear hb
        refine hK.out _ _ X.out (fun _ => ?_)
        clear hK K
        refine tk7 (v := .tuple #[big (0), .bool false]) (by kernel_rfl) (by kernel_rfl) (by kernel_rfl) (fun _ _ _ h => h) X.out (Or.inl ⟨by rfl, fun w hw => by go_simp; try (with_reducible rfl)⟩) ?_
        simp only [Act.put, List.setIfInBounds_toArray, List.set_cons_zero, List.set_cons_succ]
        refine tk8 (v := big (0)) (by kernel_rfl) (by kernel_rfl) (by kernel_rfl) (fun _ _ _ h => h) X.out (Or.inl ⟨by rfl, fun w hw => by go_simp; try (with_reducible rfl)⟩) ?_
        simp only [Act.put, List.setIfInBounds_toArray, List.set_cons_zero, List.set_cons_succ]
        refine tk9 (v := .bool false) (by kernel_rfl) (by kernel_rfl) (by kernel_rfl) (fun _ _ _ h => h) X.out (Or.inl ⟨by rfl, fun w hw => by go_simp; try (with_reducible rfl)⟩) ?_
        simp only [Act.put, List.setIfInBounds_toArray, List.set_cons_zero, List.set_cons_succ]
        refine wpAnyH_ready (rs := [11]) (by kernel_rfl) (by simp) ?_
        refine rd11 (fun K hK => ?_) AllReadyH.nil
        rw [if_pos (by rfl)]
        refine wp_store_mid _ _ _ rfl g5 0 (rowU 4 (lm (0))).toArray rfl rfl ((E5.out.get 0 rfl).thereA _) (info_lmA _) (rowU_oneA _ _) ?_
        obtain ⟨w6, hw6⟩ : ∃ w6, u4.setCells g5 0 (rowU 4 (lm (0))) = w6 := ⟨_, rfl⟩
        have E6 := hide (E5.out.put 0 rfl (lm (0)))
        rw [hw6] at E6
        rw [show (rowU 4 (lm (0))).toArray.toList = rowU 4 (lm (0)) from List.toList_toArray, hw6]
        replace X := hide E6.out.tail
        clear hw6 E5
        refine hK.out _ _ X.out (fun _ => ?_)
        clear hK K
        refine tk12 (v := .bool false) (by kernel_rfl) (by kernel_rfl) (by kernel_rfl) (fun _ _ _ h => h) X.out (Or.inl ⟨by rfl, fun w hw => by go_simp; try (with_reducible rfl)⟩) ?_
        simp only [Act.put, List.setIfInBounds_toArray, List.set_cons_zero, List.set_cons_succ]
        refine wpAnyH_done (by kernel_rfl) ?_ _
        have E7 := hide X.out
        clear X E6
        go_wp2_with (first
          | refine wpList_load_mid rfl 33 _ rfl g 0 rfl (rowU 288 (tl B)) _ (E7.out.get 2 rfl).range Tryz.underlying33 rfl (info_tb _) ?_
          | refine wpList_store_mid rfl 33 _ _ rfl (g + 2) 0 (rowU 288 (tl B)).toArray rfl rfl ((E7.out.get 0 rfl).thereA _) (info_tbA _) (rowU_oneA _ _) ?_)
        have EE := hide (E7.out.put 0 rfl (tl B))
        refine bodyPost_ret (v := .tuple #[tv B, .int .i64 2]) ?_ rfl ⟨rfl, EE.out.below⟩
        have hlv := run_loadVar_mid (P := Tryz.prog) _ _ _ _ _ _ (EE.out.get 0 rfl).range Tryz.underlying33 rfl (info_tb _)
        exact results_two Tryz.results25 rfl rfl hlv
    · go_simp
      obtain ⟨g5, hg5⟩ : ∃ g5, v1.heap.size = g5 := ⟨_, rfl⟩
      obtain ⟨w5, hw5⟩ : ∃ w5, v1.alloc (.cells #[.int .u64 0, .int .u64 0, .int .u64 0, .int .u64 0] 29) = w5 := ⟨_, rfl⟩
      have E5 := hide (X.out.add hg5 (show URow (v1.alloc (.cells #[.int .u64 0, .int .u64 0, .int .u64 0, .int .u64 0] 29)) g5 4 (fun _ => 0) from URow.box v1 4 (fun _ => 0) 29 hg5))
      have hb := bAl (o := .cells #[.int .u64 0, .int .u64 0, .int .u64 0, .int .u64 0] 29) (bMe v1)
      rw [hw5] at E5 hb
      replace X := hide (X.out.after hb)
      replace NX := hide (NX.out.below hb)
      rw [hg5, hw5]
      clear hb hw5 hg5
      refine hK.out _ _ X.out (fun _ => ?_)
      clear hK K
      refine wpAnyH_ready (rs := [4]) (by kernel_rfl) (by simp) ?_
      refine rd4 (fun K hK => ?_) AllReadyH.nil
      go_simp
      refine (row_of N _ HN.out).mono ?_
      rintro e u2 ⟨yo, yn, yc, rfl, ny, hb⟩
      simp only []
      replace X := hide (X.out.after hb)
      replace NX := hide (NX.out.below hb)
      replace E5 := hide (E5.out.after hb)
      have NY := hide (ny.mono (show 16 ≤ 34 by omega))
      clear ny
      clear hb
      refine hK.out _ _ X.out (fun _ => ?_)
      clear hK K
      refine wpAnyH_ready (rs := [5]) (by kernel_rfl) (by simp) ?_
      refine rd5 (fun K hK => ?_) AllReadyH.nil
      go_simp
      refine (add_any NX.out NY.out (by omega)).mono ?_
      rintro e u3 ⟨zo, zn, zc, rfl, nz, hb⟩
      simp only []
      replace X := hide (X.out.after hb)
      replace E5 := hide (E5.out.after hb)
      have NZ := hide nz
      clear nz NX NY
      clear hb
      refine hK.out _ _ X.out (fun _ => ?_)
      clear hK K
      refine wpAnyH_ready (rs := [6]) (by kernel_rfl) (by simp) ?_
      refine rd6 (fun K hK => ?_) AllReadyH.nil
      go_simp
      refine (int_over NZ.out HSM.out).mono ?_
      rintro e u4 ⟨rfl, hb⟩
      simp only []
      replace X := hide (X.out.after hb)
      replace E5 := hide (E5.out.after hb)
      clear NZ
      clear hb
      refine hK.out _ _ X.out (fun _ => ?_)
      clear hK K
      refine tk7 (v := .tuple #[big (0), .bool false]) (by kernel_rfl) (by kernel_rfl) (by kernel_rfl) (fun _ _ _ h => h) X.out (Or.inl ⟨by rfl, fun w hw => by go_simp; try (with_reducible rfl)⟩) ?_
      simp only [Act.put, List.setIfInBounds_toArray, List.set_cons_zero, List.set_cons_succ]
      refine tk8 (v := big (0)) (by kernel_rfl) (by kernel_rfl) (by kernel_rfl) (fun _ _ _ h => h) X.out (Or.inl ⟨by rfl, fun w hw => by go_simp; try (with_reducible rfl)⟩) ?_
      simp only [Act.put, List.setIfInBounds_toArray, List.set_cons_zero, List.set_cons_succ]
      refine tk9 (v := .bool false) (by kernel_rfl) (by kernel_rfl) (by kernel_rfl) (fun _ _ _ h => h) X.out (Or.inl ⟨by rfl, fun w hw => by go_simp; try (with_reducible rfl)⟩) ?_
      simp only [Act.put, List.setIfInBounds_toArray, List.set_cons_zero, List.set_cons_succ]
      refine wpAnyH_ready (rs := [11]) (by kernel_rfl) (by simp) ?_
      refine rd11 (fun K hK => ?_) AllReadyH.nil
      rw [if_pos (by rfl)]
      refine wp_store_mid _ _ _ rfl g5 0 (rowU 4 (lm (0))).toArray rfl rfl ((E5.out.get 0 rfl).thereA _) (info_lmA _) (rowU_oneA _ _) ?_
      obtain ⟨w6, hw6⟩ : ∃ w6, u4.setCells g5 0 (rowU 4 (lm (0))) = w6 := ⟨_, rfl⟩
      have E6 := hide (E5.out.put 0 rfl (lm (0)))
      rw [hw6] at E6
      rw [show (rowU 4 (lm (0))).toArray.toList = rowU 4 (lm (0)) from List.toList_toArray, hw6]
      replace X := hide E6.out.tail
      clear hw6 E5
      refine hK.out _ _ X.out (fun _ => ?_)
      clear hK K
      refine tk12 (v := .bool false) (by kernel_rfl) (by kernel_rfl) (by kernel_rfl) (fun _ _ _ h => h) X.out (Or.inl ⟨by rfl, fun w hw => by go_simp; try (with_reducible rfl)⟩) ?_
      simp only [Act.put, List.setIfInBounds_toArray, List.set_cons_zero, List.set_cons_succ]
      refine wpAnyH_done (by kernel_rfl) ?_ _
      have E7 := hide X.out
      clear X E6
      go_wp2_with (first
        | refine wpList_load_mid rfl 33 _ rfl g 0 rfl (rowU 288 (tl B)) _ (E7.out.get 2 rfl).range Tryz.underlying33 rfl (info_tb _) ?_
        | refine wpList_store_mid rfl 33 _ _ rfl (g + 2) 0 (rowU 288 (tl B)).toArray rfl rfl ((E7.out.get 0 rfl).thereA _) (info_tbA _) (rowU_oneA _ _) ?_)
      have EE := hide (E7.out.put 0 rfl (tl B))
      refine bodyPost_ret (v := .tuple #[tv B, .int .i64 2]) ?_ rfl ⟨rfl, EE.out.below⟩
      have hlv := run_loadVar_mid (P := Tryz.prog) _ _ _ _ _ _ (EE.out.get 0 rfl).range Tryz.underlying33 rfl (info_tb _)
      exact results_two Tryz.results25 rfl rfl hlv
  · go_simp
    obtain ⟨g5, hg5⟩ : ∃ g5, v0.heap.size = g5 := ⟨_, rfl⟩
    obtain ⟨w5, hw5⟩ : ∃ w5, v0.alloc (.cells #[.int .u64 0, .int .u64 0, .int .u64 0, .int .u64 0] 29) = w5 := ⟨_, rfl⟩
    have E5 := hide (X.out.add hg5 (show URow (v0.alloc (.cells #[.int .u64 0, .int .u64 0, .int .u64 0, .int .u64 0] 29)) g5 4 (fun _ => 0) from URow.box v0 4 (fun _ => 0) 29 hg5))
    have hb := bAl (o := .cells #[.int .u64 0, .int .u64 0, .int .u64 0, .int .u64 0] 29) (bMe v0)
    rw [hw5] at E5 hb
    replace X := hide (X.out.after hb)
    rw [hg5, hw5]
    clear hb hw5 hg5
    refine hK.out _ _ X.out (fun _ => ?_)
    clear hK K
    refine wpAnyH_ready (rs := [2]) (by kernel_rfl) (by simp) ?_
    refine rd2 (fun K hK => ?_) AllReadyH.nil
    go_simp
    refine (HSUP.out _).mono ?_
    rintro e u1 ⟨xo, xn, xc, rfl, nx, hb⟩
    simp only []
    replace X := hide (X.out.after hb)
    replace E5 := hide (E5.out.after hb)
    have NX := hide nx
    clear nx
    clear hb
    refine hK.out _ _ X.out (fun _ => ?_)
    clear hK K
    refine wpAnyH_ready (rs := [4]) (by kernel_rfl) (by simp) ?_
    refine rd4 (fun K hK => ?_) AllReadyH.nil
    go_simp
    refine (row_of N _ HN.out).mono ?_
    rintro e u2 ⟨yo, yn, yc, rfl, ny, hb⟩
    simp only []
    replace X := hide (X.out.after hb)
    replace E5 := hide (E5.out.after hb)
    replace NX := hide (NX.out.below hb)
    have NY := hide (ny.mono (show 16 ≤ 34 by omega))
    clear ny
    clear hb
    refine hK.out _ _ X.out (fun _ => ?_)
    clear hK K
    refine wpAnyH_ready (rs := [5]) (by kernel_rfl) (by simp) ?_
    refine rd5 (fun K hK => ?_) AllReadyH.nil
    go_simp
    refine (add_any NX.out NY.out (by omega)).mono ?_
    rintro e u3 ⟨zo, zn, zc, rfl, nz, hb⟩
    simp only []
    replace X := hide (X.out.after hb)
    replace E5 := hide (E5.out.after hb)
    have NZ := hide nz
    clear nz NX NY
    clear hb
    refine hK.out _ _ X.out (fun _ => ?_)
    clear hK K
    refine wpAnyH_ready (rs := [6]) (by kernel_rfl) (by simp) ?_
    refine rd6 (fun K hK => ?_) AllReadyH.nil
    go_simp
    refine (int_over NZ.out HSM.out).mono ?_
    rintro e u4 ⟨rfl, hb⟩
    simp only []
    replace X := hide (X.out.after hb)
    replace E5 := hide (E5.out.after hb)
    clear NZ
    clear hb
    refine hK.out _ _ X.out (fun _ => ?_)
    clear hK K
    refine tk7 (v := .tuple #[big (0), .bool false]) (by kernel_rfl) (by kernel_rfl) (by kernel_rfl) (fun _ _ _ h => h) X.out (Or.inl ⟨by rfl, fun w hw => by go_simp; try (with_reducible rfl)⟩) ?_
    simp only [Act.put, List.setIfInBounds_toArray, List.set_cons_zero, List.set_cons_succ]
    refine tk8 (v := big (0)) (by kernel_rfl) (by kernel_rfl) (by kernel_rfl) (fun _ _ _ h => h) X.out (Or.inl ⟨by rfl, fun w hw => by go_simp; try (with_reducible rfl)⟩) ?_
    simp only [Act.put, List.setIfInBounds_toArray, List.set_cons_zero, List.set_cons_succ]
    refine tk9 (v := .bool false) (by kernel_rfl) (by kernel_rfl) (by kernel_rfl) (fun _ _ _ h => h) X.out (Or.inl ⟨by rfl, fun w hw => by go_simp; try (with_reducible rfl)⟩) ?_
    simp only [Act.put, List.setIfInBounds_toArray, List.set_cons_zero, List.set_cons_succ]
    refine wpAnyH_ready (rs := [11]) (by kernel_rfl) (by simp) ?_
    refine rd11 (fun K hK => ?_) AllReadyH.nil
    rw [if_pos (by rfl)]
    refine wp_store_mid _ _ _ rfl g5 0 (rowU 4 (lm (0))).toArray rfl rfl ((E5.out.get 0 rfl).thereA _) (info_lmA _) (rowU_oneA _ _) ?_
    obtain ⟨w6, hw6⟩ : ∃ w6, u4.setCells g5 0 (rowU 4 (lm (0))) = w6 := ⟨_, rfl⟩
    have E6 := hide (E5.out.put 0 rfl (lm (0)))
    rw [hw6] at E6
    rw [show (rowU 4 (lm (0))).toArray.toList = rowU 4 (lm (0)) from List.toList_toArray, hw6]
    replace X := hide E6.out.tail
    clear hw6 E5
    refine hK.out _ _ X.out (fun _ => ?_)
    clear hK K
    refine tk12 (v := .bool false) (by kernel_rfl) (by kernel_rfl) (by kernel_rfl) (fun _ _ _ h => h) X.out (Or.inl ⟨by rfl, fun w hw => by go_simp; try (with_reducible rfl)⟩) ?_
    simp only [Act.put, List.setIfInBounds_toArray, List.set_cons_zero, List.set_cons_succ]
    refine wpAnyH_done (by kernel_rfl) ?_ _
    have E7 := hide X.out
    clear X E6
    go_wp2_with (first
      | refine wpList_load_mid rfl 33 _ rfl g 0 rfl (rowU 288 (tl B)) _ (E7.out.get 2 rfl).range Tryz.underlying33 rfl (info_tb _) ?_
      | refine wpList_store_mid rfl 33 _ _ rfl (g + 2) 0 (rowU 288 (tl B)).toArray rfl rfl ((E7.out.get 0 rfl).thereA _) (info_tbA _) (rowU_oneA _ _) ?_)
    have EE := hide (E7.out.put 0 rfl (tl B))
    refine bodyPost_ret (v := .tuple #[tv B, .int .i64 2]) ?_ rfl ⟨rfl, EE.out.below⟩
    have hlv := run_loadVar_mid (P := Tryz.prog) _ _ _ _ _ _ (EE.out.get 0 rfl).range Tryz.underlying33 rfl (info_tb _)
    exact results_two Tryz.results25 rfl rfl hlv
set_option maxRecDepth 100000 in
set_option maxHeartbeats 2000000 in
theorem mint13_yes {B : Tb} {t p : Nat} {N : Int} (w : World) (hB : Tok B) (hN : In N) (ht : t < 4) (hp : p < 18) (hs : chk (t : Int) [(p : Int)] N = 0) (hsum : In (sums (fun p => B (18 * t + p)) 18 + N)) (hin : In (B (18 * t + p) + N)) :
    Calls Tryz.prog 25 #[tv B, .int .u8 (t : Int), .int .u8 (p : Int), big N] w fun e w' => e = .returned (.tuple #[tv (updT B (18 * t + p) (B (18 * t + p) + N)), .int .i64 0]) ∧ Below w.heap.size w w' := by
  have HN := hide hN
  have HB := hide hB
  clear hN hB
  obtain ⟨W, hW⟩ : ∃ W, ((w.alloc (.cells (rowU 288 (tl B)).toArray 33)).alloc (.cells #[.int .u64 (lm N 0), .int .u64 (lm N 1), .int .u64 (lm N 2), .int .u64 (lm N 3)] 29)).alloc (.cells (rowU 288 (tl tz)).toArray 33) = W := ⟨_, rfl⟩
  obtain ⟨g, hg⟩ : ∃ g, w.heap.size = g := ⟨_, rfl⟩
  have E : Hid (Uxs w W [(g + 2, 288, tl tz), (g + 1, 4, lm N), (g, 288, tl B)]) := by rw [← hW]; exact hide ((((Uxs.none w).add hg (URow.box w 288 (tl B) _ hg)).add (by simp [hg]) (show URow _ (g + 1) 4 (lm N) from URow.box _ 4 (lm N) _ (by simp [hg]))).add (by simp [hg]) (URow.box _ 288 (tl tz) _ (by simp [hg])))
  have hzp := fun w => zeroTb w
  have hti : (t : Int) < 4 := by omega
  have hpi : (p : Int) < 18 := by omega
  have HT := hide ht
  have HP := hide hp
  have HS := hide hs
  have HSUP := fun w => supply13_any HB.out ht w
  obtain ⟨SS, hSS⟩ : ∃ SS, sums (fun p => B (18 * t + p)) 18 = SS := ⟨_, rfl⟩
  rw [hSS] at hsum
  rw [hSS] at HSUP
  have HSUP := hide HSUP
  have HSM := hide hsum
  have HIN := hide hin
  clear hin
  clear ht hp hs hsum hSS
  go_enter Tryz.func25, Tryz.ntmps25
  go_wp2_with (first
    | (go_at_call 47; refine (wrong_any (N := N) _ HN.out).mono ?_; rintro e w1 ⟨rfl, hb⟩; rw [wr_one, HS.out]; have E1 := hide (E.out.after hb); clear hb)
    | refine wpList_load_mid rfl 29 _ rfl (g + 1) 0 rfl (rowU 4 (lm N)) _ (E.out.get 1 rfl).range Tryz.underlying29 rfl (info_lm _) ?_)
  clear E hzp
  have X : Hid (Uxs w w1.drew [(g + 2, 288, tl tz), (g + 1, 4, lm N), (g, 288, tl B)]) := hide (E1.out.after (bMe w1).drew)
  clear E1
  refine wp_region_held_drew (S := fun w1 => Uxs w w1 [(g + 2, 288, tl tz), (g + 1, 4, lm N), (g, 288, tl B)]) (by kernel_rfl) X.out (fun _ => ?_)
  obtain ⟨v0, hv0⟩ : ∃ v0, w1.drew = v0 := ⟨_, rfl⟩
  rw [hv0] at X ⊢
  clear hv0
  refine tk0 (by kernel_rfl) (by kernel_rfl) (by kernel_rfl) (fun _ _ _ h => h) X.out (yieldsIf_load_mid (by rfl) _ _ rfl (g) (0) rfl (rowU 288 (tl B)) _ (fun _ hw => (hw.get 2 rfl).range) Tryz.underlying33 rfl (info_tb _)) ?_
  simp only [Act.put, List.setIfInBounds_toArray, List.set_cons_zero, List.set_cons_succ]
  refine tk1 (v := .int .u8 (t : Int)) (by kernel_rfl) (by kernel_rfl) (by kernel_rfl) (fun _ _ _ h => h) X.out (Or.inl ⟨by rfl, fun w hw => by go_simp; try (with_reducible rfl)⟩) ?_
  simp only [Act.put, List.setIfInBounds_toArray, List.set_cons_zero, List.set_cons_succ]
  refine tk3 (by kernel_rfl) (by kernel_rfl) (by kernel_rfl) (fun _ _ _ h => h) X.out (yieldsIf_load_mid (by rfl) _ _ rfl (g + 1) (0) rfl (rowU 4 (lm N)) _ (fun _ hw => (hw.get 1 rfl).range) Tryz.underlying29 rfl (info_lm _)) ?_
  simp only [Act.put, List.setIfInBounds_toArray, List.set_cons_zero, List.set_cons_succ]
  refine wpAnyH_ready (rs := [2, 10]) (by kernel_rfl) (by simp) ?_
  refine rd2 (fun K hK => ?_) (rd10 (fun K hK => ?_) AllReadyH.nil)
  · go_simp
    refine (HSUP.out _).mono ?_
    rintro e v1 ⟨xo, xn, xc, rfl, nx, hb⟩
    simp only []
    replace X := hide (X.out.after hb)
    have NX := hide nx
    clear nx
    clear hb
    refine hK.out _ _ X.out (fun _ => ?_)
    clear hK K
    refine wpAnyH_ready (rs := [4, 10]) (by kernel_rfl) (by simp) ?_
    refine rd4 (fun K hK => ?_) (rd10 (fun K hK => ?_) AllReadyH.nil)
    · go_simp
      refine (row_of N _ HN.out).mono ?_
      rintro e v2 ⟨yo, yn, yc, rfl, ny, hb⟩
      simp only []
      replace X := hide (X.out.after hb)
      replace NX := hide (NX.out.below hb)
      have NY := hide (ny.mono (show 16 ≤ 34 by omega))
      clear ny
      clear hb
      refine hK.out _ _ X.out (fun _ => ?_)
      clear hK K
      refine wpAnyH_ready (rs := [5, 10]) (by kernel_rfl) (by simp) ?_
      refine rd5 (fun K hK => ?_) (rd10 (fun K hK => ?_) AllReadyH.nil)
      · go_simp
        refine (add_any NX.out NY.out (by omega)).mono ?_
        rintro e v3 ⟨zo, zn, zc, rfl, nz, hb⟩
        simp only []
        replace X := hide (X.out.after hb)
        have NZ := hide nz
        clear nz NX NY
        clear hb
        refine hK.out _ _ X.out (fun _ => ?_)
        clear hK K
        refine wpAnyH_ready (rs := [6, 10]) (by kernel_rfl) (by simp) ?_
        refine rd6 (fun K hK => ?_) (rd10 (fun K hK => ?_) AllReadyH.nil)
        · go_simp
          refine (int_ok NZ.out HSM.out).mono ?_
          rintro e v4 ⟨rfl, hb⟩
          simp only []
          replace X := hide (X.out.after hb)
          clear NZ
          clear hb
          refine hK.out _ _ X.out (fun _ => ?_)
          clear hK K
          refine tk7 (v := .tuple #[big (SS + N), .bool true]) (by kernel_rfl) (by kernel_rfl) (by kernel_rfl) (fun _ _ _ h => h) X.out (Or.inl ⟨by rfl, fun w hw => by go_simp; try (with_reducible rfl)⟩) ?_
          simp only [Act.put, List.setIfInBounds_toArray, List.set_cons_zero, List.set_cons_succ]
          refine tk8 (v := big (SS + N)) (by kernel_rfl) (by kernel_rfl) (by kernel_rfl) (fun _ _ _ h => h) X.out (Or.inl ⟨by rfl, fun w hw => by go_simp; try (with_reducible rfl)⟩) ?_
          simp only [Act.put, List.setIfInBounds_toArray, List.set_cons_zero, List.set_cons_succ]
          refine tk9 (v := .bool true) (by kernel_rfl) (by kernel_rfl) (by kernel_rfl) (fun _ _ _ h => h) X.out (Or.inl ⟨by rfl, fun w hw => by go_simp; try (with_reducible rfl)⟩) ?_
          simp only [Act.put, List.setIfInBounds_toArray, List.set_cons_zero, List.set_cons_succ]
          refine wpAnyH_ready (rs := [10]) (by kernel_rfl) (by simp) ?_
          refine rd10 (fun K hK => ?_) AllReadyH.nil
          go_simp
          obtain ⟨g5, hg5⟩ : ∃ g5, v4.heap.size = g5 := ⟨_, rfl⟩
          obtain ⟨w5, hw5⟩ : ∃ w5, v4.alloc (.cells #[.int .u64 0, .int .u64 0, .int .u64 0, .int .u64 0] 29) = w5 := ⟨_, rfl⟩
          have E5 := hide (X.out.add hg5 (show URow (v4.alloc (.cells #[.int .u64 0, .int .u64 0, .int .u64 0, .int .u64 0] 29)) g5 4 (fun _ => 0) from URow.box v4 4 (fun _ => 0) 29 hg5))
          have hb := bAl (o := .cells #[.int .u64 0, .int .u64 0, .int .u64 0, .int .u64 0] 29) (bMe v4)
          rw [hw5] at E5 hb
          replace X := hide (X.out.after hb)
          rw [hg5, hw5]
          clear hb hw5 hg5
          refine hK.out _ _ X.out (fun _ => ?_)
          clear hK K
          refine wpAnyH_ready (rs := [11]) (by kernel_rfl) (by simp) ?_
          refine rd11 (fun K hK => ?_) AllReadyH.nil
          rw [if_pos (by rfl)]
          refine wp_store_mid _ _ _ rfl g5 0 (rowU 4 (lm (SS + N))).toArray rfl rfl ((E5.out.get 0 rfl).thereA _) (info_lmA _) (rowU_oneA _ _) ?_
          obtain ⟨w6, hw6⟩ : ∃ w6, w5.setCells g5 0 (rowU 4 (lm (SS + N))) = w6 := ⟨_, rfl⟩
          have E6 := hide (E5.out.put 0 rfl (lm (SS + N)))
          rw [hw6] at E6
          rw [show (rowU 4 (lm (SS + N))).toArray.toList = rowU 4 (lm (SS + N)) from List.toList_toArray, hw6]
          replace X := hide E6.out.tail
          clear hw6 E5
          refine hK.out _ _ X.out (fun _ => ?_)
          clear hK K
          refine tk12 (v := .bool true) (by kernel_rfl) (by kernel_rfl) (by kernel_rfl) (fun _ _ _ h => h) X.out (Or.inl ⟨by rfl, fun w hw => by go_simp; try (with_reducible rfl)⟩) ?_
          simp only [Act.put, List.setIfInBounds_toArray, List.set_cons_zero, List.set_cons_succ]
          refine wpAnyH_done (by kernel_rfl) ?_ _
          have E7 := hide X.out
          clear X E6
          go_wp2
          have E3 : Hid (Uxs w w6.drew [(g + 2, 288, tl tz), (g + 1, 4, lm N), (g, 288, tl B)]) := hide (E7.out.after (bMe w6).drew)
          clear E7
          have X : Hid (∃ X, Uxs w w6.drew [(g + 2, 288, tl tz), (g + 1, 4, lm N), (g, 288, X)]) := hide ⟨_, E3.out⟩
          refine wp_region_held_drew (S := fun w1 => ∃ X, Uxs w w1 [(g + 2, 288, tl tz), (g + 1, 4, lm N), (g, 288, X)]) (by kernel_rfl) X.out (fun _ => ?_)
          refine tk0 (v := .int .u8 (t : Int)) (by kernel_rfl) (by kernel_rfl) (by kernel_rfl) (fun _ _ _ h => h) X.out (Or.inl ⟨by rfl, fun w hw => by go_simp; try (with_reducible rfl)⟩) ?_
          simp only [Act.put, List.setIfInBounds_toArray, List.set_cons_zero, List.set_cons_succ]
          refine tk1 (v := .int .u8 (p : Int)) (by kernel_rfl) (by kernel_rfl) (by kernel_rfl) (fun _ _ _ h => h) X.out (Or.inl ⟨by rfl, fun w hw => by go_simp; try (with_reducible rfl)⟩) ?_
          simp only [Act.put, List.setIfInBounds_toArray, List.set_cons_zero, List.set_cons_succ]
          refine tk2 (v := .int .u8 (t : Int)) (by kernel_rfl) (by kernel_rfl) (by kernel_rfl) (fun _ _ _ h => h) X.out (Or.inl ⟨by rfl, fun w hw => by go_simp; try (with_reducible rfl)⟩) ?_
          simp only [Act.put, List.setIfInBounds_toArray, List.set_cons_zero, List.set_cons_succ]
          refine tk3 (v := .int .u8 (p : Int)) (by kernel_rfl) (by kernel_rfl) (by kernel_rfl) (fun _ _ _ h => h) X.out (Or.inl ⟨by rfl, fun w hw => by go_simp; try (with_reducible rfl)⟩) ?_
          simp only [Act.put, List.setIfInBounds_toArray, List.set_cons_zero, List.set_cons_succ]
          refine tk4 (v := .pointer (some ⟨g, 0, none⟩)) (by kernel_rfl) (by kernel_rfl) (by kernel_rfl) (fun _ _ _ h => h) X.out (Or.inl ⟨by rfl, fun w hw => by go_simp; try (with_reducible rfl)⟩) ?_
          simp only [Act.put, List.setIfInBounds_toArray, List.set_cons_zero, List.set_cons_succ]
          refine tk5 (v := .pointer (some ⟨g, t * 72, none⟩)) (by kernel_rfl) (by kernel_rfl) (by kernel_rfl) (fun _ _ _ h => h) X.out (Or.inl ⟨by rfl, fun w hw => by go_simp; try (with_reducible rfl)⟩) ?_
          simp only [Act.put, List.setIfInBounds_toArray, List.set_cons_zero, List.set_cons_succ]
          refine tk6 (v := .pointer (some ⟨g, t * 72 + p * 4, none⟩)) (by kernel_rfl) (by kernel_rfl) (by kernel_rfl) (fun _ _ _ h => h) X.out (Or.inl ⟨by rfl, fun w hw => by go_simp; try (with_reducible rfl)⟩) ?_
          simp only [Act.put, List.setIfInBounds_toArray, List.set_cons_zero, List.set_cons_succ]
          refine tk8 (by kernel_rfl) (by kernel_rfl) (by kernel_rfl) (fun _ _ _ h => h) X.out (yieldsIf_load_mid (by rfl) _ _ rfl (g + 1) (0) rfl (rowU 4 (lm N)) _ (fun _ hw => by obtain ⟨Y, hY⟩ := hw; exact (hY.get 1 rfl).range) Tryz.underlying29 rfl (info_lm _)) ?_
          simp only [Act.put, List.setIfInBounds_toArray, List.set_cons_zero, List.set_cons_succ]
          refine tk10 (v := .pointer (some ⟨g, 0, none⟩)) (by kernel_rfl) (by kernel_rfl) (by kernel_rfl) (fun _ _ _ h => h) X.out (Or.inl ⟨by rfl, fun w hw => by go_simp; try (with_reducible rfl)⟩) ?_
          simp only [Act.put, List.setIfInBounds_toArray, List.set_cons_zero, List.set_cons_succ]
          refine tk11 (v := .pointer (some ⟨g, t * 72, none⟩)) (by kernel_rfl) (by kernel_rfl) (by kernel_rfl) (fun _ _ _ h => h) X.out (Or.inl ⟨by rfl, fun w hw => by go_simp; try (with_reducible rfl)⟩) ?_
          simp only [Act.put, List.setIfInBounds_toArray, List.set_cons_zero, List.set_cons_succ]
          refine wpAnyH_ready (rs := [7]) (by kernel_rfl) (by simp) ?_
          refine rd7 (fun K hK => ?_) AllReadyH.nil
          rw [if_pos (by rfl)]
          refine wp_load_mid 29 _ rfl g (t * 72 + p * 4) rfl (rowU 4 (lm (B (18 * t + p)))) _ ((E3.out.get 2 rfl).balAt HT.out HP.out) Tryz.underlying29 rfl (info_lm _) ?_
          refine hK.out _ _ X.out (fun _ => ?_)
          clear hK K
          simp only [Act.put, List.setIfInBounds_toArray, List.set_cons_zero, List.set_cons_succ]
          refine wpAnyH_ready (rs := [9]) (by kernel_rfl) (by simp) ?_
          refine rd9 (fun K hK => ?_) AllReadyH.nil
          go_simp
          refine (add13_any _ (HB.out (18 * t + p)) HN.out HIN.out).mono ?_
          rintro e w3 ⟨rfl, hb⟩
          simp only []
          replace E3 := hide (E3.out.after hb)
          replace X : Hid (∃ X, Uxs w w3 [(g + 2, 288, tl tz), (g + 1, 4, lm N), (g, 288, X)]) := hide ⟨_, E3.out⟩
          clear hb
          refine hK.out _ _ X.out (fun _ => ?_)
          clear hK K
          refine tk12 (v := .pointer (some ⟨g, t * 72 + p * 4, none⟩)) (by kernel_rfl) (by kernel_rfl) (by kernel_rfl) (fun _ _ _ h => h) X.out (Or.inl ⟨by rfl, fun w hw => by go_simp; try (with_reducible rfl)⟩) ?_
          simp only [Act.put, List.setIfInBounds_toArray, List.set_cons_zero, List.set_cons_succ]
          refine wpAnyH_ready (rs := [13]) (by kernel_rfl) (by simp) ?_
          refine rd13 (fun K hK => ?_) AllReadyH.nil
          rw [if_pos (by rfl)]
          refine wp_store_mid _ _ _ rfl g (t * 72 + p * 4) (rowU 4 (lm (B (18 * t + p) + N))).toArray rfl rfl ((E3.out.get 2 rfl).thereAt _ 4 _ (by have := HT.out; have := HP.out; omega)) (info_lmA _) (rowU_oneA _ _) ?_
          obtain ⟨w4, hw4⟩ : ∃ w4, w3.setCells g (t * 72 + p * 4) (rowU 4 (lm (B (18 * t + p) + N))) = w4 := ⟨_, rfl⟩
          replace E3 : Hid (Uxs w w4 [(g + 2, 288, tl tz), (g + 1, 4, lm N), (g, 288, tl (updT B (18 * t + p) (B (18 * t + p) + N)))]) := by rw [← hw4]; exact hide (E3.out.upd 2 rfl HT.out HP.out (B (18 * t + p) + N))
          rw [show (rowU 4 (lm (B (18 * t + p) + N))).toArray.toList = rowU 4 (lm (B (18 * t + p) + N)) from List.toList_toArray, hw4]
          replace X : Hid (∃ X, Uxs w w4 [(g + 2, 288, tl tz), (g + 1, 4, lm N), (g, 288, X)]) := hide ⟨_, E3.out⟩
          clear hw4
          refine hK.out _ _ X.out (fun _ => ?_)
          clear hK K
          refine wpAnyH_done (by kernel_rfl) ?_ _
          clear X
          go_wp2_with (first
            | refine wpList_load_mid rfl 33 _ rfl g 0 rfl (rowU 288 (tl (updT B (18 * t + p) (B (18 * t + p) + N)))) _ (E3.out.get 2 rfl).range Tryz.underlying33 rfl (info_tb _) ?_
            | refine wpList_store_mid rfl 33 _ _ rfl (g + 2) 0 (rowU 288 (tl (updT B (18 * t + p) (B (18 * t + p) + N)))).toArray rfl rfl ((E3.out.get 0 rfl).thereA _) (info_tbA _) (rowU_oneA _ _) ?_)
          have EE := hide (E3.out.put 0 rfl (tl (updT B (18 * t + p) (B (18 * t + p) + N))))
          refine bodyPost_ret (v := .tuple #[tv (updT B (18 * t + p) (B (18 * t + p) + N)), .int .i64 0]) ?_ rfl ⟨rfl, EE.out.below⟩
          have hlv := run_loadVar_mid (P := Tryz.prog) _ _ _ _ _ _ (EE.out.get 0 rfl).range Tryz.underlying33 rfl (info_tb _)
          exact results_two Tryz.results25 rfl rfl hlv
        · go_simp
          obtain ⟨g5, hg5⟩ : ∃ g5, v3.heap.size = g5 := ⟨_, rfl⟩
          obtain ⟨w5, hw5⟩ : ∃ w5, v3.alloc (.cells #[.int .u64 0, .int .u64 0, .int .u64 0, .int .u64 0] 29) = w5 := ⟨_, rfl⟩
          have E5 := hide (X.out.add hg5 (show URow (v3.alloc (.cells #[.int .u64 0, .int .u64 0, .int .u64 0, .int .u64 0] 29)) g5 4 (fun _ => 0) from URow.box v3 4 (fun _ => 0) 29 hg5))
          have hb := bAl (o := .cells #[.int .u64 0, .int .u64 0, .int .u64 0, .int .u64 0] 29) (bMe v3)
          rw [hw5] at E5 hb
          replace X := hide (X.out.after hb)
          replace NZ := hide (NZ.out.below hb)
          rw [hg5, hw5]
          clear hb hw5 hg5
          refine hK.out _ _ X.out (fun _ => ?_)
          clear hK K
          refine wpAnyH_ready (rs := [6]) (by kernel_rfl) (by simp) ?_
          refine rd6 (fun K hK => ?_) AllReadyH.nil
          go_simp
          refine (int_ok NZ.out HSM.out).mono ?_
          rintro e u4 ⟨rfl, hb⟩
          simp only []
          replace X := hide (X.out.after hb)
          replace E5 := hide (E5.out.after hb)
          clear NZ
          clear hb
          refine hK.out _ _ X.out (fun _ => ?_)
          clear hK K
          refine tk7 (v := .tuple #[big (SS + N), .bool true]) (by kernel_rfl) (by kernel_rfl) (by kernel_rfl) (fun _ _ _ h => h) X.out (Or.inl ⟨by rfl, fun w hw => by go_simp; try (with_reducible rfl)⟩) ?_
          simp only [Act.put, List.setIfInBounds_toArray, List.set_cons_zero, List.set_cons_succ]
          refine tk8 (v := big (SS + N)) (by kernel_rfl) (by kernel_rfl) (by kernel_rfl) (fun _ _ _ h => h) X.out (Or.inl ⟨by rfl, fun w hw => by go_simp; try (with_reducible rfl)⟩) ?_
          simp only [Act.put, List.setIfInBounds_toArray, List.set_cons_zero, List.set_cons_succ]
          refine tk9 (v := .bool true) (by kernel_rfl) (by kernel_rfl) (by kernel_rfl) (fun _ _ _ h => h) X.out (Or.inl ⟨by rfl, fun w hw => by go_simp; try (with_reducible rfl)⟩) ?_
          simp only [Act.put, List.setIfInBounds_toArray, List.set_cons_zero, List.set_cons_succ]
          refine wpAnyH_ready (rs := [11]) (by kernel_rfl) (by simp) ?_
          refine rd11 (fun K hK => ?_) AllReadyH.nil
          rw [if_pos (by rfl)]
          refine wp_store_mid _ _ _ rfl g5 0 (rowU 4 (lm (SS + N))).toArray rfl rfl ((E5.out.get 0 rfl).thereA _) (info_lmA _) (rowU_oneA _ _) ?_
          obtain ⟨w6, hw6⟩ : ∃ w6, u4.setCells g5 0 (rowU 4 (lm (SS + N))) = w6 := ⟨_, rfl⟩
          have E6 := hide (E5.out.put 0 rfl (lm (SS + N)))
          rw [hw6] at E6
          rw [show (rowU 4 (lm (SS + N))).toArray.toList = rowU 4 (lm (SS + N)) from List.toList_toArray, hw6]
          replace X := hide E6.out.tail
          clear hw6 E5
          refine hK.out _ _ X.out (fun _ => ?_)
          clear hK K
          refine tk12 (v := .bool true) (by kernel_rfl) (by kernel_rfl) (by kernel_rfl) (fun _ _ _ h => h) X.out (Or.inl ⟨by rfl, fun w hw => by go_simp; try (with_reducible rfl)⟩) ?_
          simp only [Act.put, List.setIfInBounds_toArray, List.set_cons_zero, List.set_cons_succ]
          refine wpAnyH_done (by kernel_rfl) ?_ _
          have E7 := hide X.out
          clear X E6
          go_wp2
          have E3 : Hid (Uxs w w6.drew [(g + 2, 288, tl tz), (g + 1, 4, lm N), (g, 288, tl B)]) := hide (E7.out.after (bMe w6).drew)
          clear E7
          have X : Hid (∃ X, Uxs w w6.drew [(g + 2, 288, tl tz), (g + 1, 4, lm N), (g, 288, X)]) := hide ⟨_, E3.out⟩
          refine wp_region_held_drew (S := fun w1 => ∃ X, Uxs w w1 [(g + 2, 288, tl tz), (g + 1, 4, lm N), (g, 288, X)]) (by kernel_rfl) X.out (fun _ => ?_)
          refine tk0 (v := .int .u8 (t : Int)) (by kernel_rfl) (by kernel_rfl) (by kernel_rfl) (fun _ _ _ h => h) X.out (Or.inl ⟨by rfl, fun w hw => by go_simp; try (with_reducible rfl)⟩) ?_
          simp only [Act.put, List.setIfInBounds_toArray, List.set_cons_zero, List.set_cons_succ]
          refine tk1 (v := .int .u8 (p : Int)) (by kernel_rfl) (by kernel_rfl) (by kernel_rfl) (fun _ _ _ h => h) X.out (Or.inl ⟨by rfl, fun w hw => by go_simp; try (with_reducible rfl)⟩) ?_
          simp only [Act.put, List.setIfInBounds_toArray, List.set_cons_zero, List.set_cons_succ]
          refine tk2 (v := .int .u8 (t : Int)) (by kernel_rfl) (by kernel_rfl) (by kernel_rfl) (fun _ _ _ h => h) X.out (Or.inl ⟨by rfl, fun w hw => by go_simp; try (with_reducible rfl)⟩) ?_
          simp only [Act.put, List.setIfInBounds_toArray, List.set_cons_zero, List.set_cons_succ]
          refine tk3 (v := .int .u8 (p : Int)) (by kernel_rfl) (by kernel_rfl) (by kernel_rfl) (fun _ _ _ h => h) X.out (Or.inl ⟨by rfl, fun w hw => by go_simp; try (with_reducible rfl)⟩) ?_
          simp only [Act.put, List.setIfInBounds_toArray, List.set_cons_zero, List.set_cons_succ]
          refine tk4 (v := .pointer (some ⟨g, 0, none⟩)) (by kernel_rfl) (by kernel_rfl) (by kernel_rfl) (fun _ _ _ h => h) X.out (Or.inl ⟨by rfl, fun w hw => by go_simp; try (with_reducible rfl)⟩) ?_
          simp only [Act.put, List.setIfInBounds_toArray, List.set_cons_zero, List.set_cons_succ]
          refine tk5 (v := .pointer (some ⟨g, t * 72, none⟩)) (by kernel_rfl) (by kernel_rfl) (by kernel_rfl) (fun _ _ _ h => h) X.out (Or.inl ⟨by rfl, fun w hw => by go_simp; try (with_reducible rfl)⟩) ?_
          simp only [Act.put, List.setIfInBounds_toArray, List.set_cons_zero, List.set_cons_succ]
          refine tk6 (v := .pointer (some ⟨g, t * 72 + p * 4, none⟩)) (by kernel_rfl) (by kernel_rfl) (by kernel_rfl) (fun _ _ _ h => h) X.out (Or.inl ⟨by rfl, fun w hw => by go_simp; try (with_reducible rfl)⟩) ?_
          simp only [Act.put, List.setIfInBounds_toArray, List.set_cons_zero, List.set_cons_succ]
          refine tk8 (by kernel_rfl) (by kernel_rfl) (by kernel_rfl) (fun _ _ _ h => h) X.out (yieldsIf_load_mid (by rfl) _ _ rfl (g + 1) (0) rfl (rowU 4 (lm N)) _ (fun _ hw => by obtain ⟨Y, hY⟩ := hw; exact (hY.get 1 rfl).range) Tryz.underlying29 rfl (info_lm _)) ?_
          simp only [Act.put, List.setIfInBounds_toArray, List.set_cons_zero, List.set_cons_succ]
          refine tk10 (v := .pointer (some ⟨g, 0, none⟩)) (by kernel_rfl) (by kernel_rfl) (by kernel_rfl) (fun _ _ _ h => h) X.out (Or.inl ⟨by rfl, fun w hw => by go_simp; try (with_reducible rfl)⟩) ?_
          simp only [Act.put, List.setIfInBounds_toArray, List.set_cons_zero, List.set_cons_succ]
          refine tk11 (v := .pointer (some ⟨g, t * 72, none⟩)) (by kernel_rfl) (by kernel_rfl) (by kernel_rfl) (fun _ _ _ h => h) X.out (Or.inl ⟨by rfl, fun w hw => by go_simp; try (with_reducible rfl)⟩) ?_
          simp only [Act.put, List.setIfInBounds_toArray, List.set_cons_zero, List.set_cons_succ]
          refine wpAnyH_ready (rs := [7]) (by kernel_rfl) (by simp) ?_
          refine rd7 (fun K hK => ?_) AllReadyH.nil
          rw [if_pos (by rfl)]
          refine wp_load_mid 29 _ rfl g (t * 72 + p * 4) rfl (rowU 4 (lm (B (18 * t + p)))) _ ((E3.out.get 2 rfl).balAt HT.out HP.out) Tryz.underlying29 rfl (info_lm _) ?_
          refine hK.out _ _ X.out (fun _ => ?_)
          clear hK K
          simp only [Act.put, List.setIfInBounds_toArray, List.set_cons_zero, List.set_cons_succ]
          refine wpAnyH_ready (rs := [9]) (by kernel_rfl) (by simp) ?_
          refine rd9 (fun K hK => ?_) AllReadyH.nil
          go_simp
          refine (add13_any _ (HB.out (18 * t + p)) HN.out HIN.out).mono ?_
          rintro e w3 ⟨rfl, hb⟩
          simp only []
          replace E3 := hide (E3.out.after hb)
          replace X : Hid (∃ X, Uxs w w3 [(g + 2, 288, tl tz), (g + 1, 4, lm N), (g, 288, X)]) := hide ⟨_, E3.out⟩
          clear hb
          refine hK.out _ _ X.out (fun _ => ?_)
          clear hK K
          refine tk12 (v := .pointer (some ⟨g, t * 72 + p * 4, none⟩)) (by kernel_rfl) (by kernel_rfl) (by kernel_rfl) (fun _ _ _ h => h) X.out (Or.inl ⟨by rfl, fun w hw => by go_simp; try (with_reducible rfl)⟩) ?_
          simp only [Act.put, List.setIfInBounds_toArray, List.set_cons_zero, List.set_cons_succ]
          refine wpAnyH_ready (rs := [13]) (by kernel_rfl) (by simp) ?_
          refine rd13 (fun K hK => ?_) AllReadyH.nil
          rw [if_pos (by rfl)]
          refine wp_store_mid _ _ _ rfl g (t * 72 + p * 4) (rowU 4 (lm (B (18 * t + p) + N))).toArray rfl rfl ((E3.out.get 2 rfl).thereAt _ 4 _ (by have := HT.out; have := HP.out; omega)) (info_lmA _) (rowU_oneA _ _) ?_
          obtain ⟨w4, hw4⟩ : ∃ w4, w3.setCells g (t * 72 + p * 4) (rowU 4 (lm (B (18 * t + p) + N))) = w4 := ⟨_, rfl⟩
          replace E3 : Hid (Uxs w w4 [(g + 2, 288, tl tz), (g + 1, 4, lm N), (g, 288, tl (updT B (18 * t + p) (B (18 * t + p) + N)))]) := by rw [← hw4]; exact hide (E3.out.upd 2 rfl HT.out HP.out (B (18 * t + p) + N))
          rw [show (rowU 4 (lm (B (18 * t + p) + N))).toArray.toList = rowU 4 (lm (B (18 * t + p) + N)) from List.toList_toArray, hw4]
          replace X : Hid (∃ X, Uxs w w4 [(g + 2, 288, tl tz), (g + 1, 4, lm N), (g, 288, X)]) := hide ⟨_, E3.out⟩
          clear hw4
          refine hK.out _ _ X.out (fun _ => ?_)
          clear hK K
          refine wpAnyH_done (by kernel_rfl) ?_ _
          clear X
          go_wp2_with (first
            | refine wpList_load_mid rfl 33 _ rfl g 0 rfl (rowU 288 (tl (updT B (18 * t + p) (B (18 * t + p) + N)))) _ (E3.out.get 2 rfl).range Tryz.underlying33 rfl (info_tb _) ?_
            | refine wpList_store_mid rfl 33 _ _ rfl (g + 2) 0 (rowU 288 (tl (updT B (18 * t + p) (B (18 * t + p) + N)))).toArray rfl rfl ((E3.out.get 0 rfl).thereA _) (info_tbA _) (rowU_oneA _ _) ?_)
          have EE := hide (E3.out.put 0 rfl (tl (updT B (18 * t + p) (B (18 * t + p) + N))))
          refine bodyPost_ret (v := .tuple #[tv (updT B (18 * t + p) (B (18 * t + p) + N)), .int .i64 0]) ?_ rfl ⟨rfl, EE.out.below⟩
          have hlv := run_loadVar_mid (P := Tryz.prog) _ _ _ _ _ _ (EE.out.get 0 rfl).range Tryz.underlying33 rfl (info_tb _)
          exact results_two Tryz.results25 rfl rfl hlv
      · go_simp
        obtain ⟨g5, hg5⟩ : ∃ g5, v2.heap.size = g5 := ⟨_, rfl⟩
        obtain ⟨w5, hw5⟩ : ∃ w5, v2.alloc (.cells #[.int .u64 0, .int .u64 0, .int .u64 0, .int .u64 0] 29) = w5 := ⟨_, rfl⟩
        have E5 := hide (X.out.add hg5 (show URow (v2.alloc (.cells #[.int .u64 0, .int .u64 0, .int .u64 0, .int .u64 0] 29)) g5 4 (fun _ => 0) from URow.box v2 4 (fun _ => 0) 29 hg5))
        have hb := bAl (o := .cells #[.int .u64 0, .int .u64 0, .int .u64 0, .int .u64 0] 29) (bMe v2)
        rw [hw5] at E5 hb
        replace X := hide (X.out.after hb)
        replace NX := hide (NX.out.below hb)
        replace NY := hide (NY.out.below hb)
        rw [hg5, hw5]
        clear hb hw5 hg5
        refine hK.out _ _ X.out (fun _ => ?_)
        clear hK K
        refine wpAnyH_ready (rs := [5]) (by kernel_rfl) (by simp) ?_
        refine rd5 (fun K hK => ?_) AllReadyH.nil
        go_simp
        refine (add_any NX.out NY.out (by omega)).mono ?_
        rintro e u3 ⟨zo, zn, zc, rfl, nz, hb⟩
        simp only []
        replace X := hide (X.out.after hb)
        replace E5 := hide (E5.out.after hb)
        have NZ := hide nz
        clear nz NX NY
        clear hb
        refine hK.out _ _ X.out (fun _ => ?_)
        clear hK K
        refine wpAnyH_ready (rs := [6]) (by kernel_rfl) (by simp) ?_
        refine rd6 (fun K hK => ?_) AllReadyH.nil
        go_simp
        refine (int_ok NZ.out HSM.out).mono ?_
        rintro e u4 ⟨rfl, hb⟩
        simp only []
        replace X := hide (X.out.after hb)
        replace E5 := hide (E5.out.after hb)
        clear NZ
        clear hb
        refine hK.out _ _ X.out (fun _ => ?_)
        clear hK K
        refine tk7 (v := .tuple #[big (SS + N), .bool true]) (by kernel_rfl) (by kernel_rfl) (by kernel_rfl) (fun _ _ _ h => h) X.out (Or.inl ⟨by rfl, fun w hw => by go_simp; try (with_reducible rfl)⟩) ?_
        simp only [Act.put, List.setIfInBounds_toArray, List.set_cons_zero, List.set_cons_succ]
        refine tk8 (v := big (SS + N)) (by kernel_rfl) (by kernel_rfl) (by kernel_rfl) (fun _ _ _ h => h) X.out (Or.inl ⟨by rfl, fun w hw => by go_simp; try (with_reducible rfl)⟩) ?_
        simp only [Act.put, List.setIfInBounds_toArray, List.set_cons_zero, List.set_cons_succ]
        refine tk9 (v := .bool true) (by kernel_rfl) (by kernel_rfl) (by kernel_rfl) (fun _ _ _ h => h) X.out (Or.inl ⟨by rfl, fun w hw => by go_simp; try (with_reducible rfl)⟩) ?_
        simp only [Act.put, List.setIfInBounds_toArray, List.set_cons_zero, List.set_cons_succ]
        refine wpAnyH_ready (rs := [11]) (by kernel_rfl) (by simp) ?_
        refine rd11 (fun K hK => ?_) AllReadyH.nil
        rw [if_pos (by rfl)]
        refine wp_store_mid _ _ _ rfl g5 0 (rowU 4 (lm (SS + N))).toArray rfl rfl ((E5.out.get 0 rfl).thereA _) (info_lmA _) (rowU_oneA _ _) ?_
        obtain ⟨w6, hw6⟩ : ∃ w6, u4.setCells g5 0 (rowU 4 (lm (SS + N))) = w6 := ⟨_, rfl⟩
        have E6 := hide (E5.out.put 0 rfl (lm (SS + N)))
        rw [hw6] at E6
        rw [show (rowU 4 (lm (SS + N))).toArray.toList = rowU 4 (lm (SS + N)) from List.toList_toArray, hw6]
        replace X := hide E6.out.tail
        clear hw6 E5
        refine hK.out _ _ X.out (fun _ => ?_)
        clear hK K
        refine tk12 (v := .bool true) (by kernel_rfl) (by kernel_rfl) (by kernel_rfl) (fun _ _ _ h => h) X.out (Or.inl ⟨by rfl, fun w hw => by go_simp; try (with_reducible rfl)⟩) ?_
        simp only [Act.put, List.setIfInBounds_toArray, List.set_cons_zero, List.set_cons_succ]
        refine wpAnyH_done (by kernel_rfl) ?_ _
        have E7 := hide X.out
        clear X E6
        go_wp2
        have E3 : Hid (Uxs w w6.drew [(g + 2, 288, tl tz), (g + 1, 4, lm N), (g, 288, tl B)]) := hide (E7.out.after (bMe w6).drew)
        clear E7
        have X : Hid (∃ X, Uxs w w6.drew [(g + 2, 288, tl tz), (g + 1, 4, lm N), (g, 288, X)]) := hide ⟨_, E3.out⟩
        refine wp_region_held_drew (S := fun w1 => ∃ X, Uxs w w1 [(g + 2, 288, tl tz), (g + 1, 4, lm N), (g, 288, X)]) (by kernel_rfl) X.out (fun _ => ?_)
        refine tk0 (v := .int .u8 (t : Int)) (by kernel_rfl) (by kernel_rfl) (by kernel_rfl) (fun _ _ _ h => h) X.out (Or.inl ⟨by rfl, fun w hw => by go_simp; try (with_reducible rfl)⟩) ?_
        simp only [Act.put, List.setIfInBounds_toArray, List.set_cons_zero, List.set_cons_succ]
        refine tk1 (v := .int .u8 (p : Int)) (by kernel_rfl) (by kernel_rfl) (by kernel_rfl) (fun _ _ _ h => h) X.out (Or.inl ⟨by rfl, fun w hw => by go_simp; try (with_reducible rfl)⟩) ?_
        simp only [Act.put, List.setIfInBounds_toArray, List.set_cons_zero, List.set_cons_succ]
        refine tk2 (v := .int .u8 (t : Int)) (by kernel_rfl) (by kernel_rfl) (by kernel_rfl) (fun _ _ _ h => h) X.out (Or.inl ⟨by rfl, fun w hw => by go_simp; try (with_reducible rfl)⟩) ?_
        simp only [Act.put, List.setIfInBounds_toArray, List.set_cons_zero, List.set_cons_succ]
        refine tk3 (v := .int .u8 (p : Int)) (by kernel_rfl) (by kernel_rfl) (by kernel_rfl) (fun _ _ _ h => h) X.out (Or.inl ⟨by rfl, fun w hw => by go_simp; try (with_reducible rfl)⟩) ?_
        simp only [Act.put, List.setIfInBounds_toArray, List.set_cons_zero, List.set_cons_succ]
        refine tk4 (v := .pointer (some ⟨g, 0, none⟩)) (by kernel_rfl) (by kernel_rfl) (by kernel_rfl) (fun _ _ _ h => h) X.out (Or.inl ⟨by rfl, fun w hw => by go_simp; try (with_reducible rfl)⟩) ?_
        simp only [Act.put, List.setIfInBounds_toArray, List.set_cons_zero, List.set_cons_succ]
        refine tk5 (v := .pointer (some ⟨g, t * 72, none⟩)) (by kernel_rfl) (by kernel_rfl) (by kernel_rfl) (fun _ _ _ h => h) X.out (Or.inl ⟨by rfl, fun w hw => by go_simp; try (with_reducible rfl)⟩) ?_
        simp only [Act.put, List.setIfInBounds_toArray, List.set_cons_zero, List.set_cons_succ]
        refine tk6 (v := .pointer (some ⟨g, t * 72 + p * 4, none⟩)) (by kernel_rfl) (by kernel_rfl) (by kernel_rfl) (fun _ _ _ h => h) X.out (Or.inl ⟨by rfl, fun w hw => by go_simp; try (with_reducible rfl)⟩) ?_
        simp only [Act.put, List.setIfInBounds_toArray, List.set_cons_zero, List.set_cons_succ]
        refine tk8 (by kernel_rfl) (by kernel_rfl) (by kernel_rfl) (fun _ _ _ h => h) X.out (yieldsIf_load_mid (by rfl) _ _ rfl (g + 1) (0) rfl (rowU 4 (lm N)) _ (fun _ hw => by obtain ⟨Y, hY⟩ := hw; exact (hY.get 1 rfl).range) Tryz.underlying29 rfl (info_lm _)) ?_
        simp only [Act.put, List.setIfInBounds_toArray, List.set_cons_zero, List.set_cons_succ]
        refine tk10 (v := .pointer (some ⟨g, 0, none⟩)) (by kernel_rfl) (by kernel_rfl) (by kernel_rfl) (fun _ _ _ h => h) X.out (Or.inl ⟨by rfl, fun w hw => by go_simp; try (with_reducible rfl)⟩) ?_
        simp only [Act.put, List.setIfInBounds_toArray, List.set_cons_zero, List.set_cons_succ]
        refine tk11 (v := .pointer (some ⟨g, t * 72, none⟩)) (by kernel_rfl) (by kernel_rfl) (by kernel_rfl) (fun _ _ _ h => h) X.out (Or.inl ⟨by rfl, fun w hw => by go_simp; try (with_reducible rfl)⟩) ?_
        simp only [Act.put, List.setIfInBounds_toArray, List.set_cons_zero, List.set_cons_succ]
        refine wpAnyH_ready (rs := [7]) (by kernel_rfl) (by simp) ?_
        refine rd7 (fun K hK => ?_) AllReadyH.nil
        rw [if_pos (by rfl)]
        refine wp_load_mid 29 _ rfl g (t * 72 + p * 4) rfl (rowU 4 (lm (B (18 * t + p)))) _ ((E3.out.get 2 rfl).balAt HT.out HP.out) Tryz.underlying29 rfl (info_lm _) ?_
        refine hK.out _ _ X.out (fun _ => ?_)
        clear hK K
        simp only [Act.put, List.setIfInBounds_toArray, List.set_cons_zero, List.set_cons_succ]
        refine wpAnyH_ready (rs := [9]) (by kernel_rfl) (by simp) ?_
        refine rd9 (fun K hK => ?_) AllReadyH.nil
        go_simp
        refine (add13_any _ (HB.out (18 * t + p)) HN.out HIN.out).mono ?_
        rintro e w3 ⟨rfl, hb⟩
        simp only []
        replace E3 := hide (E3.out.after hb)
        replace X : Hid (∃ X, Uxs w w3 [(g + 2, 288, tl tz), (g + 1, 4, lm N), (g, 288, X)]) := hide ⟨_, E3.out⟩
        clear hb
        refine hK.out _ _ X.out (fun _ => ?_)
        clear hK K
        refine tk12 (v := .pointer (some ⟨g, t * 72 + p * 4, none⟩)) (by kernel_rfl) (by kernel_rfl) (by kernel_rfl) (fun _ _ _ h => h) X.out (Or.inl ⟨by rfl, fun w hw => by go_simp; try (with_reducible rfl)⟩) ?_
        simp only [Act.put, List.setIfInBounds_toArray, List.set_cons_zero, List.set_cons_succ]
        refine wpAnyH_ready (rs := [13]) (by kernel_rfl) (by simp) ?_
        refine rd13 (fun K hK => ?_) AllReadyH.nil
        rw [if_pos (by rfl)]
        refine wp_store_mid _ _ _ rfl g (t * 72 + p * 4) (rowU 4 (lm (B (18 * t + p) + N))).toArray rfl rfl ((E3.out.get 2 rfl).thereAt _ 4 _ (by have := HT.out; have := HP.out; omega)) (info_lmA _) (rowU_oneA _ _) ?_
        obtain ⟨w4, hw4⟩ : ∃ w4, w3.setCells g (t * 72 + p * 4) (rowU 4 (lm (B (18 * t + p) + N))) = w4 := ⟨_, rfl⟩
        replace E3 : Hid (Uxs w w4 [(g + 2, 288, tl tz), (g + 1, 4, lm N), (g, 288, tl (updT B (18 * t + p) (B (18 * t + p) + N)))]) := by rw [← hw4]; exact hide (E3.out.upd 2 rfl HT.out HP.out (B (18 * t + p) + N))
        rw [show (rowU 4 (lm (B (18 * t + p) + N))).toArray.toList = rowU 4 (lm (B (18 * t + p) + N)) from List.toList_toArray, hw4]
        replace X : Hid (∃ X, Uxs w w4 [(g + 2, 288, tl tz), (g + 1, 4, lm N), (g, 288, X)]) := hide ⟨_, E3.out⟩
        clear hw4
        refine hK.out _ _ X.out (fun _ => ?_)
        clear hK K
        refine wpAnyH_done (by kernel_rfl) ?_ _
        clear X
        go_wp2_with (first
          | refine wpList_load_mid rfl 33 _ rfl g 0 rfl (rowU 288 (tl (updT B (18 * t + p) (B (18 * t + p) + N)))) _ (E3.out.get 2 rfl).range Tryz.underlying33 rfl (info_tb _) ?_
          | refine wpList_store_mid rfl 33 _ _ rfl (g + 2) 0 (rowU 288 (tl (updT B (18 * t + p) (B (18 * t + p) + N)))).toArray rfl rfl ((E3.out.get 0 rfl).thereA _) (info_tbA _) (rowU_oneA _ _) ?_)
        have EE := hide (E3.out.put 0 rfl (tl (updT B (18 * t + p) (B (18 * t + p) + N))))
        refine bodyPost_ret (v := .tuple #[tv (updT B (18 * t + p) (B (18 * t + p) + N)), .int .i64 0]) ?_ rfl ⟨rfl, EE.out.below⟩
        have hlv := run_loadVar_mid (P := Tryz.prog) _ _ _ _ _ _ (EE.out.get 0 rfl).range Tryz.underlying33 rfl (info_tb _)
        exact results_two Tryz.results25 rfl rfl hlv
    · go_simp
      obtain ⟨g5, hg5⟩ : ∃ g5, v1.heap.size = g5 := ⟨_, rfl⟩
      obtain ⟨w5, hw5⟩ : ∃ w5, v1.alloc (.cells #[.int .u64 0, .int .u64 0, .int .u64 0, .int .u64 0] 29) = w5 := ⟨_, rfl⟩
      have E5 := hide (X.out.add hg5 (show URow (v1.alloc (.cells #[.int .u64 0, .int .u64 0, .int .u64 0, .int .u64 0] 29)) g5 4 (fun _ => 0) from URow.box v1 4 (fun _ => 0) 29 hg5))
      have hb := bAl (o := .cells #[.int .u64 0, .int .u64 0, .int .u64 0, .int .u64 0] 29) (bMe v1)
      rw [hw5] at E5 hb
      replace X := hide (X.out.after hb)
      replace NX := hide (NX.out.below hb)
      rw [hg5, hw5]
      clear hb hw5 hg5
      refine hK.out _ _ X.out (fun _ => ?_)
      clear hK K
      refine wpAnyH_ready (rs := [4]) (by kernel_rfl) (by simp) ?_
      refine rd4 (fun K hK => ?_) AllReadyH.nil
      go_simp
      refine (row_of N _ HN.out).mono ?_
      rintro e u2 ⟨yo, yn, yc, rfl, ny, hb⟩
      simp only []
      replace X := hide (X.out.after hb)
      replace NX := hide (NX.out.below hb)
      replace E5 := hide (E5.out.after hb)
      have NY := hide (ny.mono (show 16 ≤ 34 by omega))
      clear ny
      clear hb
      refine hK.out _ _ X.out (fun _ => ?_)
      clear hK K
      refine wpAnyH_ready (rs := [5]) (by kernel_rfl) (by simp) ?_
      refine rd5 (fun K hK => ?_) AllReadyH.nil
      go_simp
      refine (add_any NX.out NY.out (by omega)).mono ?_
      rintro e u3 ⟨zo, zn, zc, rfl, nz, hb⟩
      simp only []
      replace X := hide (X.out.after hb)
      replace E5 := hide (E5.out.after hb)
      have NZ := hide nz
      clear nz NX NY
      clear hb
      refine hK.out _ _ X.out (fun _ => ?_)
      clear hK K
      refine wpAnyH_ready (rs := [6]) (by kernel_rfl) (by simp) ?_
      refine rd6 (fun K hK => ?_) AllReadyH.nil
      go_simp
      refine (int_ok NZ.out HSM.out).mono ?_
      rintro e u4 ⟨rfl, hb⟩
      simp only []
      replace X := hide (X.out.after hb)
      replace E5 := hide (E5.out.after hb)
      clear NZ
      clear hb
      refine hK.out _ _ X.out (fun _ => ?_)
      clear hK K
      refine tk7 (v := .tuple #[big (SS + N), .bool true]) (by kernel_rfl) (by kernel_rfl) (by kernel_rfl) (fun _ _ _ h => h) X.out (Or.inl ⟨by rfl, fun w hw => by go_simp; try (with_reducible rfl)⟩) ?_
      simp only [Act.put, List.setIfInBounds_toArray, List.set_cons_zero, List.set_cons_succ]
      refine tk8 (v := big (SS + N)) (by kernel_rfl) (by kernel_rfl) (by kernel_rfl) (fun _ _ _ h => h) X.out (Or.inl ⟨by rfl, fun w hw => by go_simp; try (with_reducible rfl)⟩) ?_
      simp only [Act.put, List.setIfInBounds_toArray, List.set_cons_zero, List.set_cons_succ]
      refine tk9 (v := .bool true) (by kernel_rfl) (by kernel_rfl) (by kernel_rfl) (fun _ _ _ h => h) X.out (Or.inl ⟨by rfl, fun w hw => by go_simp; try (with_reducible rfl)⟩) ?_
      simp only [Act.put, List.setIfInBounds_toArray, List.set_cons_zero, List.set_cons_succ]
      refine wpAnyH_ready (rs := [11]) (by kernel_rfl) (by simp) ?_
      refine rd11 (fun K hK => ?_) AllReadyH.nil
      rw [if_pos (by rfl)]
      refine wp_store_mid _ _ _ rfl g5 0 (rowU 4 (lm (SS + N))).toArray rfl rfl ((E5.out.get 0 rfl).thereA _) (info_lmA _) (rowU_oneA _ _) ?_
      obtain ⟨w6, hw6⟩ : ∃ w6, u4.setCells g5 0 (rowU 4 (lm (SS + N))) = w6 := ⟨_, rfl⟩
      have E6 := hide (E5.out.put 0 rfl (lm (SS + N)))
      rw [hw6] at E6
      rw [show (rowU 4 (lm (SS + N))).toArray.toList = rowU 4 (lm (SS + N)) from List.toList_toArray, hw6]
      replace X := hide E6.out.tail
      clear hw6 E5
      refine hK.out _ _ X.out (fun _ => ?_)
      clear hK K
      refine tk12 (v := .bool true) (by kernel_rfl) (by kernel_rfl) (by kernel_rfl) (fun _ _ _ h => h) X.out (Or.inl ⟨by rfl, fun w hw => by go_simp; try (with_reducible rfl)⟩) ?_
      simp only [Act.put, List.setIfInBounds_toArray, List.set_cons_zero, List.set_cons_succ]
      refine wpAnyH_done (by kernel_rfl) ?_ _
      have E7 := hide X.out
      clear X E6
      go_wp2
      have E3 : Hid (Uxs w w6.drew [(g + 2, 288, tl tz), (g + 1, 4, lm N), (g, 288, tl B)]) := hide (E7.out.after (bMe w6).drew)
      clear E7
      have X : Hid (∃ X, Uxs w w6.drew [(g + 2, 288, tl tz), (g + 1, 4, lm N), (g, 288, X)]) := hide ⟨_, E3.out⟩
      refine wp_region_held_drew (S := fun w1 => ∃ X, Uxs w w1 [(g + 2, 288, tl tz), (g + 1, 4, lm N), (g, 288, X)]) (by kernel_rfl) X.out (fun _ => ?_)
      refine tk0 (v := .int .u8 (t : Int)) (by kernel_rfl) (by kernel_rfl) (by kernel_rfl) (fun _ _ _ h => h) X.out (Or.inl ⟨by rfl, fun w hw => by go_simp; try (with_reducible rfl)⟩) ?_
      simp only [Act.put, List.setIfInBounds_toArray, List.set_cons_zero, List.set_cons_succ]
      refine tk1 (v := .int .u8 (p : Int)) (by kernel_rfl) (by kernel_rfl) (by kernel_rfl) (fun _ _ _ h => h) X.out (Or.inl ⟨by rfl, fun w hw => by go_simp; try (with_reducible rfl)⟩) ?_
      simp only [Act.put, List.setIfInBounds_toArray, List.set_cons_zero, List.set_cons_succ]
      refine tk2 (v := .int .u8 (t : Int)) (by kernel_rfl) (by kernel_rfl) (by kernel_rfl) (fun _ _ _ h => h) X.out (Or.inl ⟨by rfl, fun w hw => by go_simp; try (with_reducible rfl)⟩) ?_
      simp only [Act.put, List.setIfInBounds_toArray, List.set_cons_zero, List.set_cons_succ]
      refine tk3 (v := .int .u8 (p : Int)) (by kernel_rfl) (by kernel_rfl) (by kernel_rfl) (fun _ _ _ h => h) X.out (Or.inl ⟨by rfl, fun w hw => by go_simp; try (with_reducible rfl)⟩) ?_
      simp only [Act.put, List.setIfInBounds_toArray, List.set_cons_zero, List.set_cons_succ]
      refine tk4 (v := .pointer (some ⟨g, 0, none⟩)) (by kernel_rfl) (by kernel_rfl) (by kernel_rfl) (fun _ _ _ h => h) X.out (Or.inl ⟨by rfl, fun w hw => by go_simp; try (with_reducible rfl)⟩) ?_
      simp only [Act.put, List.setIfInBounds_toArray, List.set_cons_zero, List.set_cons_succ]
      refine tk5 (v := .pointer (some ⟨g, t * 72, none⟩)) (by kernel_rfl) (by kernel_rfl) (by kernel_rfl) (fun _ _ _ h => h) X.out (Or.inl ⟨by rfl, fun w hw => by go_simp; try (with_reducible rfl)⟩) ?_
      simp only [Act.put, List.setIfInBounds_toArray, List.set_cons_zero, List.set_cons_succ]
      refine tk6 (v := .pointer (some ⟨g, t * 72 + p * 4, none⟩)) (by kernel_rfl) (by kernel_rfl) (by kernel_rfl) (fun _ _ _ h => h) X.out (Or.inl ⟨by rfl, fun w hw => by go_simp; try (with_reducible rfl)⟩) ?_
      simp only [Act.put, List.setIfInBounds_toArray, List.set_cons_zero, List.set_cons_succ]
      refine tk8 (by kernel_rfl) (by kernel_rfl) (by kernel_rfl) (fun _ _ _ h => h) X.out (yieldsIf_load_mid (by rfl) _ _ rfl (g + 1) (0) rfl (rowU 4 (lm N)) _ (fun _ hw => by obtain ⟨Y, hY⟩ := hw; exact (hY.get 1 rfl).range) Tryz.underlying29 rfl (info_lm _)) ?_
      simp only [Act.put, List.setIfInBounds_toArray, List.set_cons_zero, List.set_cons_succ]
      refine tk10 (v := .pointer (some ⟨g, 0, none⟩)) (by kernel_rfl) (by kernel_rfl) (by kernel_rfl) (fun _ _ _ h => h) X.out (Or.inl ⟨by rfl, fun w hw => by go_simp; try (with_reducible rfl)⟩) ?_
      simp only [Act.put, List.setIfInBounds_toArray, List.set_cons_zero, List.set_cons_succ]
      refine tk11 (v := .pointer (some ⟨g, t * 72, none⟩)) (by kernel_rfl) (by kernel_rfl) (by kernel_rfl) (fun _ _ _ h => h) X.out (Or.inl ⟨by rfl, fun w hw => by go_simp; try (with_reducible rfl)⟩) ?_
      simp only [Act.put, List.setIfInBounds_toArray, List.set_cons_zero, List.set_cons_succ]
      refine wpAnyH_ready (rs := [7]) (by kernel_rfl) (by simp) ?_
      refine rd7 (fun K hK => ?_) AllReadyH.nil
      rw [if_pos (by rfl)]
      refine wp_load_mid 29 _ rfl g (t * 72 + p * 4) rfl (rowU 4 (lm (B (18 * t + p)))) _ ((E3.out.get 2 rfl).balAt HT.out HP.out) Tryz.underlying29 rfl (info_lm _) ?_
      refine hK.out _ _ X.out (fun _ => ?_)
      clear hK K
      simp only [Act.put, List.setIfInBounds_toArray, List.set_cons_zero, List.set_cons_succ]
      refine wpAnyH_ready (rs := [9]) (by kernel_rfl) (by simp) ?_
      refine rd9 (fun K hK => ?_) AllReadyH.nil
      go_simp
      refine (add13_any _ (HB.out (18 * t + p)) HN.out HIN.out).mono ?_
      rintro e w3 ⟨rfl, hb⟩
      simp only []
      replace E3 := hide (E3.out.after hb)
      replace X : Hid (∃ X, Uxs w w3 [(g + 2, 288, tl tz), (g + 1, 4, lm N), (g, 288, X)]) := hide ⟨_, E3.out⟩
      clear hb
      refine hK.out _ _ X.out (fun _ => ?_)
      clear hK K
      refine tk12 (v := .pointer (some ⟨g, t * 72 + p * 4, none⟩)) (by kernel_rfl) (by kernel_rfl) (by kernel_rfl) (fun _ _ _ h => h) X.out (Or.inl ⟨by rfl, fun w hw => by go_simp; try (with_reducible rfl)⟩) ?_
      simp only [Act.put, List.setIfInBounds_toArray, List.set_cons_zero, List.set_cons_succ]
      refine wpAnyH_ready (rs := [13]) (by kernel_rfl) (by simp) ?_
      refine rd13 (fun K hK => ?_) AllReadyH.nil
      rw [if_pos (by rfl)]
      refine wp_store_mid _ _ _ rfl g (t * 72 + p * 4) (rowU 4 (lm (B (18 * t + p) + N))).toArray rfl rfl ((E3.out.get 2 rfl).thereAt _ 4 _ (by have := HT.out; have := HP.out; omega)) (info_lmA _) (rowU_oneA _ _) ?_
      obtain ⟨w4, hw4⟩ : ∃ w4, w3.setCells g (t * 72 + p * 4) (rowU 4 (lm (B (18 * t + p) + N))) = w4 := ⟨_, rfl⟩
      replace E3 : Hid (Uxs w w4 [(g + 2, 288, tl tz), (g + 1, 4, lm N), (g, 288, tl (updT B (18 * t + p) (B (18 * t + p) + N)))]) := by rw [← hw4]; exact hide (E3.out.upd 2 rfl HT.out HP.out (B (18 * t + p) + N))
      rw [show (rowU 4 (lm (B (18 * t + p) + N))).toArray.toList = rowU 4 (lm (B (18 * t + p) + N)) from List.toList_toArray, hw4]
      replace X : Hid (∃ X, Uxs w w4 [(g + 2, 288, tl tz), (g + 1, 4, lm N), (g, 288, X)]) := hide ⟨_, E3.out⟩
      clear hw4
      refine hK.out _ _ X.out (fun _ => ?_)
      clear hK K
      refine wpAnyH_done (by kernel_rfl) ?_ _
      clear X
      go_wp2_with (first
        | refine wpList_load_mid rfl 33 _ rfl g 0 rfl (rowU 288 (tl (updT B (18 * t + p) (B (18 * t + p) + N)))) _ (E3.out.get 2 rfl).range Tryz.underlying33 rfl (info_tb _) ?_
        | refine wpList_store_mid rfl 33 _ _ rfl (g + 2) 0 (rowU 288 (tl (updT B (18 * t + p) (B (18 * t + p) + N)))).toArray rfl rfl ((E3.out.get 0 rfl).thereA _) (info_tbA _) (rowU_oneA _ _) ?_)
      have EE := hide (E3.out.put 0 rfl (tl (updT B (18 * t + p) (B (18 * t + p) + N))))
      refine bodyPost_ret (v := .tuple #[tv (updT B (18 * t + p) (B (18 * t + p) + N)), .int .i64 0]) ?_ rfl ⟨rfl, EE.out.below⟩
      have hlv := run_loadVar_mid (P := Tryz.prog) _ _ _ _ _ _ (EE.out.get 0 rfl).range Tryz.underlying33 rfl (info_tb _)
      exact results_two Tryz.results25 rfl rfl hlv
  · go_simp
    obtain ⟨g5, hg5⟩ : ∃ g5, v0.heap.size = g5 := ⟨_, rfl⟩
    obtain ⟨w5, hw5⟩ : ∃ w5, v0.alloc (.cells #[.int .u64 0, .int .u64 0, .int .u64 0, .int .u64 0] 29) = w5 := ⟨_, rfl⟩
    have E5 := hide (X.out.add hg5 (show URow (v0.alloc (.cells #[.int .u64 0, .int .u64 0, .int .u64 0, .int .u64 0] 29)) g5 4 (fun _ => 0) from URow.box v0 4 (fun _ => 0) 29 hg5))
    have hb := bAl (o := .cells #[.int .u64 0, .int .u64 0, .int .u64 0, .int .u64 0] 29) (bMe v0)
    rw [hw5] at E5 hb
    replace X := hide (X.out.after hb)
    rw [hg5, hw5]
    clear hb hw5 hg5
    refine hK.out _ _ X.out (fun _ => ?_)
    clear hK K
    refine wpAnyH_ready (rs := [2]) (by kernel_rfl) (by simp) ?_
    refine rd2 (fun K hK => ?_) AllReadyH.nil
    go_simp
    refine (HSUP.out _).mono ?_
    rintro e u1 ⟨xo, xn, xc, rfl, nx, hb⟩
    simp only []
    replace X := hide (X.out.after hb)
    replace E5 := hide (E5.out.after hb)
    have NX := hide nx
    clear nx
    clear hb
    refine hK.out _ _ X.out (fun _ => ?_)
    clear hK K
    refine wpAnyH_ready (rs := [4]) (by kernel_rfl) (by simp) ?_
    refine rd4 (fun K hK => ?_) AllReadyH.nil
    go_simp
    refine (row_of N _ HN.out).mono ?_
    rintro e u2 ⟨yo, yn, yc, rfl, ny, hb⟩
    simp only []
    replace X := hide (X.out.after hb)
    replace E5 := hide (E5.out.after hb)
    replace NX := hide (NX.out.below hb)
    have NY := hide (ny.mono (show 16 ≤ 34 by omega))
    clear ny
    clear hb
    refine hK.out _ _ X.out (fun _ => ?_)
    clear hK K
    refine wpAnyH_ready (rs := [5]) (by kernel_rfl) (by simp) ?_
    refine rd5 (fun K hK => ?_) AllReadyH.nil
    go_simp
    refine (add_any NX.out NY.out (by omega)).mono ?_
    rintro e u3 ⟨zo, zn, zc, rfl, nz, hb⟩
    simp only []
    replace X := hide (X.out.after hb)
    replace E5 := hide (E5.out.after hb)
    have NZ := hide nz
    clear nz NX NY
    clear hb
    refine hK.out _ _ X.out (fun _ => ?_)
    clear hK K
    refine wpAnyH_ready (rs := [6]) (by kernel_rfl) (by simp) ?_
    refine rd6 (fun K hK => ?_) AllReadyH.nil
    go_simp
    refine (int_ok NZ.out HSM.out).mono ?_
    rintro e u4 ⟨rfl, hb⟩
    simp only []
    replace X := hide (X.out.after hb)
    replace E5 := hide (E5.out.after hb)
    clear NZ
    clear hb
    refine hK.out _ _ X.out (fun _ => ?_)
    clear hK K
    refine tk7 (v := .tuple #[big (SS + N), .bool true]) (by kernel_rfl) (by kernel_rfl) (by kernel_rfl) (fun _ _ _ h => h) X.out (Or.inl ⟨by rfl, fun w hw => by go_simp; try (with_reducible rfl)⟩) ?_
    simp only [Act.put, List.setIfInBounds_toArray, List.set_cons_zero, List.set_cons_succ]
    refine tk8 (v := big (SS + N)) (by kernel_rfl) (by kernel_rfl) (by kernel_rfl) (fun _ _ _ h => h) X.out (Or.inl ⟨by rfl, fun w hw => by go_simp; try (with_reducible rfl)⟩) ?_
    simp only [Act.put, List.setIfInBounds_toArray, List.set_cons_zero, List.set_cons_succ]
    refine tk9 (v := .bool true) (by kernel_rfl) (by kernel_rfl) (by kernel_rfl) (fun _ _ _ h => h) X.out (Or.inl ⟨by rfl, fun w hw => by go_simp; try (with_reducible rfl)⟩) ?_
    simp only [Act.put, List.setIfInBounds_toArray, List.set_cons_zero, List.set_cons_succ]
    refine wpAnyH_ready (rs := [11]) (by kernel_rfl) (by simp) ?_
    refine rd11 (fun K hK => ?_) AllReadyH.nil
    rw [if_pos (by rfl)]
    refine wp_store_mid _ _ _ rfl g5 0 (rowU 4 (lm (SS + N))).toArray rfl rfl ((E5.out.get 0 rfl).thereA _) (info_lmA _) (rowU_oneA _ _) ?_
    obtain ⟨w6, hw6⟩ : ∃ w6, u4.setCells g5 0 (rowU 4 (lm (SS + N))) = w6 := ⟨_, rfl⟩
    have E6 := hide (E5.out.put 0 rfl (lm (SS + N)))
    rw [hw6] at E6
    rw [show (rowU 4 (lm (SS + N))).toArray.toList = rowU 4 (lm (SS + N)) from List.toList_toArray, hw6]
    replace X := hide E6.out.tail
    clear hw6 E5
    refine hK.out _ _ X.out (fun _ => ?_)
    clear hK K
    refine tk12 (v := .bool true) (by kernel_rfl) (by kernel_rfl) (by kernel_rfl) (fun _ _ _ h => h) X.out (Or.inl ⟨by rfl, fun w hw => by go_simp; try (with_reducible rfl)⟩) ?_
    simp only [Act.put, List.setIfInBounds_toArray, List.set_cons_zero, List.set_cons_succ]
    refine wpAnyH_done (by kernel_rfl) ?_ _
    have E7 := hide X.out
    clear X E6
    go_wp2
    have E3 : Hid (Uxs w w6.drew [(g + 2, 288, tl tz), (g + 1, 4, lm N), (g, 288, tl B)]) := hide (E7.out.after (bMe w6).drew)
    clear E7
    have X : Hid (∃ X, Uxs w w6.drew [(g + 2, 288, tl tz), (g + 1, 4, lm N), (g, 288, X)]) := hide ⟨_, E3.out⟩
    refine wp_region_held_drew (S := fun w1 => ∃ X, Uxs w w1 [(g + 2, 288, tl tz), (g + 1, 4, lm N), (g, 288, X)]) (by kernel_rfl) X.out (fun _ => ?_)
    refine tk0 (v := .int .u8 (t : Int)) (by kernel_rfl) (by kernel_rfl) (by kernel_rfl) (fun _ _ _ h => h) X.out (Or.inl ⟨by rfl, fun w hw => by go_simp; try (with_reducible rfl)⟩) ?_
    simp only [Act.put, List.setIfInBounds_toArray, List.set_cons_zero, List.set_cons_succ]
    refine tk1 (v := .int .u8 (p : Int)) (by kernel_rfl) (by kernel_rfl) (by kernel_rfl) (fun _ _ _ h => h) X.out (Or.inl ⟨by rfl, fun w hw => by go_simp; try (with_reducible rfl)⟩) ?_
    simp only [Act.put, List.setIfInBounds_toArray, List.set_cons_zero, List.set_cons_succ]
    refine tk2 (v := .int .u8 (t : Int)) (by kernel_rfl) (by kernel_rfl) (by kernel_rfl) (fun _ _ _ h => h) X.out (Or.inl ⟨by rfl, fun w hw => by go_simp; try (with_reducible rfl)⟩) ?_
    simp only [Act.put, List.setIfInBounds_toArray, List.set_cons_zero, List.set_cons_succ]
    refine tk3 (v := .int .u8 (p : Int)) (by kernel_rfl) (by kernel_rfl) (by kernel_rfl) (fun _ _ _ h => h) X.out (Or.inl ⟨by rfl, fun w hw => by go_simp; try (with_reducible rfl)⟩) ?_
    simp only [Act.put, List.setIfInBounds_toArray, List.set_cons_zero, List.set_cons_succ]
    refine tk4 (v := .pointer (some ⟨g, 0, none⟩)) (by kernel_rfl) (by kernel_rfl) (by kernel_rfl) (fun _ _ _ h => h) X.out (Or.inl ⟨by rfl, fun w hw => by go_simp; try (with_reducible rfl)⟩) ?_
    simp only [Act.put, List.setIfInBounds_toArray, List.set_cons_zero, List.set_cons_succ]
    refine tk5 (v := .pointer (some ⟨g, t * 72, none⟩)) (by kernel_rfl) (by kernel_rfl) (by kernel_rfl) (fun _ _ _ h => h) X.out (Or.inl ⟨by rfl, fun w hw => by go_simp; try (with_reducible rfl)⟩) ?_
    simp only [Act.put, List.setIfInBounds_toArray, List.set_cons_zero, List.set_cons_succ]
    refine tk6 (v := .pointer (some ⟨g, t * 72 + p * 4, none⟩)) (by kernel_rfl) (by kernel_rfl) (by kernel_rfl) (fun _ _ _ h => h) X.out (Or.inl ⟨by rfl, fun w hw => by go_simp; try (with_reducible rfl)⟩) ?_
    simp only [Act.put, List.setIfInBounds_toArray, List.set_cons_zero, List.set_cons_succ]
    refine tk8 (by kernel_rfl) (by kernel_rfl) (by kernel_rfl) (fun _ _ _ h => h) X.out (yieldsIf_load_mid (by rfl) _ _ rfl (g + 1) (0) rfl (rowU 4 (lm N)) _ (fun _ hw => by obtain ⟨Y, hY⟩ := hw; exact (hY.get 1 rfl).range) Tryz.underlying29 rfl (info_lm _)) ?_
    simp only [Act.put, List.setIfInBounds_toArray, List.set_cons_zero, List.set_cons_succ]
    refine tk10 (v := .pointer (some ⟨g, 0, none⟩)) (by kernel_rfl) (by kernel_rfl) (by kernel_rfl) (fun _ _ _ h => h) X.out (Or.inl ⟨by rfl, fun w hw => by go_simp; try (with_reducible rfl)⟩) ?_
    simp only [Act.put, List.setIfInBounds_toArray, List.set_cons_zero, List.set_cons_succ]
    refine tk11 (v := .pointer (some ⟨g, t * 72, none⟩)) (by kernel_rfl) (by kernel_rfl) (by kernel_rfl) (fun _ _ _ h => h) X.out (Or.inl ⟨by rfl, fun w hw => by go_simp; try (with_reducible rfl)⟩) ?_
    simp only [Act.put, List.setIfInBounds_toArray, List.set_cons_zero, List.set_cons_succ]
    refine wpAnyH_ready (rs := [7]) (by kernel_rfl) (by simp) ?_
    refine rd7 (fun K hK => ?_) AllReadyH.nil
    rw [if_pos (by rfl)]
    refine wp_load_mid 29 _ rfl g (t * 72 + p * 4) rfl (rowU 4 (lm (B (18 * t + p)))) _ ((E3.out.get 2 rfl).balAt HT.out HP.out) Tryz.underlying29 rfl (info_lm _) ?_
    refine hK.out _ _ X.out (fun _ => ?_)
    clear hK K
    simp only [Act.put, List.setIfInBounds_toArray, List.set_cons_zero, List.set_cons_succ]
    refine wpAnyH_ready (rs := [9]) (by kernel_rfl) (by simp) ?_
    refine rd9 (fun K hK => ?_) AllReadyH.nil
    go_simp
    refine (add13_any _ (HB.out (18 * t + p)) HN.out HIN.out).mono ?_
    rintro e w3 ⟨rfl, hb⟩
    simp only []
    replace E3 := hide (E3.out.after hb)
    replace X : Hid (∃ X, Uxs w w3 [(g + 2, 288, tl tz), (g + 1, 4, lm N), (g, 288, X)]) := hide ⟨_, E3.out⟩
    clear hb
    refine hK.out _ _ X.out (fun _ => ?_)
    clear hK K
    refine tk12 (v := .pointer (some ⟨g, t * 72 + p * 4, none⟩)) (by kernel_rfl) (by kernel_rfl) (by kernel_rfl) (fun _ _ _ h => h) X.out (Or.inl ⟨by rfl, fun w hw => by go_simp; try (with_reducible rfl)⟩) ?_
    simp only [Act.put, List.setIfInBounds_toArray, List.set_cons_zero, List.set_cons_succ]
    refine wpAnyH_ready (rs := [13]) (by kernel_rfl) (by simp) ?_
    refine rd13 (fun K hK => ?_) AllReadyH.nil
    rw [if_pos (by rfl)]
    refine wp_store_mid _ _ _ rfl g (t * 72 + p * 4) (rowU 4 (lm (B (18 * t + p) + N))).toArray rfl rfl ((E3.out.get 2 rfl).thereAt _ 4 _ (by have := HT.out; have := HP.out; omega)) (info_lmA _) (rowU_oneA _ _) ?_
    obtain ⟨w4, hw4⟩ : ∃ w4, w3.setCells g (t * 72 + p * 4) (rowU 4 (lm (B (18 * t + p) + N))) = w4 := ⟨_, rfl⟩
    replace E3 : Hid (Uxs w w4 [(g + 2, 288, tl tz), (g + 1, 4, lm N), (g, 288, tl (updT B (18 * t + p) (B (18 * t + p) + N)))]) := by rw [← hw4]; exact hide (E3.out.upd 2 rfl HT.out HP.out (B (18 * t + p) + N))
    rw [show (rowU 4 (lm (B (18 * t + p) + N))).toArray.toList = rowU 4 (lm (B (18 * t + p) + N)) from List.toList_toArray, hw4]
    replace X : Hid (∃ X, Uxs w w4 [(g + 2, 288, tl tz), (g + 1, 4, lm N), (g, 288, X)]) := hide ⟨_, E3.out⟩
    clear hw4
    refine hK.out _ _ X.out (fun _ => ?_)
    clear hK K
    refine wpAnyH_done (by kernel_rfl) ?_ _
    clear X
    go_wp2_with (first
      | refine wpList_load_mid rfl 33 _ rfl g 0 rfl (rowU 288 (tl (updT B (18 * t + p) (B (18 * t + p) + N)))) _ (E3.out.get 2 rfl).range Tryz.underlying33 rfl (info_tb _) ?_
      | refine wpList_store_mid rfl 33 _ _ rfl (g + 2) 0 (rowU 288 (tl (updT B (18 * t + p) (B (18 * t + p) + N)))).toArray rfl rfl ((E3.out.get 0 rfl).thereA _) (info_tbA _) (rowU_oneA _ _) ?_)
    have EE := hide (E3.out.put 0 rfl (tl (updT B (18 * t + p) (B (18 * t + p) + N))))
    refine bodyPost_ret (v := .tuple #[tv (updT B (18 * t + p) (B (18 * t + p) + N)), .int .i64 0]) ?_ rfl ⟨rfl, EE.out.below⟩
    have hlv := run_loadVar_mid (P := Tryz.prog) _ _ _ _ _ _ (EE.out.get 0 rfl).range Tryz.underlying33 rfl (info_tb _)
    exact results_two Tryz.results25 rfl rfl hlv
end Go.Proofs.YtncnilplmklccaaGreat

/- The document's table against a book's row: Supply, Mint, Burn, Move. -/
namespace Go.Proofs.YtncnilplmklccaaGreat
set_option linter.unusedSimpArgs false
set_option linter.unusedVariables false
open Go.RowKit Go.Lib

/-- A row's table. -/
def tb (L : Kvs) : Tb := fun i => bal L (((i / 18 : Nat) : Int), ((i % 18 : Nat) : Int))
theorem tb_ok (L : Kvs) : Tok (tb L) := fun _ => bal_in _ _
theorem tb_at (L : Kvs) (t : Nat) {p : Nat} (hp : p < 18) : tb L (18 * t + p) = bal L ((t : Int), (p : Int)) := by
  unfold tb
  rw [show (18 * t + p) / 18 = t by omega, show (18 * t + p) % 18 = p by omega]
theorem tb_nil : tb [] = tz := by funext i; exact bal_nil _
theorem tb_sup (L : Kvs) (t : Nat) : sums (fun p => tb L (18 * t + p)) 18 = sup L (t : Int) :=
  sums_congr 18 fun p hp => tb_at L t hp
theorem tb_put {L : Kvs} (g : Good L) {t p : Nat} (hp : p < 18) (v : Nm) : updT (tb L) (18 * t + p) v.1 = tb (putB ((t : Int), (p : Int)) v L) := by
  funext i
  unfold updT
  have h2 := bal_putB g.srt ((t : Int), (p : Int)) (((i / 18 : Nat) : Int), ((i % 18 : Nat) : Int)) v
  by_cases e : i = 18 * t + p
  · rw [if_pos e]
    unfold tb
    rw [h2, if_pos (by rw [show i / 18 = t by omega, show i % 18 = p by omega])]
  · rw [if_neg e]
    unfold tb
    rw [h2, if_neg]
    intro e2
    have e3 := congrArg Prod.fst e2
    have e4 := congrArg Prod.snd e2
    simp only [] at e3 e4
    omega
theorem nat_of {x : Int} {n : Nat} (h0 : 0 ≤ x) (h1 : x < n) : ∃ k : Nat, x = (k : Int) ∧ k < n := ⟨x.toNat, by omega, by omega⟩
theorem mint13_l {L : Kvs} (g : Good L) (hI : ∀ t, In (sup L t)) {t p N : Int} (w : World) (ht : 0 ≤ t ∧ t < 256) (hp : 0 ≤ p ∧ p < 256) (hN : In N) :
    Calls Tryz.prog 25 #[tv (tb L), .int .u8 t, .int .u8 p, big N] w fun e w' => e = .returned (.tuple #[tv (tb (mintL L t p N)), .int .i64 (mintE L t p N)]) ∧ Below w.heap.size w w' := by
  by_cases hc : chk t [p] N = 0
  · have hk := chk_kin ht.1 hc (List.mem_singleton.2 rfl) hp.1
    obtain ⟨t, rfl, ht4⟩ := nat_of ht.1 (show t < (4 : Nat) from hk.1.2)
    obtain ⟨p, rfl, hp4⟩ := nat_of hp.1 (show p < (18 : Nat) from hk.2.2)
    by_cases hs : In (sup L (t : Int) + N)
    · have hE : mintE L t p N = 0 := by unfold mintE; rw [if_neg (by simp [hc]), if_pos hs]
      have hin := add_in hk hN hs
      rw [mintL, hE, if_pos rfl]
      have q := mint13_yes w (tb_ok L) hN ht4 hp4 hc (by rw [tb_sup]; exact hs) (by rw [tb_at L t hp4]; exact hin)
      have e := tb_put g (t := t) hp4 (nm (bal L ((t : Int), (p : Int)) + N))
      rw [nm_val hin] at e
      rw [tb_at L t hp4, e] at q
      exact q
    · have hE : mintE L t p N = 2 := by unfold mintE; rw [if_neg (by simp [hc]), if_neg hs]
      rw [mintL, hE, if_neg (by omega)]
      exact mint13_over w (tb_ok L) hN ht4 hp4 hc (by rw [tb_sup]; exact hs)
  · have hE : mintE L t p N = chk t [p] N := by unfold mintE; rw [if_pos hc]
    rw [mintL, hE, if_neg hc]
    exact mint13_no w (tb_ok L) hN hc
theorem burn13_l {L : Kvs} (g : Good L) (hI : ∀ t, In (sup L t)) {t p N : Int} (w : World) (ht : 0 ≤ t ∧ t < 256) (hp : 0 ≤ p ∧ p < 256) (hN : In N) :
    Calls Tryz.prog 26 #[tv (tb L), .int .u8 t, .int .u8 p, big N] w fun e w' => e = .returned (.tuple #[tv (tb (burnL L t p N)), .int .i64 (burnE L t p N)]) ∧ Below w.heap.size w w' := by
  by_cases hc : chk t [p] N = 0
  · have hk := chk_kin ht.1 hc (List.mem_singleton.2 rfl) hp.1
    obtain ⟨t, rfl, ht4⟩ := nat_of ht.1 (show t < (4 : Nat) from hk.1.2)
    obtain ⟨p, rfl, hp4⟩ := nat_of hp.1 (show p < (18 : Nat) from hk.2.2)
    by_cases hs : N ≤ bal L ((t : Int), (p : Int))
    · have hE : burnE L t p N = 0 := by unfold burnE; rw [if_neg (by simp [hc]), if_pos hs]
      have hin := sub_in hN hs
      rw [burnL, hE, if_pos rfl]
      have q := burn13_yes w (tb_ok L) hN ht4 hp4 hc (by rw [tb_at L t hp4]; exact hs)
      have e := tb_put g (t := t) hp4 (nm (bal L ((t : Int), (p : Int)) - N))
      rw [nm_val hin] at e
      rw [tb_at L t hp4, e] at q
      exact q
    · have hE : burnE L t p N = 8 := by unfold burnE; rw [if_neg (by simp [hc]), if_neg hs]
      rw [burnL, hE, if_neg (by omega)]
      exact burn13_few w (tb_ok L) hN ht4 hp4 hc (by rw [tb_at L t hp4]; omega)
  · have hE : burnE L t p N = chk t [p] N := by unfold burnE; rw [if_pos hc]
    rw [burnL, hE, if_neg hc]
    exact burn13_no w (tb_ok L) hN hc
theorem move13_l {L : Kvs} (g : Good L) (hI : ∀ t, In (sup L t)) {t a b N : Int} (w : World) (ht : 0 ≤ t ∧ t < 256) (ha : 0 ≤ a ∧ a < 256) (hb : 0 ≤ b ∧ b < 256) (hN : In N) :
    Calls Tryz.prog 27 #[tv (tb L), .int .u8 t, .int .u8 a, .int .u8 b, big N] w fun e w' => e = .returned (.tuple #[tv (tb (moveL L t a b N)), .int .i64 (moveE L t a b N)]) ∧ Below w.heap.size w w' := by
  by_cases hc : chk t [a, b] N = 0
  · have hk := chk_kin ht.1 hc (p := a) (by simp) ha.1
    have hk2 := chk_kin ht.1 hc (p := b) (by simp) hb.1
    obtain ⟨t, rfl, ht4⟩ := nat_of ht.1 (show t < (4 : Nat) from hk.1.2)
    obtain ⟨a, rfl, ha4⟩ := nat_of ha.1 (show a < (18 : Nat) from hk.2.2)
    obtain ⟨b, rfl, hb4⟩ := nat_of hb.1 (show b < (18 : Nat) from hk2.2.2)
    by_cases hs : N ≤ bal L ((t : Int), (a : Int))
    · have hE : moveE L t a b N = 0 := by unfold moveE; rw [if_neg (by simp [hc]), if_pos hs]
      have hin := sub_in hN hs
      have g2 : Good (subB ((t : Int), (a : Int)) N L) := g.put hk _
      have hs2 : In (sup (subB ((t : Int), (a : Int)) N L) (t : Int) + N) := by
        have e := sup_subB g.srt hk hN hs (t : Int)
        rw [if_pos rfl] at e
        rw [e, Int.sub_add_cancel]
        exact hI t
      have hin2 := add_in hk2 hN hs2
      rw [moveL, hE, if_pos rfl]
      have e := tb_put g (t := t) ha4 (nm (bal L ((t : Int), (a : Int)) - N))
      rw [nm_val hin] at e
      have e2 := tb_put g2 (t := t) hb4 (nm (bal (subB ((t : Int), (a : Int)) N L) ((t : Int), (b : Int)) + N))
      rw [nm_val hin2] at e2
      have q := move13_yes w (tb_ok L) hN ht4 ha4 hb4 hc (by rw [tb_at L t ha4]; exact hs) (by rw [tb_at L t ha4, e]; have e3 := tb_at (putB ((t : Int), (a : Int)) (nm (bal L ((t : Int), (a : Int)) - N)) L) t hb4; rw [e3]; exact hin2)
      rw [tb_at L t ha4, e] at q
      have e3 := tb_at (putB ((t : Int), (a : Int)) (nm (bal L ((t : Int), (a : Int)) - N)) L) t hb4
      rw [e3] at q
      have e4 : updT (tb (putB ((t : Int), (a : Int)) (nm (bal L ((t : Int), (a : Int)) - N)) L)) (18 * t + b) (bal (putB ((t : Int), (a : Int)) (nm (bal L ((t : Int), (a : Int)) - N)) L) ((t : Int), (b : Int)) + N) = _ := e2
      rw [e4] at q
      exact q
    · have hE : moveE L t a b N = 8 := by unfold moveE; rw [if_neg (by simp [hc]), if_neg hs]
      rw [moveL, hE, if_neg (by omega)]
      exact move13_few w (tb_ok L) hN ht4 ha4 hb4 hc (by rw [tb_at L t ha4]; omega)
  · have hE : moveE L t a b N = chk t [a, b] N := by unfold moveE; rw [if_pos hc]
    rw [moveL, hE, if_neg hc]
    exact move13_no w (tb_ok L) hN hc
end Go.Proofs.YtncnilplmklccaaGreat

/- The text of a table, and of a book's row. -/
namespace Go.Proofs.YtncnilplmklccaaGreat
set_option linter.unusedSimpArgs false
set_option linter.unusedVariables false
open Go.RowKit Go.Lib

/-- What a balance is in a text. -/
def cellT (B : Tb) (k : Nat) : List Int := if B k = 0 then [] else be ((k / 18 : Nat) : Int) 1 ++ be ((k % 18 : Nat) : Int) 1 ++ b32 (B k)
/-- The text of the first ones. -/
def txT (B : Tb) (n : Nat) : List Int := (List.range n).flatMap (cellT B)
theorem txT_zero (B : Tb) : txT B 0 = [] := rfl
theorem txT_succ (B : Tb) (n : Nat) : txT B (n + 1) = txT B n ++ cellT B n := by simp [txT, List.range_succ]
theorem txT_skip {B : Tb} {n : Nat} (h : B n = 0) : txT B (n + 1) = txT B n := by rw [txT_succ, cellT, if_pos h, List.append_nil]
theorem txT_more {B : Tb} {t p : Nat} (hp : p < 18) (h : B (18 * t + p) ≠ 0) : txT B (18 * t + p + 1) = (txT B (18 * t + p) ++ (be (t : Int) 1 ++ be (p : Int) 1)) ++ b32 (B (18 * t + p)) := by
  rw [txT_succ, cellT, if_neg h, show (18 * t + p) / 18 = t by omega, show (18 * t + p) % 18 = p by omega]
  simp [List.append_assoc]
theorem cellT_length (B : Tb) (k : Nat) : (cellT B k).length ≤ 34 := by
  unfold cellT
  split
  · exact Nat.zero_le _
  · simp [be_length, b32_length]
theorem txT_length (B : Tb) : ∀ n, (txT B n).length ≤ 34 * n
  | 0 => Nat.le_refl 0
  | n + 1 => by
    rw [txT_succ, List.length_append]
    have h1 := txT_length B n
    have h2 := cellT_length B n
    omega
/-- The balances from one place on. -/
def segT (B : Tb) : Nat → Nat → List Int
  | _, 0 => []
  | s, d + 1 => cellT B s ++ segT B (s + 1) d
theorem segT_congr {B C : Tb} : ∀ (d s : Nat), (∀ k, s ≤ k → B k = C k) → segT B s d = segT C s d
  | 0, _, _ => rfl
  | d + 1, s, h => by
    unfold segT
    rw [segT_congr d (s + 1) fun k hk => h k (by omega)]
    unfold cellT
    rw [h s (Nat.le_refl s)]
theorem segT_txT (B : Tb) : ∀ (d s : Nat), txT B s ++ segT B s d = txT B (s + d)
  | 0, s => by simp [segT]
  | d + 1, s => by
    unfold segT
    rw [← List.append_assoc, ← txT_succ, segT_txT B d (s + 1), show s + 1 + d = s + (d + 1) by omega]
/-- Where a key stands. -/
def kyN (k : Kk) : Int := 18 * k.1 + k.2
theorem kyN_of {k : Kk} (h : Kin k) {s : Nat} (e : kyN k = (s : Int)) : (((s / 18 : Nat) : Int), ((s % 18 : Nat) : Int)) = k := by
  unfold kyN at e
  obtain ⟨⟨h1, h2⟩, h3, h4⟩ := h
  exact Prod.ext (by simp only []; omega) (by simp only []; omega)
theorem kyN_lt {a b : Kk} (ha : Kin a) (hb : Kin b) (h : kyKey.lt a b = true) : kyN a < kyN b := by
  simp only [kyKey, decide_eq_true_eq] at h
  unfold kyN
  obtain ⟨⟨h1, h2⟩, h3, h4⟩ := ha
  obtain ⟨⟨h5, h6⟩, h7, h8⟩ := hb
  omega
theorem tb_none {L : Kvs} (hk : ∀ x ∈ L, Kin x.1) {s : Nat} (h : ∀ x ∈ L, kyN x.1 ≠ (s : Int)) : tb L s = 0 := by
  unfold tb bal
  cases e : getL (((s / 18 : Nat) : Int), ((s % 18 : Nat) : Int)) L with
  | none => rfl
  | some v =>
    exfalso
    refine h _ (getL_some_mem e) ?_
    unfold kyN
    simp only []
    omega
theorem seg_txt : ∀ (d s : Nat) (L : Kvs), Srt kyKey L → (∀ x ∈ L, Kin x.1) → (∀ x ∈ L, x.2.1 ≠ 0) → s + d = 72 → (∀ x ∈ L, (s : Int) ≤ kyN x.1) → segT (tb L) s d = txt L
  | 0, s, [], _, _, _, _, _ => rfl
  | 0, s, x :: L, _, hk, _, he, hs => by
    exfalso
    have h1 := hs x (by simp)
    obtain ⟨⟨h2, h3⟩, h4, h5⟩ := hk x (by simp)
    unfold kyN at h1
    omega
  | d + 1, s, [], h, hk, hn, he, _ => by
    unfold segT
    rw [seg_txt d (s + 1) [] h hk hn (by omega) (fun x hx => absurd hx (List.not_mem_nil)), cellT, if_pos (show tb [] s = 0 from bal_nil _)]
    rfl
  | d + 1, s, x :: L, h, hk, hn, he, hs => by
    have hlt : ∀ y ∈ L, kyN x.1 < kyN y.1 := fun y hy => kyN_lt (hk x (by simp)) (hk y (by simp [hy])) (List.rel_of_pairwise_cons h hy)
    unfold segT
    by_cases e : kyN x.1 = (s : Int)
    · have hx := kyN_of (hk x (by simp)) e
      have hb : tb (x :: L) s = x.2.1 := by unfold tb bal; rw [hx]; simp [getL]
      have hc : segT (tb (x :: L)) (s + 1) d = segT (tb L) (s + 1) d := segT_congr d (s + 1) fun k hk2 => by
        unfold tb bal
        have : x.1 ≠ (((k / 18 : Nat) : Int), ((k % 18 : Nat) : Int)) := fun q => by
          rw [q] at e
          unfold kyN at e
          simp only [] at e
          omega
        simp only [getL, if_neg this]
      rw [hc, seg_txt d (s + 1) L h.tail (fun y hy => hk y (by simp [hy])) (fun y hy => hn y (by simp [hy])) (by omega) (fun y hy => by have := hlt y hy; omega)]
      have h1 := congrArg Prod.fst hx
      have h2 := congrArg Prod.snd hx
      simp only [] at h1 h2
      unfold cellT
      rw [hb, if_neg (hn x (by simp)), h1, h2]
      simp [txt, ebytes]
    · have hs1 : ∀ y ∈ x :: L, ((s + 1 : Nat) : Int) ≤ kyN y.1 := fun y hy => by
        have h1 := hs x (by simp)
        rcases List.mem_cons.1 hy with rfl | hy
        · omega
        · have := hlt y hy; omega
      rw [seg_txt d (s + 1) (x :: L) h hk hn (by omega) hs1]
      unfold cellT
      rw [if_pos (tb_none hk fun y hy => by have := hs1 y hy; omega), List.nil_append]
theorem txt_tb {L : Kvs} (g : Good L) : txT (tb L) 72 = txt L := by
  have h := segT_txT (tb L) 72 0
  rw [txT_zero, List.nil_append] at h
  rw [← h]
  refine seg_txt 72 0 L g.srt g.kin g.non rfl fun x hx => ?_
  obtain ⟨⟨h1, h2⟩, h3, h4⟩ := g.kin x hx
  unfold kyN
  omega
end Go.Proofs.YtncnilplmklccaaGreat
