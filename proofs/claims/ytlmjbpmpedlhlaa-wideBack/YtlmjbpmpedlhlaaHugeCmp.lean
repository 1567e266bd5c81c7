/- The contract of huge.Cmp over this translation. -/
import Derived.Test.YtlmjbpmpedlhlaaHugeBase
namespace Go.Proofs.Ytlmjbpmpedlhlaa
open Go.RowKit Go.Lib
attribute [local go_sem] setCell_drewN alloc_drewN

/-- Which is greater? -/
def sg (a b : Int) : Int := if a < b then -1 else if b < a then 1 else 0
theorem sg_zero {a b : Int} : sg a b = 0 ↔ a = b := by unfold sg; split <;> (try split) <;> omega
theorem sg_lt {a b : Int} (h : a < b) : sg a b = -1 := by unfold sg; rw [if_pos h]
theorem sg_gt {a b : Int} (h : b < a) : sg a b = 1 := by unfold sg; rw [if_neg (by omega), if_pos h]
theorem sg_eq {a b : Int} (h : a = b) : sg a b = 0 := sg_zero.2 h
theorem sg_bd (a b : Int) : -1 ≤ sg a b ∧ sg a b ≤ 1 := by unfold sg; split <;> (try split) <;> omega

theorem nan_any (x : Int) (w : World) : Calls Try.prog 46 #[.int .u64 x] w fun e w' => e = .returned (.bool false) ∧ w' = w := by
  go_enter Try.func46, Try.ntmps46
  go_wp2
  go_ret
  exact ⟨rfl, rfl⟩
theorem compare_any (x y : Int) (w : World) : Calls Try.prog 37 #[.int .u64 x, .int .u64 y] w fun e w' => e = .returned (.int .i64 (sg x y)) ∧ w' = w := by
  rcases Int.lt_trichotomy x y with h | h | h
  · rw [sg_lt h]
    go_enter Try.func37, Try.ntmps37
    go_wp2_with (go_at_call 46; refine (nan_any _ _).mono ?_; rintro e w' ⟨rfl, rfl⟩)
    go_ret
    exact ⟨rfl, rfl⟩
  · subst h
    rw [sg_eq rfl]
    have h1 : ¬ x < x := by omega
    go_enter Try.func37, Try.ntmps37
    go_wp2_with (go_at_call 46; refine (nan_any _ _).mono ?_; rintro e w' ⟨rfl, rfl⟩)
    go_ret
    exact ⟨rfl, rfl⟩
  · rw [sg_gt h]
    have h1 : ¬ x < y := by omega
    go_enter Try.func37, Try.ntmps37
    go_wp2_with (go_at_call 46; refine (nan_any _ _).mono ?_; rintro e w' ⟨rfl, rfl⟩)
    go_ret
    exact ⟨rfl, rfl⟩

/-- The place below. -/
def ix : Nat → Int
  | 0 => -1
  | 1 => 0
  | 2 => 1
  | 3 => 2
  | _ => 3
/-- Which limbs are alike? -/
def Top (a b : Int) (k : Nat) : Prop := ∀ j, k ≤ j → j < 4 → lm a j = lm b j
theorem Top.down {a b : Int} {k : Nat} (h : Top a b (k + 1)) (e : lm a k = lm b k) : Top a b k := by
  intro j h1 h2
  by_cases hj : j = k
  · subst hj; exact e
  · exact h j (by omega) h2
theorem top_sg {a b : Int} (ha : In a) (hb : In b) {k : Nat} (hk : k < 4) (h : Top a b (k + 1)) (hne : lm a k ≠ lm b k) : sg (lm a k) (lm b k) = sg a b := by
  have ea := four_lm ha
  have eb := four_lm hb
  have a0 := lm_bd a 0; have a1 := lm_bd a 1; have a2 := lm_bd a 2; have a3 := lm_bd a 3
  have b0 := lm_bd b 0; have b1 := lm_bd b 1; have b2 := lm_bd b 2; have b3 := lm_bd b 3
  unfold four at ea eb
  have key : (lm a k < lm b k → a < b) ∧ (lm b k < lm a k → b < a) := by
    match k, hk with
    | 0, _ => have h1 := h 1 (by omega) (by omega); have h2 := h 2 (by omega) (by omega); have h3 := h 3 (by omega) (by omega); omega
    | 1, _ => have h2 := h 2 (by omega) (by omega); have h3 := h 3 (by omega) (by omega); omega
    | 2, _ => have h3 := h 3 (by omega) (by omega); omega
    | 3, _ => omega
  rcases Int.lt_trichotomy (lm a k) (lm b k) with h1 | h1 | h1
  · rw [sg_lt h1, sg_lt (key.1 h1)]
  · exact absurd h1 hne
  · rw [sg_gt h1, sg_gt (key.2 h1)]
theorem top_eq {a b : Int} (ha : In a) (hb : In b) (h : Top a b 0) : sg a b = 0 :=
  sg_eq (lm_inj ha hb (h 0 (by omega) (by omega)) (h 1 (by omega) (by omega)) (h 2 (by omega) (by omega)) (h 3 (by omega) (by omega)))

set_option maxHeartbeats 2000000 in
theorem huge_cmp_any (a b : Int) (w : World) (ha : In a) (hb : In b) :
    Calls Try.prog 21 #[big a, big b] w fun e w' => e = .returned (.int .i64 (sg a b)) ∧ Below w.heap.size w w' := by
  have HA := hide ha; have HB := hide hb
  clear ha hb
  go_enter Try.func21, Try.ntmps21
  go_wp2
  go_loopw [5] (fun t wr => ∃ k : Nat, k ≤ 4 ∧ t = .int .i64 (ix k) ∧ Top a b k ∧ Below w.heap.size w wr ∧ Lims wr w.heap.size (lm a 0) (lm a 1) (lm a 2) (lm a 3) ∧ Lims wr (w.heap.size + 1) (lm b 0) (lm b 1) (lm b 2) (lm b 3)) (fun t _ => (intOf t + 1).toNat)
  case atStart => exact ⟨4, by omega, rfl, fun j h1 h2 => by omega, bAl (bAl (bMe w)), (Lims.new w _ _ _ _ _).past _, by have := Lims.new (w.alloc (.cells #[.int .u64 (lm a 0), .int .u64 (lm a 1), .int .u64 (lm a 2), .int .u64 (lm a 3)] 24)) (lm b 0) (lm b 1) (lm b 2) (lm b 3) 24; rw [World.size_alloc] at this; exact this⟩
  case round =>
    obtain ⟨k, hk, rfl, ht, hb, la, lb⟩ := hrel
    have HT := hide ht
    clear ht
    have LA := hide la; have LB := hide lb; have HBel := hide hb
    obtain ⟨_, a0, a1, a2, a3⟩ := la
    obtain ⟨_, b0, b1, b2, b3⟩ := lb
    clear hb
    match k, hk, HT with
    | 0, _, HT =>
      simp only [ix]
      go_wp2
      go_ret
      exact ⟨by rw [top_eq HA.out HB.out HT.out]; rfl, HBel.out⟩
    | k + 1, hk, HT =>
      by_cases he : lm a k = lm b k
      · have hs := sg_eq he
        have HE := hide he
        clear he
        match k, hk, HT, HE, hs with
        | 0, _, HT, HE, hs =>
          simp only [ix, Nat.zero_add]
          go_wp2
          go_quiet ((go_at_call 37; exact Calls.quiet_of_same (compare_any _ _ _)))
          go_wp2
          go_roundw
          case rel => exact ⟨0, by omega, rfl, HT.out.down HE.out, bDn HBel.out, LA.out.dn _, LB.out.dn _⟩
          case measure => simp [intOf]
        | 1, _, HT, HE, hs =>
          simp only [ix, Nat.reduceAdd]
          go_wp2
          go_quiet ((go_at_call 37; exact Calls.quiet_of_same (compare_any _ _ _)))
          go_wp2
          go_roundw
          case rel => exact ⟨1, by omega, rfl, HT.out.down HE.out, bDn HBel.out, LA.out.dn _, LB.out.dn _⟩
          case measure => simp [intOf]
        | 2, _, HT, HE, hs =>
          simp only [ix, Nat.reduceAdd]
          go_wp2
          go_quiet ((go_at_call 37; exact Calls.quiet_of_same (compare_any _ _ _)))
          go_wp2
          go_roundw
          case rel => exact ⟨2, by omega, rfl, HT.out.down HE.out, bDn HBel.out, LA.out.dn _, LB.out.dn _⟩
          case measure => simp [intOf]
        | 3, _, HT, HE, hs =>
          simp only [ix, Nat.reduceAdd]
          go_wp2
          go_quiet ((go_at_call 37; exact Calls.quiet_of_same (compare_any _ _ _)))
          go_wp2
          go_roundw
          case rel => exact ⟨3, by omega, rfl, HT.out.down HE.out, bDn HBel.out, LA.out.dn _, LB.out.dn _⟩
          case measure => simp [intOf]
      · have hs := top_sg HA.out HB.out (k := k) (by omega) HT.out he
        have hn : (sg a b != 0) = true := by rw [← hs]; simp; exact fun e => he (sg_zero.1 e)
        clear he
        match k, hk, HT, hs with
        | 0, _, HT, hs =>
          simp only [ix, Nat.zero_add]
          go_wp2
          go_quiet ((go_at_call 37; exact Calls.quiet_of_same (compare_any _ _ _)))
          go_wp2
          go_ret
          exact ⟨ret_i64 hs, bDn HBel.out⟩
        | 1, _, HT, hs =>
          simp only [ix, Nat.reduceAdd]
          go_wp2
          go_quiet ((go_at_call 37; exact Calls.quiet_of_same (compare_any _ _ _)))
          go_wp2
          go_ret
          exact ⟨ret_i64 hs, bDn HBel.out⟩
        | 2, _, HT, hs =>
          simp only [ix, Nat.reduceAdd]
          go_wp2
          go_quiet ((go_at_call 37; exact Calls.quiet_of_same (compare_any _ _ _)))
          go_wp2
          go_ret
          exact ⟨ret_i64 hs, bDn HBel.out⟩
        | 3, _, HT, hs =>
          simp only [ix, Nat.reduceAdd]
          go_wp2
          go_quiet ((go_at_call 37; exact Calls.quiet_of_same (compare_any _ _ _)))
          go_wp2
          go_ret
          exact ⟨ret_i64 hs, bDn HBel.out⟩
end Go.Proofs.Ytlmjbpmpedlhlaa
