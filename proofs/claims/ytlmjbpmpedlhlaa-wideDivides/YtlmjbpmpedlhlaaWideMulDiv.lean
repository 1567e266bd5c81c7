/- The contract of wide.mulDiv over this translation. -/
import Derived.Test.YtlmjbpmpedlhlaaWideDiv
import Derived.Deep.RegionHeld3
namespace Go.Proofs.Ytlmjbpmpedlhlaa
open Go.RowKit Go.Lib
attribute [local go_sem] setCell_drewN alloc_drewN eqInt eqWide

/-- What a product by a number is, rounded down, and what is left. -/
def Md (a b d q r c : Int) : Prop := (d = 0 ∧ q = 0 ∧ r = 0 ∧ c = 3) ∨ (d ≠ 0 ∧ ¬ In (a * b / d) ∧ q = 0 ∧ r = 0 ∧ c = 2) ∨ (d ≠ 0 ∧ In (a * b / d) ∧ q = a * b / d ∧ r = a * b % d ∧ c = 0)

/-- Eight limbs are stored. -/
abbrev put8 (w : World) (g : Nat) (a b c d e f h i : Int) : World := (((((((w.setCell ⟨g, 0, none⟩ (.int .u64 a)).setCell ⟨g, 1, none⟩ (.int .u64 b)).setCell ⟨g, 2, none⟩ (.int .u64 c)).setCell ⟨g, 3, none⟩ (.int .u64 d)).setCell ⟨g, 4, none⟩ (.int .u64 e)).setCell ⟨g, 5, none⟩ (.int .u64 f)).setCell ⟨g, 6, none⟩ (.int .u64 h)).setCell ⟨g, 7, none⟩ (.int .u64 i)
theorem LRow.put8o {w : World} {g g' n : Nat} {f : Nat → Int} {a b c d e x y z : Int} (h : LRow w g n f) (hne : g ≠ g') : LRow (put8 w g' a b c d e x y z) g n f :=
  (((((((h.other hne _).other hne _).other hne _).other hne _).other hne _).other hne _).other hne _).other hne _

theorem LRow.put8 {w : World} {g : Nat} {f : Nat → Int} (h : LRow w g 8 f) (q : Int) : LRow (Proofs.Ytlmjbpmpedlhlaa.put8 w g (lm q 0) (lm q 1) (lm q 2) (lm q 3) (lm q 4) (lm q 5) (lm q 6) (lm q 7)) g 8 (lm q) :=
  ((((((((h.set 0 (by omega) (lm q 0)).set 1 (by omega) (lm q 1)).set 2 (by omega) (lm q 2)).set 3 (by omega) (lm q 3)).set 4 (by omega) (lm q 4)).set 5 (by omega) (lm q 5)).set 6 (by omega) (lm q 6)).set 7 (by omega) (lm q 7)).congr fun j hj => by
    rcases (by omega : j = 0 ∨ j = 1 ∨ j = 2 ∨ j = 3 ∨ j = 4 ∨ j = 5 ∨ j = 6 ∨ j = 7) with rfl | rfl | rfl | rfl | rfl | rfl | rfl | rfl <;> rfl
theorem put8_below {a w : World} {g : Nat} (q : Int) (h : Below a.heap.size a w) (hg : a.heap.size ≤ g) : Below a.heap.size a (put8 w g (lm q 0) (lm q 1) (lm q 2) (lm q 3) (lm q 4) (lm q 5) (lm q 6) (lm q 7)) :=
  (((((((h.setCell hg _).setCell hg _).setCell hg _).setCell hg _).setCell hg _).setCell hg _).setCell hg _).setCell hg _
theorem low_of (q : Int) : ∀ j, j < 8 → laid (fun _ => 0) (lm q) 0 0 4 j = lit [lm q 0, lm q 1, lm q 2, lm q 3, 0, 0, 0, 0] j := by
  intro j hj
  rcases (by omega : j = 0 ∨ j = 1 ∨ j = 2 ∨ j = 3 ∨ j = 4 ∨ j = 5 ∨ j = 6 ∨ j = 7) with rfl | rfl | rfl | rfl | rfl | rfl | rfl | rfl <;> rfl
theorem lm_high {q : Int} (h : In q) {j : Nat} (hj : 4 ≤ j) : lm q j = 0 := by
  unfold lm
  have e : q / 18446744073709551616 ^ j = 0 := by
    refine Int.ediv_eq_zero_of_lt h.1 (Int.lt_of_lt_of_le h.2 ?_)
    obtain ⟨m, rfl⟩ : ∃ m, j = 4 + m := ⟨j - 4, by omega⟩
    rw [Int.pow_add]
    have := Int.mul_le_mul_of_nonneg_left (show 1 ≤ (18446744073709551616 : Int) ^ m by have := bp m; omega) (Int.le_of_lt (bp 4))
    rw [Int.mul_one] at this
    exact Int.le_trans (by decide) this
  rw [e]
  rfl
theorem same_low {q : Int} (h : In q) : same8 (lm q 0) (lm q 1) (lm q 2) (lm q 3) (lm q 4) (lm q 5) (lm q 6) (lm q 7) (lm q 0) (lm q 1) (lm q 2) (lm q 3) 0 0 0 0 = true := by
  rw [lm_high h (j := 4) (by omega), lm_high h (j := 5) (by omega), lm_high h (j := 6) (by omega), lm_high h (j := 7) (by omega)]
  unfold same8
  simp
theorem same_over {q : Int} (hw : Wd q) (h : ¬ In q) : same8 (lm q 0) (lm q 1) (lm q 2) (lm q 3) (lm q 4) (lm q 5) (lm q 6) (lm q 7) (lm q 0) (lm q 1) (lm q 2) (lm q 3) 0 0 0 0 = false := by
  rw [Bool.eq_false_iff]
  intro hs
  unfold same8 at hs
  simp only [beq_self_eq_true, Bool.true_and, Bool.and_eq_true, beq_iff_eq] at hs
  obtain ⟨h4, h5, h6, h7⟩ := hs
  apply h
  have e := vl_wd hw
  rw [vl_cut (f := lm q) (k := 4) (n := 8) (by omega) (fun j h1 h2 => by
    rcases (by omega : j = 4 ∨ j = 5 ∨ j = 6 ∨ j = 7) with rfl | rfl | rfl | rfl <;> assumption)] at e
  have b := vl_bd (lm_lim q) 4
  rw [e] at b
  exact ⟨b.1, Int.lt_of_lt_of_le b.2 (by decide)⟩
theorem held12 {w : World} {ga gc gd : Nat} {a b d : Int} (A : LRow w ga 4 (lm a)) (C : LRow w gc 4 (lm b)) (D : LRow w gd 4 (lm d)) : w.cell? ⟨ga, 0, none⟩ = some (.int .u64 (lm a 0)) ∧ w.cell? ⟨ga, 1, none⟩ = some (.int .u64 (lm a 1)) ∧ w.cell? ⟨ga, 2, none⟩ = some (.int .u64 (lm a 2)) ∧ w.cell? ⟨ga, 3, none⟩ = some (.int .u64 (lm a 3)) ∧ w.cell? ⟨gc, 0, none⟩ = some (.int .u64 (lm b 0)) ∧ w.cell? ⟨gc, 1, none⟩ = some (.int .u64 (lm b 1)) ∧ w.cell? ⟨gc, 2, none⟩ = some (.int .u64 (lm b 2)) ∧ w.cell? ⟨gc, 3, none⟩ = some (.int .u64 (lm b 3)) ∧ w.cell? ⟨gd, 0, none⟩ = some (.int .u64 (lm d 0)) ∧ w.cell? ⟨gd, 1, none⟩ = some (.int .u64 (lm d 1)) ∧ w.cell? ⟨gd, 2, none⟩ = some (.int .u64 (lm d 2)) ∧ w.cell? ⟨gd, 3, none⟩ = some (.int .u64 (lm d 3)) :=
  ⟨A.cell 0 (by omega), A.cell 1 (by omega), A.cell 2 (by omega), A.cell 3 (by omega), C.cell 0 (by omega), C.cell 1 (by omega), C.cell 2 (by omega), C.cell 3 (by omega), D.cell 0 (by omega), D.cell 1 (by omega), D.cell 2 (by omega), D.cell 3 (by omega)⟩

set_option maxHeartbeats 4000000 in
theorem mul_div_any (a b d : Int) (w : World) (ha : In a) (hb : In b) (hd : In d) :
    Calls Try.prog 32 #[big a, big b, big d] w fun e w' => ∃ q r c, e = .returned (.tuple #[big q, big r, .int .i64 c]) ∧ Hid (Md a b d q r c) ∧ Below w.heap.size w w' := by
  have HA := hide ha; have HB := hide hb; have HD := hide hd
  clear ha hb hd
  go_enter Try.func32, Try.ntmps32
  go_wp2_with fail
  have A := hide ((((((LRow.new4 w (lm a 0) (lm a 1) (lm a 2) (lm a 3) 24 (g := w.heap.size) (by simp)).congr (lit_lm4 a)).past (.cells #[.int .u64 (lm b 0), .int .u64 (lm b 1), .int .u64 (lm b 2), .int .u64 (lm b 3)] 24)).past (.cells #[.int .u64 (lm d 0), .int .u64 (lm d 1), .int .u64 (lm d 2), .int .u64 (lm d 3)] 24)).past (.cells #[.int .u64 0, .int .u64 0, .int .u64 0, .int .u64 0] 24)).past (.cells #[.int .u64 0, .int .u64 0, .int .u64 0, .int .u64 0] 24))
  have C := hide (((((LRow.new4 (w.alloc (.cells #[.int .u64 (lm a 0), .int .u64 (lm a 1), .int .u64 (lm a 2), .int .u64 (lm a 3)] 24)) (lm b 0) (lm b 1) (lm b 2) (lm b 3) 24 (g := w.heap.size + 1) (by simp)).congr (lit_lm4 b)).past (.cells #[.int .u64 (lm d 0), .int .u64 (lm d 1), .int .u64 (lm d 2), .int .u64 (lm d 3)] 24)).past (.cells #[.int .u64 0, .int .u64 0, .int .u64 0, .int .u64 0] 24)).past (.cells #[.int .u64 0, .int .u64 0, .int .u64 0, .int .u64 0] 24))
  have D := hide ((((LRow.new4 ((w.alloc (.cells #[.int .u64 (lm a 0), .int .u64 (lm a 1), .int .u64 (lm a 2), .int .u64 (lm a 3)] 24)).alloc (.cells #[.int .u64 (lm b 0), .int .u64 (lm b 1), .int .u64 (lm b 2), .int .u64 (lm b 3)] 24)) (lm d 0) (lm d 1) (lm d 2) (lm d 3) 24 (g := w.heap.size + 1 + 1) (by simp)).congr (lit_lm4 d)).past (.cells #[.int .u64 0, .int .u64 0, .int .u64 0, .int .u64 0] 24)).past (.cells #[.int .u64 0, .int .u64 0, .int .u64 0, .int .u64 0] 24))
  have Q := hide (((LRow.new4 (((w.alloc (.cells #[.int .u64 (lm a 0), .int .u64 (lm a 1), .int .u64 (lm a 2), .int .u64 (lm a 3)] 24)).alloc (.cells #[.int .u64 (lm b 0), .int .u64 (lm b 1), .int .u64 (lm b 2), .int .u64 (lm b 3)] 24)).alloc (.cells #[.int .u64 (lm d 0), .int .u64 (lm d 1), .int .u64 (lm d 2), .int .u64 (lm d 3)] 24)) 0 0 0 0 24 (g := w.heap.size + 1 + 1 + 1) (by simp)).congr (lit_zero (by simp) 4)).past (.cells #[.int .u64 0, .int .u64 0, .int .u64 0, .int .u64 0] 24))
  have R := hide ((LRow.new4 ((((w.alloc (.cells #[.int .u64 (lm a 0), .int .u64 (lm a 1), .int .u64 (lm a 2), .int .u64 (lm a 3)] 24)).alloc (.cells #[.int .u64 (lm b 0), .int .u64 (lm b 1), .int .u64 (lm b 2), .int .u64 (lm b 3)] 24)).alloc (.cells #[.int .u64 (lm d 0), .int .u64 (lm d 1), .int .u64 (lm d 2), .int .u64 (lm d 3)] 24)).alloc (.cells #[.int .u64 0, .int .u64 0, .int .u64 0, .int .u64 0] 24)) 0 0 0 0 24 (g := w.heap.size + 1 + 1 + 1 + 1) (by simp)).congr (lit_zero (by simp) 4))
  have B : Hid (Below w.heap.size w (((((w.alloc (.cells #[.int .u64 (lm a 0), .int .u64 (lm a 1), .int .u64 (lm a 2), .int .u64 (lm a 3)] 24)).alloc (.cells #[.int .u64 (lm b 0), .int .u64 (lm b 1), .int .u64 (lm b 2), .int .u64 (lm b 3)] 24)).alloc (.cells #[.int .u64 (lm d 0), .int .u64 (lm d 1), .int .u64 (lm d 2), .int .u64 (lm d 3)] 24)).alloc (.cells #[.int .u64 0, .int .u64 0, .int .u64 0, .int .u64 0] 24)).alloc (.cells #[.int .u64 0, .int .u64 0, .int .u64 0, .int .u64 0] 24))) := hide (bAl (bAl (bAl (bAl (bAl (bMe w))))))
  generalize (((((w.alloc (.cells #[.int .u64 (lm a 0), .int .u64 (lm a 1), .int .u64 (lm a 2), .int .u64 (lm a 3)] 24)).alloc (.cells #[.int .u64 (lm b 0), .int .u64 (lm b 1), .int .u64 (lm b 2), .int .u64 (lm b 3)] 24)).alloc (.cells #[.int .u64 (lm d 0), .int .u64 (lm d 1), .int .u64 (lm d 2), .int .u64 (lm d 3)] 24)).alloc (.cells #[.int .u64 0, .int .u64 0, .int .u64 0, .int .u64 0] 24)).alloc (.cells #[.int .u64 0, .int .u64 0, .int .u64 0, .int .u64 0] 24)) = w1 at *
  go_region_held3 (fun w' => w'.cell? ⟨w.heap.size, 0, none⟩ = some (.int .u64 (lm a 0)) ∧ w'.cell? ⟨w.heap.size, 1, none⟩ = some (.int .u64 (lm a 1)) ∧ w'.cell? ⟨w.heap.size, 2, none⟩ = some (.int .u64 (lm a 2)) ∧ w'.cell? ⟨w.heap.size, 3, none⟩ = some (.int .u64 (lm a 3)) ∧ w'.cell? ⟨w.heap.size + 1, 0, none⟩ = some (.int .u64 (lm b 0)) ∧ w'.cell? ⟨w.heap.size + 1, 1, none⟩ = some (.int .u64 (lm b 1)) ∧ w'.cell? ⟨w.heap.size + 1, 2, none⟩ = some (.int .u64 (lm b 2)) ∧ w'.cell? ⟨w.heap.size + 1, 3, none⟩ = some (.int .u64 (lm b 3)) ∧ w'.cell? ⟨w.heap.size + 1 + 1, 0, none⟩ = some (.int .u64 (lm d 0)) ∧ w'.cell? ⟨w.heap.size + 1 + 1, 1, none⟩ = some (.int .u64 (lm d 1)) ∧ w'.cell? ⟨w.heap.size + 1 + 1, 2, none⟩ = some (.int .u64 (lm d 2)) ∧ w'.cell? ⟨w.heap.size + 1 + 1, 3, none⟩ = some (.int .u64 (lm d 3))) (first | with_reducible exact held12 (A.out) (C.out) (D.out) | with_reducible exact held12 (A.out.drew) (C.out.drew) (D.out.drew) | with_reducible exact held12 (A.out.past _) (C.out.past _) (D.out.past _) | with_reducible exact held12 ((A.out.put8o (by omega))) ((C.out.put8o (by omega))) ((D.out.put8o (by omega))) | with_reducible exact held12 ((A.out.put8o (by omega)).put4o (by omega)) ((C.out.put8o (by omega)).put4o (by omega)) ((D.out.put8o (by omega)).put4o (by omega)) | with_reducible exact held12 ((A.out.put4o (by omega)).put8o (by omega)) ((C.out.put4o (by omega)).put8o (by omega)) ((D.out.put4o (by omega)).put8o (by omega)) | with_reducible exact held12 ((A.out.put4o (by omega)).past _) ((C.out.put4o (by omega)).past _) ((D.out.put4o (by omega)).past _) | with_reducible exact held12 ((A.out.past _).drew) ((C.out.past _).drew) ((D.out.past _).drew) | with_reducible exact held12 ((A.out.put4o (by omega))) ((C.out.put4o (by omega))) ((D.out.put4o (by omega))))
    (first | (go_at_call 8; refine (product_any a b _ HA.out HB.out).mono ?_; rintro e w2 ⟨rfl, hb2⟩; (first | (replace A := hide (A.out.after hb2 rfl); replace C := hide (C.out.after hb2 rfl); replace D := hide (D.out.after hb2 rfl); replace Q := hide (Q.out.after hb2 rfl); replace R := hide (R.out.after hb2 rfl); (try replace W := hide (W.out.after hb2 rfl)); replace B := hide (by first | exact bOn B.out hb2 | exact bOn B.out.drew hb2)) | (have W := hide (((LRow.new8 w1.drew 0 0 0 0 0 0 0 0 27 (g := w1.heap.size) rfl).congr (lit_zero (by simp) 8)).after hb2 rfl); have sw := R.out.lt; replace A := hide ((A.out.past _).after hb2 rfl); replace C := hide ((C.out.past _).after hb2 rfl); replace D := hide ((D.out.past _).after hb2 rfl); replace Q := hide ((Q.out.past _).after hb2 rfl); replace R := hide ((R.out.past _).after hb2 rfl); replace B := hide (by first | exact bOn (bAl B.out) hb2 | exact bOn (bAl B.out.drew) hb2 | exact bOn (bAl B.out).drew hb2)) | (have W := hide (((LRow.new8 w1 0 0 0 0 0 0 0 0 27 rfl).congr (lit_zero (by simp) 8)).after hb2 rfl); have sw := R.out.lt; replace A := hide ((A.out.past _).after hb2 rfl); replace C := hide ((C.out.past _).after hb2 rfl); replace D := hide ((D.out.past _).after hb2 rfl); replace Q := hide ((Q.out.past _).after hb2 rfl); replace R := hide ((R.out.past _).after hb2 rfl); replace B := hide (by first | exact bOn (bAl B.out) hb2 | exact bOn (bAl B.out.drew) hb2 | exact bOn (bAl B.out).drew hb2))); clear hb2) | (go_at_call 13; refine (divide_any (a * b) d _ (product_wd HA.out HB.out) HD.out).mono ?_; rintro e w3 ⟨q, r, c, rfl, DD, hb3⟩; (first | (replace A := hide (A.out.after hb3 rfl); replace C := hide (C.out.after hb3 rfl); replace D := hide (D.out.after hb3 rfl); replace Q := hide (Q.out.after hb3 rfl); replace R := hide (R.out.after hb3 rfl); (try replace W := hide (W.out.after hb3 rfl)); replace B := hide (by first | exact bOn B.out hb3 | exact bOn B.out.drew hb3)) | (have W := hide (((LRow.new8 w2 0 0 0 0 0 0 0 0 27 rfl).congr (lit_zero (by simp) 8)).after hb3 rfl); have sw := R.out.lt; replace A := hide ((A.out.past _).after hb3 rfl); replace C := hide ((C.out.past _).after hb3 rfl); replace D := hide ((D.out.past _).after hb3 rfl); replace Q := hide ((Q.out.past _).after hb3 rfl); replace R := hide ((R.out.past _).after hb3 rfl); replace B := hide (by first | exact bOn (bAl B.out) hb3 | exact bOn (bAl B.out.drew) hb3))); clear hb3; obtain ⟨rl, r0, r1, r2, r3, rf⟩ := R.out.own; (try (have wl := W.out.lt; have v0 := W.out.cell 0 (by omega); have v1 := W.out.cell 1 (by omega); have v2 := W.out.cell 2 (by omega); have v3 := W.out.cell 3 (by omega); have v4 := W.out.cell 4 (by omega); have v5 := W.out.cell 5 (by omega); have v6 := W.out.cell 6 (by omega); have v7 := W.out.cell 7 (by omega); have wf := W.out.fr))))
  all_goals
    clear r0 r1 r2 r3 rf rl A C D
    first
      | (clear wl wf v0 v1 v2 v3 v4 v5 v6 v7; replace W := hide (((W.out.put8 q).put4o (g' := (w.heap.size + 1 + 1 + 1 + 1)) (a := lm r 0) (b := lm r 1) (c := lm r 2) (d := lm r 3) (by omega))); replace Q := hide ((Q.out.put8o (g' := w2.heap.size) (a := lm q 0) (b := lm q 1) (c := lm q 2) (d := lm q 3) (e := lm q 4) (x := lm q 5) (y := lm q 6) (z := lm q 7) (by omega)).put4o (g' := (w.heap.size + 1 + 1 + 1 + 1)) (a := lm r 0) (b := lm r 1) (c := lm r 2) (d := lm r 3) (by omega)); replace R := hide ((((R.out.put8o (g' := w2.heap.size) (a := lm q 0) (b := lm q 1) (c := lm q 2) (d := lm q 3) (e := lm q 4) (x := lm q 5) (y := lm q 6) (z := lm q 7) (by omega)).own.put (lm r 0) (lm r 1) (lm r 2) (lm r 3)).row).congr (lit_lm4 r)); replace B := hide (put_below (g := (w.heap.size + 1 + 1 + 1 + 1)) (x := lm r 0) (y := lm r 1) (z := lm r 2) (u := lm r 3) (put8_below (g := w2.heap.size) q B.out (by omega)) (by omega)); generalize w2.heap.size = gw at *; unfold put4 put8 at W Q R B; generalize ((((((((((((w3.setCell ⟨gw, 0, none⟩ (.int .u64 (lm q 0))).setCell ⟨gw, 1, none⟩ (.int .u64 (lm q 1))).setCell ⟨gw, 2, none⟩ (.int .u64 (lm q 2))).setCell ⟨gw, 3, none⟩ (.int .u64 (lm q 3))).setCell ⟨gw, 4, none⟩ (.int .u64 (lm q 4))).setCell ⟨gw, 5, none⟩ (.int .u64 (lm q 5))).setCell ⟨gw, 6, none⟩ (.int .u64 (lm q 6))).setCell ⟨gw, 7, none⟩ (.int .u64 (lm q 7))).setCell ⟨(w.heap.size + 1 + 1 + 1 + 1), 0, none⟩ (.int .u64 (lm r 0))).setCell ⟨(w.heap.size + 1 + 1 + 1 + 1), 1, none⟩ (.int .u64 (lm r 1))).setCell ⟨(w.heap.size + 1 + 1 + 1 + 1), 2, none⟩ (.int .u64 (lm r 2))).setCell ⟨(w.heap.size + 1 + 1 + 1 + 1), 3, none⟩ (.int .u64 (lm r 3))) = w4 at *)
      | (clear wl wf v0 v1 v2 v3 v4 v5 v6 v7; replace W := hide (((W.out.put8 q).put4o (g' := (w.heap.size + 1 + 1 + 1 + 1)) (a := lm r 0) (b := lm r 1) (c := lm r 2) (d := lm r 3) (by omega))); replace Q := hide ((Q.out.put8o (g' := w1.heap.size) (a := lm q 0) (b := lm q 1) (c := lm q 2) (d := lm q 3) (e := lm q 4) (x := lm q 5) (y := lm q 6) (z := lm q 7) (by omega)).put4o (g' := (w.heap.size + 1 + 1 + 1 + 1)) (a := lm r 0) (b := lm r 1) (c := lm r 2) (d := lm r 3) (by omega)); replace R := hide ((((R.out.put8o (g' := w1.heap.size) (a := lm q 0) (b := lm q 1) (c := lm q 2) (d := lm q 3) (e := lm q 4) (x := lm q 5) (y := lm q 6) (z := lm q 7) (by omega)).own.put (lm r 0) (lm r 1) (lm r 2) (lm r 3)).row).congr (lit_lm4 r)); replace B := hide (put_below (g := (w.heap.size + 1 + 1 + 1 + 1)) (x := lm r 0) (y := lm r 1) (z := lm r 2) (u := lm r 3) (put8_below (g := w1.heap.size) q B.out (by omega)) (by omega)); generalize w1.heap.size = gw at *; unfold put4 put8 at W Q R B; generalize ((((((((((((w3.setCell ⟨gw, 0, none⟩ (.int .u64 (lm q 0))).setCell ⟨gw, 1, none⟩ (.int .u64 (lm q 1))).setCell ⟨gw, 2, none⟩ (.int .u64 (lm q 2))).setCell ⟨gw, 3, none⟩ (.int .u64 (lm q 3))).setCell ⟨gw, 4, none⟩ (.int .u64 (lm q 4))).setCell ⟨gw, 5, none⟩ (.int .u64 (lm q 5))).setCell ⟨gw, 6, none⟩ (.int .u64 (lm q 6))).setCell ⟨gw, 7, none⟩ (.int .u64 (lm q 7))).setCell ⟨(w.heap.size + 1 + 1 + 1 + 1), 0, none⟩ (.int .u64 (lm r 0))).setCell ⟨(w.heap.size + 1 + 1 + 1 + 1), 1, none⟩ (.int .u64 (lm r 1))).setCell ⟨(w.heap.size + 1 + 1 + 1 + 1), 2, none⟩ (.int .u64 (lm r 2))).setCell ⟨(w.heap.size + 1 + 1 + 1 + 1), 3, none⟩ (.int .u64 (lm r 3))) = w4 at *)
      | (have sw : w.heap.size + 1 + 1 + 1 + 1 < w3.heap.size := R.out.lt; have W := hide ((LRow.new8 (put4 w3 (w.heap.size + 1 + 1 + 1 + 1) (lm r 0) (lm r 1) (lm r 2) (lm r 3)) (lm q 0) (lm q 1) (lm q 2) (lm q 3) (lm q 4) (lm q 5) (lm q 6) (lm q 7) 27 (g := w3.heap.size) (put4_size _ _ _ _ _ _)).congr (lit_lm8 q)); replace Q := hide ((Q.out.put4o (g' := (w.heap.size + 1 + 1 + 1 + 1)) (a := lm r 0) (b := lm r 1) (c := lm r 2) (d := lm r 3) (by omega)).past (.cells #[.int .u64 (lm q 0), .int .u64 (lm q 1), .int .u64 (lm q 2), .int .u64 (lm q 3), .int .u64 (lm q 4), .int .u64 (lm q 5), .int .u64 (lm q 6), .int .u64 (lm q 7)] 27)); replace R := hide ((((R.out.own.put (lm r 0) (lm r 1) (lm r 2) (lm r 3)).row).congr (lit_lm4 r)).past (.cells #[.int .u64 (lm q 0), .int .u64 (lm q 1), .int .u64 (lm q 2), .int .u64 (lm q 3), .int .u64 (lm q 4), .int .u64 (lm q 5), .int .u64 (lm q 6), .int .u64 (lm q 7)] 27)); replace B := hide (bAl (o := .cells #[.int .u64 (lm q 0), .int .u64 (lm q 1), .int .u64 (lm q 2), .int .u64 (lm q 3), .int .u64 (lm q 4), .int .u64 (lm q 5), .int .u64 (lm q 6), .int .u64 (lm q 7)] 27) (put_below (g := (w.heap.size + 1 + 1 + 1 + 1)) (x := lm r 0) (y := lm r 1) (z := lm r 2) (u := lm r 3) B.out (by omega))); generalize w3.heap.size = gw at *; generalize (put4 w3 (w.heap.size + 1 + 1 + 1 + 1) (lm r 0) (lm r 1) (lm r 2) (lm r 3)).alloc (.cells #[.int .u64 (lm q 0), .int .u64 (lm q 1), .int .u64 (lm q 2), .int .u64 (lm q 3), .int .u64 (lm q 4), .int .u64 (lm q 5), .int .u64 (lm q 6), .int .u64 (lm q 7)] 27) = w4 at *)
  all_goals
    rcases DD.out with ⟨hd0, hq, hr, rfl⟩ | ⟨hd0, hq, hr, rfl⟩
    · have M : Hid (Md a b d 0 0 3) := .inl ⟨hd0, rfl, rfl, rfl⟩
      clear hq hr hd0
      have G0 := hide big_zero
      obtain ⟨_, q0, q1, q2, q3, qf⟩ := Q.out.own
      obtain ⟨_, r0, r1, r2, r3, rf⟩ := R.out.own
      clear DD
      go_wp2
      refine bodyPost_ret (v := .tuple #[.agg #[.int .u64 0, .int .u64 0, .int .u64 0, .int .u64 0], .agg #[.int .u64 0, .int .u64 0, .int .u64 0, .int .u64 0], .int .i64 3]) ?_ rfl ⟨0, 0, 3, ?_, M, ?_⟩
      · simp [results, Try.results32, go_sem, *]
      · rw [G0.out]
      · exact put_below (put_below B.out (by omega)) (by omega)
    · have HQ := hide hq; have HR := hide hr; have H0 := hide hd0
      clear hq hr hd0 DD
      go_wp2
      go_region_law (first | (refine step_copy_rows rfl (.tmp 25) (.tmp 26) rfl (w.heap.size + 1 + 1 + 1) gw 0 0 4 4 8 8 4 8 4 (fun _ => 0) (lm q) rfl rfl (by first | exact Q.out | exact Q.out.drew) (by first | exact W.out | exact W.out.drew) rfl (by omega) (by omega) ?_; intro w5 q1 hb5))
      replace R := hide (R.out.bar hb5 (by omega) rfl)
      replace W := hide (W.out.bar hb5 (by omega) rfl)
      have s1 := Q.out.lt
      replace B := hide (hb5.below B.out.drew (by omega) (by simp only [World.drew]; omega))
      replace Q := hide (q1.congr (laid_low (lm q)))
      clear hb5 s1 q1
      go_wp2
      obtain ⟨gl, hgl⟩ : ∃ g, Hid (w5.heap.size = g) := ⟨_, rfl⟩
      have sl : gw < gl := by rw [← hgl.out]; exact W.out.lt
      have L := hide ((LRow.new8 w5 0 0 0 0 0 0 0 0 27 hgl.out).congr (lit_zero (by simp) 8))
      replace R := hide (R.out.past (.cells #[.int .u64 0, .int .u64 0, .int .u64 0, .int .u64 0, .int .u64 0, .int .u64 0, .int .u64 0, .int .u64 0] 27))
      replace W := hide (W.out.past (.cells #[.int .u64 0, .int .u64 0, .int .u64 0, .int .u64 0, .int .u64 0, .int .u64 0, .int .u64 0, .int .u64 0] 27))
      replace Q := hide (Q.out.past (.cells #[.int .u64 0, .int .u64 0, .int .u64 0, .int .u64 0, .int .u64 0, .int .u64 0, .int .u64 0, .int .u64 0] 27))
      replace B := hide (bAl (o := .cells #[.int .u64 0, .int .u64 0, .int .u64 0, .int .u64 0, .int .u64 0, .int .u64 0, .int .u64 0, .int .u64 0] 27) B.out)
      rw [hgl.out]
      generalize w5.alloc (.cells #[.int .u64 0, .int .u64 0, .int .u64 0, .int .u64 0, .int .u64 0, .int .u64 0, .int .u64 0, .int .u64 0] 27) = w6 at *
      clear hgl
      go_region_law (first | (refine step_copy_rows rfl (.tmp 28) (.tmp 29) rfl gl (w.heap.size + 1 + 1 + 1) 0 0 8 8 4 4 8 4 4 (fun _ => 0) (lm q) rfl rfl (by first | exact L.out | exact L.out.drew) (by first | exact Q.out | exact Q.out.drew) rfl (by omega) (by omega) ?_; intro w7 l1 hb7))
      replace R := hide (R.out.bar hb7 (by omega) rfl)
      replace W := hide (W.out.bar hb7 (by omega) rfl)
      replace Q := hide (Q.out.bar hb7 (by omega) rfl)
      have s1 := L.out.lt
      replace B := hide (hb7.below B.out.drew (by omega) (by simp only [World.drew]; omega))
      replace L := hide (l1.congr (g := gl) (low_of q))
      clear hb7 s1 l1
      have v0 := W.out.cell 0 (by omega); have v1 := W.out.cell 1 (by omega); have v2 := W.out.cell 2 (by omega); have v3 := W.out.cell 3 (by omega); have v4 := W.out.cell 4 (by omega); have v5 := W.out.cell 5 (by omega); have v6 := W.out.cell 6 (by omega); have v7 := W.out.cell 7 (by omega)
      have l0 := L.out.cell 0 (by omega); have l1 := L.out.cell 1 (by omega); have l2 := L.out.cell 2 (by omega); have l3 := L.out.cell 3 (by omega); have l4 := L.out.cell 4 (by omega); have l5 := L.out.cell 5 (by omega); have l6 := L.out.cell 6 (by omega); have l7 := L.out.cell 7 (by omega)
      simp only [lit, List.getD_cons_zero, List.getD_cons_succ] at l0 l1 l2 l3 l4 l5 l6 l7
      obtain ⟨_, q0, q1, q2, q3, qf⟩ := Q.out.own
      obtain ⟨_, r0, r1, r2, r3, rf⟩ := R.out.own
      have HW : Hid (Wd q) := by
        have h := product_wd HA.out HB.out
        have hdp : 0 < d := by have h1 := HD.out; have h2 := H0.out; unfold In at h1; omega
        rw [HQ.out]
        exact ⟨Int.ediv_nonneg h.1 (Int.le_of_lt hdp), Int.lt_of_le_of_lt (Int.ediv_le_self _ h.1) h.2⟩
      by_cases hin : In q
      · have s8 := same_low hin
        have HI := hide hin
        clear hin
        go_wp2
        go_region
        go_wp2
        refine bodyPost_ret (v := .tuple #[big q, big r, .int .i64 0]) ?_ rfl ⟨q, r, 0, rfl, ?_, ?_⟩
        · simp [results, Try.results32, go_sem, *]
        · exact .inr (.inr ⟨H0.out, by rw [← HQ.out]; exact HI.out, HQ.out, HR.out, rfl⟩)
        · exact Below.drew (put_below (put_below B.out (by omega)) (by omega))
      · have s8 := same_over HW.out hin
        have HI := hide hin
        have G0 := hide big_zero
        clear hin
        go_wp2
        refine bodyPost_ret (v := .tuple #[.agg #[.int .u64 0, .int .u64 0, .int .u64 0, .int .u64 0], .agg #[.int .u64 0, .int .u64 0, .int .u64 0, .int .u64 0], .int .i64 2]) ?_ rfl ⟨0, 0, 2, ?_, ?_, ?_⟩
        · simp [results, Try.results32, go_sem, *]
        · rw [G0.out]
        · exact .inr (.inl ⟨H0.out, by rw [← HQ.out]; exact HI.out, rfl, rfl, rfl⟩)
        · exact put_below (put_below B.out (by omega)) (by omega)
end Go.Proofs.Ytlmjbpmpedlhlaa
