/- The walk of sponsionlaw11.ProofOne over this translation (written by gen-proofonelaw.py). -/
import Derived.Test.YtjkhboejhcbdpaaDoorProofClimb
import Derived.Test.YtjkhboejhcbdpaaDoorProofCollides
import Derived.Test.YtjkhboejhcbdpaaDoorProofLives
import Derived.Test.YtjkhboejhcbdpaaDoorRef10
import Derived.Test.YtjkhboejhcbdpaaDoorClassy
import Derived.OpenShut
namespace Go.Proofs.YtjkhboejhcbdpaaDoor
open Go.RowKit Go.Lib
attribute [local go_sem] setCell_drewN alloc_drewN eqHash sameH_self

/-- A proof with nothing from a level on, written so far. -/
def cutP (P : Pf) (d k : Nat) : Pf := fun j => if d ≤ j ∧ j < k then hz else P j
theorem cutP_start (P : Pf) (d : Nat) : cutP P d d = P := by funext j; unfold cutP; rw [if_neg (by omega)]
theorem cutP_next (P : Pf) (d k : Nat) (h : d ≤ k) : cutP P d (k + 1) = updP (cutP P d k) k hz := by
  funext j
  unfold cutP updP
  by_cases e : j = k
  · rw [if_pos e, if_pos (by omega)]
  · simp only [if_neg e]
    by_cases e2 : d ≤ j ∧ j < k
    · rw [if_pos e2, if_pos (by omega)]
    · rw [if_neg e2, if_neg (by omega)]
theorem cutP_ok {P : Pf} (h : Pok P) (d k : Nat) : Pok (cutP P d k) := by
  intro j; unfold cutP; split
  · exact pz_ok j
  · exact h j
theorem cutP_end (P : Pf) (d : Nat) : endB (cutP P d 32) d = true := (endB_iff _ _).2 fun k h1 h2 => by
  have : cutP P d 32 k = hz := by unfold cutP; rw [if_pos ⟨h1, h2⟩]
  rw [this]; exact sameH_self _
set_option maxRecDepth 100000 in
set_option maxHeartbeats 8000000 in
theorem proofOne_walk (a i : Int) (x y : Hs) (P R : Pf) (w : World) (ha : (Lit.int .u8 a).wf = true) (hi : (Lit.int .u64 i).wf = true) (hx : ∀ j, 0 ≤ x j ∧ x j < 256) (hy : ∀ j, 0 ≤ y j ∧ y j < 256) (hP : Pok P) (hR : Pok R)
    (ht : Tab w 1) :
    Calls Tryd.prog 6 #[.int .u8 a, .int .u64 i, .agg (rowV 32 x).toArray, .agg (rowV 32 y).toArray, .agg (rowV 1024 (pc P)).toArray, .agg (rowV 1024 (pc R)).toArray] w fun e w' => e = .returned (.bool true) ∧ Below w.heap.size w w' := by
  have HT := hide ht; have HX := hide hx; have HY := hide hy; have HPO := hide hP; have HRO := hide hR
  obtain ⟨a0, a1⟩ := Go.bounds_u8 ha
  obtain ⟨i0, i1⟩ := Go.bounds_u64 hi
  obtain ⟨d, hd⟩ : ∃ d : Nat, a % 33 = (d : Int) := ⟨(a % 33).toNat, by omega⟩
  have hd32 : d ≤ 32 := by omega
  have hdi : (d : Int) ≤ 32 := by omega
  have HD := hide hd32
  have hwd : IntKind.i64.wrap (d : Int) = (d : Int) := by rw [IntKind.wrap_i64]; omega
  obtain ⟨p, hp⟩ : ∃ p : Nat, 2 ^ d = p := ⟨_, rfl⟩
  have hpp : 0 < p := by rw [← hp]; exact Nat.two_pow_pos d
  obtain ⟨k, hk⟩ : ∃ k : Nat, i % (p : Int) = (k : Int) := ⟨(i % (p : Int)).toNat, by have := Int.emod_nonneg i (show (p : Int) ≠ 0 by omega); omega⟩
  have hkl : k < p := by have := Int.emod_lt_of_pos i (show (0 : Int) < (p : Int) by omega); omega
  have h32 : 2 ^ d ≤ 2 ^ 32 := Nat.pow_le_pow_right (by omega) hd32
  have HKL : Hid (k < 2 ^ d) := by show _ < _; rw [hp]; exact hkl
  have HKI : Hid (k ≤ 18446744073709551615) := by show _ ≤ _; omega
  have HP := hide hp
  have hpi : 0 < (p : Int) := by omega
  have hpn : ¬ (p : Int) = 0 := by omega
  have E0 : Hid (Bxs w ((((w.alloc (.cells (rowV 32 x).toArray 28)).alloc (.cells (rowV 32 y).toArray 28)).alloc (.cells (rowV 1024 (pc P)).toArray 29)).alloc (.cells (rowV 1024 (pc R)).toArray 29)) [(w.heap.size + 3, 1024, pc R), (w.heap.size + 2, 1024, pc P), (w.heap.size + 1, 32, y), (w.heap.size, 32, x)]) :=
    ((((Bxs.none w).add rfl (BRow.box w 32 x _ rfl)).add (by simp) (BRow.box _ 32 y _ (by simp))).add (by simp) (BRow.box _ 1024 (pc P) _ (by simp))).add (by simp) (BRow.box _ 1024 (pc R) _ (by simp))
  clear ht hx hy hP hR ha hi hp hkl h32 hd32 hpp
  go_enter Tryd.func6, Tryd.ntmps6
  go_wp2_with fail
  generalize (((w.alloc (.cells (rowV 32 x).toArray 28)).alloc (.cells (rowV 32 y).toArray 28)).alloc (.cells (rowV 1024 (pc P)).toArray 29)).alloc (.cells (rowV 1024 (pc R)).toArray 29) = w1 at *
  refine (lives11_any (HT.out.below E0.out.below)).mono ?_
  rintro e w2 ⟨rfl, hb⟩
  replace E0 := hide (E0.out.after hb)
  clear hb
  go_wp2_with fail
  clear hd
  obtain ⟨m, hm⟩ : ∃ m, m + d = 32 := ⟨32 - d, by have := HD.out; omega⟩
  go_loopg [14] m (fun gk t wr => ∃ c : Nat, gk + c = 32 ∧ d ≤ c ∧ t = .int .i64 c ∧ Bxs w wr [(w.heap.size + 3, 1024, pc (cutP R d c)), (w.heap.size + 2, 1024, pc (cutP P d c)), (w.heap.size + 1, 32, y), (w.heap.size, 32, x)])
  case atStart => exact ⟨d, hm, Nat.le_refl _, by first | rfl | go_num, by rw [cutP_start, cutP_start]; exact E0.out⟩
  case round =>
    clear E0 hm
    obtain ⟨c, hc, hdc, rfl, he⟩ := hrel
    have HC := hide hc; have E := hide he; have HDC := hide hdc
    clear hc he hdc
    by_cases hlt : c < 32
    · have hci : (c : Int) < 32 := by omega
      have hcn : ¬ (32 : Int) ≤ (c : Int) := by omega
      go_wp2_with (refine wpList_store_stop rfl 28 _ _ rfl (w.heap.size + 2) (c * 32) (rowV 32 hz) rfl rfl ((E.out.get 1 rfl).thereAt (c * 32) 32 hz (by omega)) (info_hash32A hz) (rowV_oneA _ _) ?_)
      intro w3 hw3
      have E3 : Hid (Bxs w w3 [(w.heap.size + 3, 1024, pc (cutP R d c)), (w.heap.size + 2, 1024, pc (cutP P d (c + 1))), (w.heap.size + 1, 32, y), (w.heap.size, 32, x)]) := by
        show Bxs _ _ _
        rw [hw3.out]
        exact E.out.putAt 1 rfl (c * 32) 32 hz (pc (cutP P d (c + 1))) (by omega) (fun j hj => by rw [cutP_next P d c HDC.out]; exact pc_upd _ _ _ j)
      clear hw3 E
      go_wp2_with (refine wpList_store_stop rfl 28 _ _ rfl (w.heap.size + 3) (c * 32) (rowV 32 hz) rfl rfl ((E3.out.get 0 rfl).thereAt (c * 32) 32 hz (by omega)) (info_hash32A hz) (rowV_oneA _ _) ?_)
      intro w4 hw4
      have E4 : Hid (Bxs w w4 [(w.heap.size + 3, 1024, pc (cutP R d (c + 1))), (w.heap.size + 2, 1024, pc (cutP P d (c + 1))), (w.heap.size + 1, 32, y), (w.heap.size, 32, x)]) := by
        show Bxs _ _ _
        rw [hw4.out]
        exact E3.out.putAt 0 rfl (c * 32) 32 hz (pc (cutP R d (c + 1))) (by omega) (fun j hj => by rw [cutP_next R d c HDC.out]; exact pc_upd _ _ _ j)
      clear hw4 E3
      go_wp2
      go_roundg (gk - 1)
      case measure => have := HC.out; omega
      case rel => exact ⟨c + 1, by have := HC.out; omega, by have := HDC.out; omega, by go_num, E4.out⟩
    · obtain rfl : c = 32 := by have := HC.out; have := HDC.out; omega
      obtain ⟨P2, hP2⟩ : ∃ P2, cutP P d 32 = P2 := ⟨_, rfl⟩
      obtain ⟨R2, hR2⟩ : ∃ R2, cutP R d 32 = R2 := ⟨_, rfl⟩
      have HPO2 : Hid (Pok P2) := by rw [← hP2]; exact cutP_ok HPO.out d 32
      have HRO2 : Hid (Pok R2) := by rw [← hR2]; exact cutP_ok HRO.out d 32
      have EP : Hid (endB P2 d = true) := by rw [← hP2]; exact cutP_end P d
      have ER : Hid (endB R2 d = true) := by rw [← hR2]; exact cutP_end R d
      rw [hP2, hR2] at E
      clear hP2 hR2 HC HDC hlt HPO HRO
      go_wp2_with (first
        | (go_at_call 17; refine (places_yes d 0 HD.out (Nat.zero_le _)).mono ?_; rintro e8 w8 ⟨rfl, hw8⟩; have hw9 := hw8.symm; clear hw8; subst hw9; rw [Nat.sub_zero, HP.out])
        | refine wpList_load_mid rfl 29 _ rfl (w.heap.size + 2) 0 rfl (rowV 1024 (pc P2)) _ (E.out.get 1 rfl).range Tryd.underlying29 rfl (info_pf _) ?_
        | refine wpList_load_mid rfl 28 _ rfl (w.heap.size) 0 rfl (rowV 32 x) _ (E.out.get 3 rfl).range Tryd.underlying28 rfl (info_hash32 _) ?_)
      have h0 := climb_any (w := _) (d : Int) k x P2 (by omega) (by omega) HKI.out HX.out HPO2.out (HT.out.below E.out.below)
      rw [ch_ok HD.out HKL.out EP.out, ce_ok HD.out HKL.out EP.out] at h0
      refine h0.mono ?_
      clear h0
      rintro e w3 ⟨rfl, hb⟩
      replace E := hide (E.out.after hb)
      clear hb
      obtain ⟨X, hX⟩ : ∃ X, cl k P2 x d = X := ⟨_, rfl⟩
      have HXX := hide hX
      rw [hX]
      clear hX
      have E1 : Hid (Bxs w (w3.alloc (.cells #[.int .u8 0, .int .u8 0, .int .u8 0, .int .u8 0, .int .u8 0, .int .u8 0, .int .u8 0, .int .u8 0, .int .u8 0, .int .u8 0, .int .u8 0, .int .u8 0, .int .u8 0, .int .u8 0, .int .u8 0, .int .u8 0, .int .u8 0, .int .u8 0, .int .u8 0, .int .u8 0, .int .u8 0, .int .u8 0, .int .u8 0, .int .u8 0, .int .u8 0, .int .u8 0, .int .u8 0, .int .u8 0, .int .u8 0, .int .u8 0, .int .u8 0, .int .u8 0] 28)) [(w3.heap.size, 32, fun _ => 0), (w.heap.size + 3, 1024, pc R2), (w.heap.size + 2, 1024, pc P2), (w.heap.size + 1, 32, y), (w.heap.size, 32, x)]) := E.out.new (BRow.zeros32 w3 rfl)
      go_wp2_with (refine wpList_store_stop rfl 28 _ _ rfl (w3.heap.size) 0 (rowV 32 X) rfl rfl ((E1.out.get 0 rfl).thereA X) (info_hash32A X) (rowV_oneA _ _) ?_)
      intro w4 hw4
      replace E : Hid (Bxs w w4 [(w3.heap.size, 32, X), (w.heap.size + 3, 1024, pc R2), (w.heap.size + 2, 1024, pc P2), (w.heap.size + 1, 32, y), (w.heap.size, 32, x)]) := by
        show Bxs _ _ _
        rw [hw4.out]; exact E1.out.put 0 rfl X
      clear hw4 E1
      generalize w3.heap.size = g at *
      go_wp2_with (first
        | refine wpList_load_mid rfl 29 _ rfl (w.heap.size + 3) 0 rfl (rowV 1024 (pc R2)) _ (E.out.get 1 rfl).range Tryd.underlying29 rfl (info_pf _) ?_
        | refine wpList_load_mid rfl 28 _ rfl (w.heap.size + 1) 0 rfl (rowV 32 y) _ (E.out.get 3 rfl).range Tryd.underlying28 rfl (info_hash32 _) ?_)
      have h0 := climb_any (w := _) (d : Int) k y R2 (by omega) (by omega) HKI.out HY.out HRO2.out (HT.out.below E.out.below)
      rw [ch_ok HD.out HKL.out ER.out, ce_ok HD.out HKL.out ER.out] at h0
      refine h0.mono ?_
      clear h0
      rintro e w5 ⟨rfl, hb⟩
      replace E := hide (E.out.after hb)
      clear hb
      obtain ⟨Y, hY⟩ : ∃ Y, cl k R2 y d = Y := ⟨_, rfl⟩
      have HYY := hide hY
      rw [hY]
      clear hY
      have E1 : Hid (Bxs w (w5.alloc (.cells #[.int .u8 0, .int .u8 0, .int .u8 0, .int .u8 0, .int .u8 0, .int .u8 0, .int .u8 0, .int .u8 0, .int .u8 0, .int .u8 0, .int .u8 0, .int .u8 0, .int .u8 0, .int .u8 0, .int .u8 0, .int .u8 0, .int .u8 0, .int .u8 0, .int .u8 0, .int .u8 0, .int .u8 0, .int .u8 0, .int .u8 0, .int .u8 0, .int .u8 0, .int .u8 0, .int .u8 0, .int .u8 0, .int .u8 0, .int .u8 0, .int .u8 0, .int .u8 0] 28)) [(w5.heap.size, 32, fun _ => 0), (g, 32, X), (w.heap.size + 3, 1024, pc R2), (w.heap.size + 2, 1024, pc P2), (w.heap.size + 1, 32, y), (w.heap.size, 32, x)]) := E.out.new (BRow.zeros32 w5 rfl)
      go_wp2_with (refine wpList_store_stop rfl 28 _ _ rfl (w5.heap.size) 0 (rowV 32 Y) rfl rfl ((E1.out.get 0 rfl).thereA Y) (info_hash32A Y) (rowV_oneA _ _) ?_)
      intro w6 hw6
      replace E : Hid (Bxs w w6 [(w5.heap.size, 32, Y), (g, 32, X), (w.heap.size + 3, 1024, pc R2), (w.heap.size + 2, 1024, pc P2), (w.heap.size + 1, 32, y), (w.heap.size, 32, x)]) := by
        show Bxs _ _ _
        rw [hw6.out]; exact E1.out.put 0 rfl Y
      clear hw6 E1
      generalize w5.heap.size = g5 at *
      go_wp2_with (first
        | refine wpList_load_mid rfl 28 _ rfl (g) 0 rfl (rowV 32 X) _ (E.out.get 1 rfl).range Tryd.underlying28 rfl (info_hash32 _) ?_
        | (refine wpList_load_mid rfl 28 _ rfl (g5) 0 rfl (rowV 32 Y) _ (E.out.get 0 rfl).range Tryd.underlying28 rfl (info_hash32 _) ?_; refine wpList_stop 63 rfl ?_))
      refine hide ?_
      cases e0 : sameH X Y with
      | false =>
        refine wpList_run (.bool true) (by kernel_rfl) (exec_neqH e0 rfl rfl rfl) ?_
        simp only [Act.put, List.setIfInBounds_toArray, List.set_cons_zero, List.set_cons_succ]
        refine wpList_run (.bool true) (by kernel_rfl) (by kernel_rfl) ?_
        simp only [Act.put, List.setIfInBounds_toArray, List.set_cons_zero, List.set_cons_succ]
        go_big_skip
        refine wpList_run (.bool true) (by kernel_rfl) (by kernel_rfl) ?_
        simp only [Act.put, List.setIfInBounds_toArray, List.set_cons_zero, List.set_cons_succ]
        refine wpList_run (.bool true) (by kernel_rfl) (by kernel_rfl) ?_
        simp only [Act.put, List.setIfInBounds_toArray, List.set_cons_zero, List.set_cons_succ]
        go_big_skip
        refine wpList_run (.bool true) (by kernel_rfl) (by kernel_rfl) ?_
        simp only [Act.put, List.setIfInBounds_toArray, List.set_cons_zero, List.set_cons_succ]
        go_wp2
        go_ret
        exact ⟨rfl, E.out.below⟩
      | true =>
        cases e1 : sameH x y with
        | true =>
          refine wpList_run (.bool false) (by kernel_rfl) (exec_neqH e0 rfl rfl rfl) ?_
          simp only [Act.put, List.setIfInBounds_toArray, List.set_cons_zero, List.set_cons_succ]
          refine wpList_run (.bool false) (by kernel_rfl) (by kernel_rfl) ?_
          simp only [Act.put, List.setIfInBounds_toArray, List.set_cons_zero, List.set_cons_succ]
          refine wpList_load_want 28 _ rfl (w.heap.size) 0 rfl (rowV 32 x) _ (E.out.get 5 rfl).range Tryd.underlying28 rfl (info_hash32 _) (by kernel_rfl) ?_
          simp only [Act.put, List.setIfInBounds_toArray, List.set_cons_zero, List.set_cons_succ]
          refine wpList_load_want 28 _ rfl (w.heap.size + 1) 0 rfl (rowV 32 y) _ (E.out.get 4 rfl).range Tryd.underlying28 rfl (info_hash32 _) (by kernel_rfl) ?_
          simp only [Act.put, List.setIfInBounds_toArray, List.set_cons_zero, List.set_cons_succ]
          refine wpList_run (.bool true) (by kernel_rfl) (exec_eqlH e1 rfl rfl rfl) ?_
          simp only [Act.put, List.setIfInBounds_toArray, List.set_cons_zero, List.set_cons_succ]
          refine wpList_run (.bool true) (by kernel_rfl) (by kernel_rfl) ?_
          simp only [Act.put, List.setIfInBounds_toArray, List.set_cons_zero, List.set_cons_succ]
          refine wpList_run (.bool true) (by kernel_rfl) (by kernel_rfl) ?_
          simp only [Act.put, List.setIfInBounds_toArray, List.set_cons_zero, List.set_cons_succ]
          go_big_skip
          refine wpList_run (.bool true) (by kernel_rfl) (by kernel_rfl) ?_
          simp only [Act.put, List.setIfInBounds_toArray, List.set_cons_zero, List.set_cons_succ]
          go_wp2
          go_ret
          exact ⟨rfl, E.out.below⟩
        | false =>
          refine wpList_run (.bool false) (by kernel_rfl) (exec_neqH e0 rfl rfl rfl) ?_
          simp only [Act.put, List.setIfInBounds_toArray, List.set_cons_zero, List.set_cons_succ]
          refine wpList_run (.bool false) (by kernel_rfl) (by kernel_rfl) ?_
          simp only [Act.put, List.setIfInBounds_toArray, List.set_cons_zero, List.set_cons_succ]
          refine wpList_load_want 28 _ rfl (w.heap.size) 0 rfl (rowV 32 x) _ (E.out.get 5 rfl).range Tryd.underlying28 rfl (info_hash32 _) (by kernel_rfl) ?_
          simp only [Act.put, List.setIfInBounds_toArray, List.set_cons_zero, List.set_cons_succ]
          refine wpList_load_want 28 _ rfl (w.heap.size + 1) 0 rfl (rowV 32 y) _ (E.out.get 4 rfl).range Tryd.underlying28 rfl (info_hash32 _) (by kernel_rfl) ?_
          simp only [Act.put, List.setIfInBounds_toArray, List.set_cons_zero, List.set_cons_succ]
          refine wpList_run (.bool false) (by kernel_rfl) (exec_eqlH e1 rfl rfl rfl) ?_
          simp only [Act.put, List.setIfInBounds_toArray, List.set_cons_zero, List.set_cons_succ]
          refine wpList_run (.bool false) (by kernel_rfl) (by kernel_rfl) ?_
          simp only [Act.put, List.setIfInBounds_toArray, List.set_cons_zero, List.set_cons_succ]
          refine wpList_run (.bool false) (by kernel_rfl) (by kernel_rfl) ?_
          simp only [Act.put, List.setIfInBounds_toArray, List.set_cons_zero, List.set_cons_succ]
          refine wpList_run (.int .i64 (d : Int)) (by kernel_rfl) (by kernel_rfl) ?_
          simp only [Act.put, List.setIfInBounds_toArray, List.set_cons_zero, List.set_cons_succ]
          refine wpList_run (.int .u64 (k : Int)) (by kernel_rfl) (by kernel_rfl) ?_
          simp only [Act.put, List.setIfInBounds_toArray, List.set_cons_zero, List.set_cons_succ]
          refine wpList_load_want 28 _ rfl (w.heap.size) 0 rfl (rowV 32 x) _ (E.out.get 5 rfl).range Tryd.underlying28 rfl (info_hash32 _) (by kernel_rfl) ?_
          simp only [Act.put, List.setIfInBounds_toArray, List.set_cons_zero, List.set_cons_succ]
          refine wpList_load_want 29 _ rfl (w.heap.size + 2) 0 rfl (rowV 1024 (pc P2)) _ (E.out.get 3 rfl).range Tryd.underlying29 rfl (info_pf _) (by kernel_rfl) ?_
          simp only [Act.put, List.setIfInBounds_toArray, List.set_cons_zero, List.set_cons_succ]
          refine wpList_load_want 28 _ rfl (w.heap.size + 1) 0 rfl (rowV 32 y) _ (E.out.get 4 rfl).range Tryd.underlying28 rfl (info_hash32 _) (by kernel_rfl) ?_
          simp only [Act.put, List.setIfInBounds_toArray, List.set_cons_zero, List.set_cons_succ]
          refine wpList_load_want 29 _ rfl (w.heap.size + 3) 0 rfl (rowV 1024 (pc R2)) _ (E.out.get 2 rfl).range Tryd.underlying29 rfl (info_pf _) (by kernel_rfl) ?_
          simp only [Act.put, List.setIfInBounds_toArray, List.set_cons_zero, List.set_cons_succ]
          go_wp2_with fail
          refine (collides_any d k x y P2 R2 HD.out HKI.out HX.out HY.out HPO2.out HRO2.out (HT.out.below E.out.below)).mono ?_
          rintro e w7 ⟨⟨b, rfl, hbt⟩, hb⟩
          obtain rfl := hbt (by rw [HXX.out, HYY.out]; exact e0) e1
          replace E := hide (E.out.after hb)
          clear hb hbt
          go_wp2
          go_ret
          exact ⟨rfl, E.out.below⟩
end Go.Proofs.YtjkhboejhcbdpaaDoor
