/- The contract of sponsionlaw11.fit over this translation (written by gen-prooffit.py). -/
import Derived.Test.YtjkhboejhcbdpaaDoorProofMade
import Derived.Test.YtjkhboejhcbdpaaDoorHand
namespace Go.Proofs.YtjkhboejhcbdpaaDoor
open Go.RowKit Go.Lib
attribute [local go_sem] setCell_drewN alloc_drewN

/-- So many leaves are taken. -/
def fitN (d n : Nat) : Nat := min (min n 30) (2 ^ d)
set_option maxRecDepth 100000 in
set_option maxHeartbeats 8000000 in
theorem fit_any {w : World} (a : Int) (d : Nat) (ha0 : 0 ≤ a) (ha1 : a < 256) (hd : a % 33 = (d : Int)) (ao : Option Addr) (cap : Nat) (L : List Hs) (hcap : L.length ≤ cap) (hmax : cap ≤ maxLen) (hnone : ao = none → cap = 0) :
    Calls Tryd.prog 8 #[.int .u8 a, .slice ao L.length cap] w fun e w' => e = .returned (.tuple #[.int .i64 d, .slice ao (fitN d L.length) cap]) ∧ Below w.heap.size w w' := by
  have hd32 : d ≤ 32 := by omega
  have HD := hide hd32
  have hdi : (d : Int) ≤ 32 := by omega
  unfold maxLen at hmax
  obtain ⟨n, hn⟩ : ∃ n, L.length = n := ⟨_, rfl⟩
  rw [hn] at hcap ⊢
  have hni : (n : Int) ≤ 9223372036854775807 := by omega
  have hwd : IntKind.i64.wrap (d : Int) = (d : Int) := by rw [IntKind.wrap_i64]; omega
  obtain ⟨p, hp⟩ : ∃ p, 2 ^ d = p := ⟨_, rfl⟩
  have HP := hide hp
  have hpi : (p : Int) ≤ 4294967296 := by
    have : 2 ^ d ≤ 2 ^ 32 := Nat.pow_le_pow_right (by omega) hd32
    omega
  have hfit : ∀ m, min (min n 30) p = m → fitN d n = m := fun m e => by rw [← e, ← hp]; rfl
  have HFIT := hide hfit; have HFORM : Hid (ao = none ∨ ∃ b, ao = some b) := (by cases ao; exact .inl rfl; exact .inr ⟨_, rfl⟩); have HNOC := hide hnone
  clear hn hd32 hp hfit hnone
  by_cases h30 : (n : Int) ≤ 30
  · by_cases hqp : (n : Int) ≤ (p : Int)
    · rw [HFIT.out n (by omega)]
      have hmc : (n : Int) ≤ (cap : Int) := by omega
      go_enter Tryd.func8, Tryd.ntmps8
      go_wp2_with fail
      have E : Hid (Below w.heap.size w w.drew) := (bMe w).drew
      refine wp_region_held_drew (S := fun w1 => Below w.heap.size w w1) (by kernel_rfl) E.out (fun _ => ?_)
      refine tk0 (v := .int .i64 (d : Int)) (by kernel_rfl) (by kernel_rfl) (by kernel_rfl) (fun _ _ _ h => h) E.out (Or.inl ⟨by rfl, fun w hw => by go_simp; try (with_reducible rfl)⟩) ?_
      simp only [Act.put, List.setIfInBounds_toArray, List.set_cons_zero, List.set_cons_succ]
      refine tk1 (v := .slice ao n cap) (by kernel_rfl) (by kernel_rfl) (by kernel_rfl) (fun _ _ _ h => h) E.out (Or.inl ⟨by rfl, fun w hw => by go_simp; try (with_reducible rfl)⟩) ?_
      simp only [Act.put, List.setIfInBounds_toArray, List.set_cons_zero, List.set_cons_succ]
      refine tk2 (v := .int .u64 (n : Int)) (by kernel_rfl) (by kernel_rfl) (by kernel_rfl) (fun _ _ _ h => h) E.out (Or.inl ⟨by rfl, fun w hw => by go_simp; try (with_reducible rfl)⟩) ?_
      simp only [Act.put, List.setIfInBounds_toArray, List.set_cons_zero, List.set_cons_succ]
      refine tk3 (v := .int .i64 (d : Int)) (by kernel_rfl) (by kernel_rfl) (by kernel_rfl) (fun _ _ _ h => h) E.out (Or.inl ⟨by rfl, fun w hw => by go_simp; try (with_reducible rfl)⟩) ?_
      simp only [Act.put, List.setIfInBounds_toArray, List.set_cons_zero, List.set_cons_succ]
      refine wpAnyH_ready (rs := [4]) (by kernel_rfl) (by simp) ?_
      refine rd4 (fun K hK => ?_) AllReadyH.nil
      go_simp
      refine (places_yes d 0 HD.out (Nat.zero_le _)).mono ?_
      rintro e w8 ⟨rfl, hw8⟩
      simp only []
      rw [Nat.sub_zero, HP.out]
      replace E : Hid (Below w.heap.size w w8) := by rw [hw8]; exact E.out
      clear hw8
      refine hK.out _ _ E.out (fun _ => ?_)
      clear hK K
      refine tk5 (v := .int .u64 (n : Int)) (by kernel_rfl) (by kernel_rfl) (by kernel_rfl) (fun _ _ _ h => h) E.out (Or.inl ⟨by rfl, fun w hw => by go_simp; all_goals (try (with_reducible rfl)); all_goals (try (intro h; omega))⟩) ?_
      simp only [Act.put, List.setIfInBounds_toArray, List.set_cons_zero, List.set_cons_succ]
      refine tk6 (v := .slice ao n cap) (by kernel_rfl) (by kernel_rfl) (by kernel_rfl) (fun _ _ _ h => h) E.out (Or.inl ⟨by rfl, fun w hw => by rcases HFORM.out with rfl | ⟨b2, rfl⟩; (obtain rfl := HNOC.out rfl; obtain hm0 : n = 0 := (by omega); subst hm0; go_simp; try (with_reducible rfl)); (by_cases hc0 : cap = 0; (subst hc0; obtain hm0 : n = 0 := (by omega); subst hm0; go_simp; try (with_reducible rfl)); (go_simp; try (with_reducible rfl)))⟩) ?_
      simp only [Act.put, List.setIfInBounds_toArray, List.set_cons_zero, List.set_cons_succ]
      refine tk7 (v := .int .i64 (d : Int)) (by kernel_rfl) (by kernel_rfl) (by kernel_rfl) (fun _ _ _ h => h) E.out (Or.inl ⟨by rfl, fun w hw => by go_simp; try (with_reducible rfl)⟩) ?_
      simp only [Act.put, List.setIfInBounds_toArray, List.set_cons_zero, List.set_cons_succ]
      refine tk8 (v := .slice ao n cap) (by kernel_rfl) (by kernel_rfl) (by kernel_rfl) (fun _ _ _ h => h) E.out (Or.inl ⟨by rfl, fun w hw => by go_simp; try (with_reducible rfl)⟩) ?_
      simp only [Act.put, List.setIfInBounds_toArray, List.set_cons_zero, List.set_cons_succ]
      refine wpAnyH_done (by kernel_rfl) ?_ _
      try simp only [Act.put]
      go_wp2
      go_ret2
      exact ⟨rfl, E.out⟩
    · have hqp2 : (p : Int) < (n : Int) := by omega
      clear hqp
      rw [HFIT.out p (by omega)]
      have hmc : (p : Int) ≤ (cap : Int) := by omega
      go_enter Tryd.func8, Tryd.ntmps8
      go_wp2_with fail
      have E : Hid (Below w.heap.size w w.drew) := (bMe w).drew
      refine wp_region_held_drew (S := fun w1 => Below w.heap.size w w1) (by kernel_rfl) E.out (fun _ => ?_)
      refine tk0 (v := .int .i64 (d : Int)) (by kernel_rfl) (by kernel_rfl) (by kernel_rfl) (fun _ _ _ h => h) E.out (Or.inl ⟨by rfl, fun w hw => by go_simp; try (with_reducible rfl)⟩) ?_
      simp only [Act.put, List.setIfInBounds_toArray, List.set_cons_zero, List.set_cons_succ]
      refine tk1 (v := .slice ao n cap) (by kernel_rfl) (by kernel_rfl) (by kernel_rfl) (fun _ _ _ h => h) E.out (Or.inl ⟨by rfl, fun w hw => by go_simp; try (with_reducible rfl)⟩) ?_
      simp only [Act.put, List.setIfInBounds_toArray, List.set_cons_zero, List.set_cons_succ]
      refine tk2 (v := .int .u64 (n : Int)) (by kernel_rfl) (by kernel_rfl) (by kernel_rfl) (fun _ _ _ h => h) E.out (Or.inl ⟨by rfl, fun w hw => by go_simp; try (with_reducible rfl)⟩) ?_
      simp only [Act.put, List.setIfInBounds_toArray, List.set_cons_zero, List.set_cons_succ]
      refine tk3 (v := .int .i64 (d : Int)) (by kernel_rfl) (by kernel_rfl) (by kernel_rfl) (fun _ _ _ h => h) E.out (Or.inl ⟨by rfl, fun w hw => by go_simp; try (with_reducible rfl)⟩) ?_
      simp only [Act.put, List.setIfInBounds_toArray, List.set_cons_zero, List.set_cons_succ]
      refine wpAnyH_ready (rs := [4]) (by kernel_rfl) (by simp) ?_
      refine rd4 (fun K hK => ?_) AllReadyH.nil
      go_simp
      refine (places_yes d 0 HD.out (Nat.zero_le _)).mono ?_
      rintro e w8 ⟨rfl, hw8⟩
      simp only []
      rw [Nat.sub_zero, HP.out]
      replace E : Hid (Below w.heap.size w w8) := by rw [hw8]; exact E.out
      clear hw8
      refine hK.out _ _ E.out (fun _ => ?_)
      clear hK K
      refine tk5 (v := .int .u64 (p : Int)) (by kernel_rfl) (by kernel_rfl) (by kernel_rfl) (fun _ _ _ h => h) E.out (Or.inl ⟨by rfl, fun w hw => by go_simp; all_goals (try (with_reducible rfl)); all_goals (try (intro h; omega))⟩) ?_
      simp only [Act.put, List.setIfInBounds_toArray, List.set_cons_zero, List.set_cons_succ]
      refine tk6 (v := .slice ao p cap) (by kernel_rfl) (by kernel_rfl) (by kernel_rfl) (fun _ _ _ h => h) E.out (Or.inl ⟨by rfl, fun w hw => by rcases HFORM.out with rfl | ⟨b2, rfl⟩; (obtain rfl := HNOC.out rfl; obtain hm0 : p = 0 := (by omega); subst hm0; go_simp; try (with_reducible rfl)); (by_cases hc0 : cap = 0; (subst hc0; obtain hm0 : p = 0 := (by omega); subst hm0; go_simp; try (with_reducible rfl)); (go_simp; try (with_reducible rfl)))⟩) ?_
      simp only [Act.put, List.setIfInBounds_toArray, List.set_cons_zero, List.set_cons_succ]
      refine tk7 (v := .int .i64 (d : Int)) (by kernel_rfl) (by kernel_rfl) (by kernel_rfl) (fun _ _ _ h => h) E.out (Or.inl ⟨by rfl, fun w hw => by go_simp; try (with_reducible rfl)⟩) ?_
      simp only [Act.put, List.setIfInBounds_toArray, List.set_cons_zero, List.set_cons_succ]
      refine tk8 (v := .slice ao p cap) (by kernel_rfl) (by kernel_rfl) (by kernel_rfl) (fun _ _ _ h => h) E.out (Or.inl ⟨by rfl, fun w hw => by go_simp; try (with_reducible rfl)⟩) ?_
      simp only [Act.put, List.setIfInBounds_toArray, List.set_cons_zero, List.set_cons_succ]
      refine wpAnyH_done (by kernel_rfl) ?_ _
      try simp only [Act.put]
      go_wp2
      go_ret2
      exact ⟨rfl, E.out⟩
  · have h30b : (30 : Int) < (n : Int) := by omega
    clear h30
    by_cases hqp : (30 : Int) ≤ (p : Int)
    · rw [HFIT.out 30 (by omega)]
      have hmc : (30 : Int) ≤ (cap : Int) := by omega
      go_enter Tryd.func8, Tryd.ntmps8
      go_wp2_with fail
      have E : Hid (Below w.heap.size w w.drew) := (bMe w).drew
      refine wp_region_held_drew (S := fun w1 => Below w.heap.size w w1) (by kernel_rfl) E.out (fun _ => ?_)
      refine tk0 (v := .int .i64 (d : Int)) (by kernel_rfl) (by kernel_rfl) (by kernel_rfl) (fun _ _ _ h => h) E.out (Or.inl ⟨by rfl, fun w hw => by go_simp; try (with_reducible rfl)⟩) ?_
      simp only [Act.put, List.setIfInBounds_toArray, List.set_cons_zero, List.set_cons_succ]
      refine tk1 (v := .slice ao n cap) (by kernel_rfl) (by kernel_rfl) (by kernel_rfl) (fun _ _ _ h => h) E.out (Or.inl ⟨by rfl, fun w hw => by go_simp; try (with_reducible rfl)⟩) ?_
      simp only [Act.put, List.setIfInBounds_toArray, List.set_cons_zero, List.set_cons_succ]
      refine tk2 (v := .int .u64 (30 : Int)) (by kernel_rfl) (by kernel_rfl) (by kernel_rfl) (fun _ _ _ h => h) E.out (Or.inl ⟨by rfl, fun w hw => by go_simp; try (with_reducible rfl)⟩) ?_
      simp only [Act.put, List.setIfInBounds_toArray, List.set_cons_zero, List.set_cons_succ]
      refine tk3 (v := .int .i64 (d : Int)) (by kernel_rfl) (by kernel_rfl) (by kernel_rfl) (fun _ _ _ h => h) E.out (Or.inl ⟨by rfl, fun w hw => by go_simp; try (with_reducible rfl)⟩) ?_
      simp only [Act.put, List.setIfInBounds_toArray, List.set_cons_zero, List.set_cons_succ]
      refine wpAnyH_ready (rs := [4]) (by kernel_rfl) (by simp) ?_
      refine rd4 (fun K hK => ?_) AllReadyH.nil
      go_simp
      refine (places_yes d 0 HD.out (Nat.zero_le _)).mono ?_
      rintro e w8 ⟨rfl, hw8⟩
      simp only []
      rw [Nat.sub_zero, HP.out]
      replace E : Hid (Below w.heap.size w w8) := by rw [hw8]; exact E.out
      clear hw8
      refine hK.out _ _ E.out (fun _ => ?_)
      clear hK K
      refine tk5 (v := .int .u64 (30 : Int)) (by kernel_rfl) (by kernel_rfl) (by kernel_rfl) (fun _ _ _ h => h) E.out (Or.inl ⟨by rfl, fun w hw => by go_simp; all_goals (try (with_reducible rfl)); all_goals (try (intro h; omega))⟩) ?_
      simp only [Act.put, List.setIfInBounds_toArray, List.set_cons_zero, List.set_cons_succ]
      refine tk6 (v := .slice ao 30 cap) (by kernel_rfl) (by kernel_rfl) (by kernel_rfl) (fun _ _ _ h => h) E.out (Or.inl ⟨by rfl, fun w hw => by rcases HFORM.out with rfl | ⟨b2, rfl⟩; (obtain rfl := HNOC.out rfl; obtain hm0 : 30 = 0 := (by omega); first | (exfalso; omega) | (subst hm0; go_simp; try (with_reducible rfl))); (by_cases hc0 : cap = 0; (exfalso; omega); (go_simp; try (with_reducible rfl)))⟩) ?_
      simp only [Act.put, List.setIfInBounds_toArray, List.set_cons_zero, List.set_cons_succ]
      refine tk7 (v := .int .i64 (d : Int)) (by kernel_rfl) (by kernel_rfl) (by kernel_rfl) (fun _ _ _ h => h) E.out (Or.inl ⟨by rfl, fun w hw => by go_simp; try (with_reducible rfl)⟩) ?_
      simp only [Act.put, List.setIfInBounds_toArray, List.set_cons_zero, List.set_cons_succ]
      refine tk8 (v := .slice ao 30 cap) (by kernel_rfl) (by kernel_rfl) (by kernel_rfl) (fun _ _ _ h => h) E.out (Or.inl ⟨by rfl, fun w hw => by go_simp; try (with_reducible rfl)⟩) ?_
      simp only [Act.put, List.setIfInBounds_toArray, List.set_cons_zero, List.set_cons_succ]
      refine wpAnyH_done (by kernel_rfl) ?_ _
      try simp only [Act.put]
      go_wp2
      go_ret2
      exact ⟨rfl, E.out⟩
    · have hqp2 : (p : Int) < 30 := by omega
      clear hqp
      rw [HFIT.out p (by omega)]
      have hmc : (p : Int) ≤ (cap : Int) := by omega
      go_enter Tryd.func8, Tryd.ntmps8
      go_wp2_with fail
      have E : Hid (Below w.heap.size w w.drew) := (bMe w).drew
      refine wp_region_held_drew (S := fun w1 => Below w.heap.size w w1) (by kernel_rfl) E.out (fun _ => ?_)
      refine tk0 (v := .int .i64 (d : Int)) (by kernel_rfl) (by kernel_rfl) (by kernel_rfl) (fun _ _ _ h => h) E.out (Or.inl ⟨by rfl, fun w hw => by go_simp; try (with_reducible rfl)⟩) ?_
      simp only [Act.put, List.setIfInBounds_toArray, List.set_cons_zero, List.set_cons_succ]
      refine tk1 (v := .slice ao n cap) (by kernel_rfl) (by kernel_rfl) (by kernel_rfl) (fun _ _ _ h => h) E.out (Or.inl ⟨by rfl, fun w hw => by go_simp; try (with_reducible rfl)⟩) ?_
      simp only [Act.put, List.setIfInBounds_toArray, List.set_cons_zero, List.set_cons_succ]
      refine tk2 (v := .int .u64 (30 : Int)) (by kernel_rfl) (by kernel_rfl) (by kernel_rfl) (fun _ _ _ h => h) E.out (Or.inl ⟨by rfl, fun w hw => by go_simp; try (with_reducible rfl)⟩) ?_
      simp only [Act.put, List.setIfInBounds_toArray, List.set_cons_zero, List.set_cons_succ]
      refine tk3 (v := .int .i64 (d : Int)) (by kernel_rfl) (by kernel_rfl) (by kernel_rfl) (fun _ _ _ h => h) E.out (Or.inl ⟨by rfl, fun w hw => by go_simp; try (with_reducible rfl)⟩) ?_
      simp only [Act.put, List.setIfInBounds_toArray, List.set_cons_zero, List.set_cons_succ]
      refine wpAnyH_ready (rs := [4]) (by kernel_rfl) (by simp) ?_
      refine rd4 (fun K hK => ?_) AllReadyH.nil
      go_simp
      refine (places_yes d 0 HD.out (Nat.zero_le _)).mono ?_
      rintro e w8 ⟨rfl, hw8⟩
      simp only []
      rw [Nat.sub_zero, HP.out]
      replace E : Hid (Below w.heap.size w w8) := by rw [hw8]; exact E.out
      clear hw8
      refine hK.out _ _ E.out (fun _ => ?_)
      clear hK K
      refine tk5 (v := .int .u64 (p : Int)) (by kernel_rfl) (by kernel_rfl) (by kernel_rfl) (fun _ _ _ h => h) E.out (Or.inl ⟨by rfl, fun w hw => by go_simp; all_goals (try (with_reducible rfl)); all_goals (try (intro h; omega))⟩) ?_
      simp only [Act.put, List.setIfInBounds_toArray, List.set_cons_zero, List.set_cons_succ]
      refine tk6 (v := .slice ao p cap) (by kernel_rfl) (by kernel_rfl) (by kernel_rfl) (fun _ _ _ h => h) E.out (Or.inl ⟨by rfl, fun w hw => by rcases HFORM.out with rfl | ⟨b2, rfl⟩; (obtain rfl := HNOC.out rfl; obtain hm0 : p = 0 := (by omega); subst hm0; go_simp; try (with_reducible rfl)); (by_cases hc0 : cap = 0; (subst hc0; obtain hm0 : p = 0 := (by omega); subst hm0; go_simp; try (with_reducible rfl)); (go_simp; try (with_reducible rfl)))⟩) ?_
      simp only [Act.put, List.setIfInBounds_toArray, List.set_cons_zero, List.set_cons_succ]
      refine tk7 (v := .int .i64 (d : Int)) (by kernel_rfl) (by kernel_rfl) (by kernel_rfl) (fun _ _ _ h => h) E.out (Or.inl ⟨by rfl, fun w hw => by go_simp; try (with_reducible rfl)⟩) ?_
      simp only [Act.put, List.setIfInBounds_toArray, List.set_cons_zero, List.set_cons_succ]
      refine tk8 (v := .slice ao p cap) (by kernel_rfl) (by kernel_rfl) (by kernel_rfl) (fun _ _ _ h => h) E.out (Or.inl ⟨by rfl, fun w hw => by go_simp; try (with_reducible rfl)⟩) ?_
      simp only [Act.put, List.setIfInBounds_toArray, List.set_cons_zero, List.set_cons_succ]
      refine wpAnyH_done (by kernel_rfl) ?_ _
      try simp only [Act.put]
      go_wp2
      go_ret2
      exact ⟨rfl, E.out⟩
end Go.Proofs.YtjkhboejhcbdpaaDoor
