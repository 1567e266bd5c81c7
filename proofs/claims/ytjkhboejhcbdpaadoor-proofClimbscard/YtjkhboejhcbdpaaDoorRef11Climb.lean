/- The contract of sponsionref11.Climb over this translation (written by gen-ref11climb.py). -/
import Derived.Test.YtjkhboejhcbdpaaDoorProofCheck
import Derived.Test.YtjkhboejhcbdpaaDoorRef10
namespace Go.Proofs.YtjkhboejhcbdpaaDoor
open Go.RowKit Go.Lib
attribute [local go_sem] setCell_drewN alloc_drewN

set_option maxRecDepth 100000 in
set_option maxHeartbeats 8000000 in
theorem rclimb_any {w : World} (d : Int) (i : Nat) (h : Hs) (P : Pf) (hd0 : -9223372036854775808 ≤ d) (hd1 : d ≤ 9223372036854775807) (hi : i ≤ 18446744073709551615) (hh : Hok h) (hP : Pok P) (ht : Tab w 0) :
    Calls Tryd.prog 13 #[.int .i64 d, .int .u64 i, .agg (rowV 32 h).toArray, .agg (rowV 1024 (pc P)).toArray] w fun e w' => e = .returned (.tuple #[.agg (rowV 32 (ch d i h P)).toArray, .int .i64 (ce d i P)]) ∧ Below w.heap.size w w' := by
  have HT := hide ht; have HH := hide hh; have HPO := hide hP
  have E0 : Hid (Bxs w ((((w.alloc (.cells (rowV 32 h).toArray 28)).alloc (.cells (rowV 1024 (pc P)).toArray 29)).alloc (.cells #[.int .u8 0, .int .u8 0, .int .u8 0, .int .u8 0, .int .u8 0, .int .u8 0, .int .u8 0, .int .u8 0, .int .u8 0, .int .u8 0, .int .u8 0, .int .u8 0, .int .u8 0, .int .u8 0, .int .u8 0, .int .u8 0, .int .u8 0, .int .u8 0, .int .u8 0, .int .u8 0, .int .u8 0, .int .u8 0, .int .u8 0, .int .u8 0, .int .u8 0, .int .u8 0, .int .u8 0, .int .u8 0, .int .u8 0, .int .u8 0, .int .u8 0, .int .u8 0] 28)).alloc (.cells #[.int .u8 0, .int .u8 0, .int .u8 0, .int .u8 0, .int .u8 0, .int .u8 0, .int .u8 0, .int .u8 0, .int .u8 0, .int .u8 0, .int .u8 0, .int .u8 0, .int .u8 0, .int .u8 0, .int .u8 0, .int .u8 0, .int .u8 0, .int .u8 0, .int .u8 0, .int .u8 0, .int .u8 0, .int .u8 0, .int .u8 0, .int .u8 0, .int .u8 0, .int .u8 0, .int .u8 0, .int .u8 0, .int .u8 0, .int .u8 0, .int .u8 0, .int .u8 0] 28)) [(w.heap.size + 3, 32, fun _ => 0), (w.heap.size + 2, 32, fun _ => 0), (w.heap.size + 1, 1024, pc P), (w.heap.size, 32, h)]) :=
    ((((Bxs.none w).add rfl (BRow.box w 32 h _ rfl)).add (by simp) (BRow.box _ 1024 (pc P) _ (by simp))).add (by simp) (BRow.zeros32 _ (by simp))).add (by simp) (BRow.zeros32 _ (by simp))
  clear ht hh hP
  go_enter Tryd.func13, Tryd.ntmps13
  go_wp2_with (refine wpList_store_stop rfl 28 _ _ rfl (w.heap.size + 3) 0 (rowV 32 hz) rfl rfl ((E0.out.get 0 rfl).thereA hz) (info_hash32A hz) (rowV_oneA _ _) ?_)
  intro w1 hw1
  have E : Hid (Bxs w w1 [(w.heap.size + 3, 32, hz), (w.heap.size + 2, 32, fun _ => 0), (w.heap.size + 1, 1024, pc P), (w.heap.size, 32, h)]) := by
    show Bxs _ _ _
    rw [hw1.out]; exact E0.out.put 0 rfl hz
  clear hw1 E0
  by_cases hdep : d < 0 ∨ 32 < d
  · have HC : Hid (ce d i P = 1) := ce_dep hdep
    have HZ : Hid (ch d i h P = hz) := ch_no (by rw [HC.out]; decide)
    rcases hdep with hdep | hdep
    · go_wp2_with (first
        | refine wpList_load_mid rfl 28 _ rfl (w.heap.size + 3) 0 rfl (rowV 32 hz) _ (E.out.get 0 rfl).range Tryd.underlying28 rfl (info_hash32 _) ?_
        | refine wpList_store_mid rfl 28 _ _ rfl (w.heap.size + 2) 0 (rowV 32 hz).toArray rfl rfl ((E.out.get 1 rfl).thereA _) (info_hash32A _) (rowV_oneA _ _) ?_)
      have EE := hide (E.out.put 1 rfl hz)
      refine bodyPost_ret (v := .tuple #[.agg (rowV 32 hz).toArray, .int .i64 1]) ?_ rfl ⟨by rw [HC.out, HZ.out], EE.out.below⟩
      have hlv := run_loadVar_mid (P := Tryd.prog) _ _ _ _ _ _ (EE.out.get 1 rfl).range Tryd.underlying28 rfl (info_hash32 _)
      exact results_two Tryd.results13 rfl rfl hlv
    · go_wp2_with (first
        | refine wpList_load_mid rfl 28 _ rfl (w.heap.size + 3) 0 rfl (rowV 32 hz) _ (E.out.get 0 rfl).range Tryd.underlying28 rfl (info_hash32 _) ?_
        | refine wpList_store_mid rfl 28 _ _ rfl (w.heap.size + 2) 0 (rowV 32 hz).toArray rfl rfl ((E.out.get 1 rfl).thereA _) (info_hash32A _) (rowV_oneA _ _) ?_)
      have EE := hide (E.out.put 1 rfl hz)
      refine bodyPost_ret (v := .tuple #[.agg (rowV 32 hz).toArray, .int .i64 1]) ?_ rfl ⟨by rw [HC.out, HZ.out], EE.out.below⟩
      have hlv := run_loadVar_mid (P := Tryd.prog) _ _ _ _ _ _ (EE.out.get 1 rfl).range Tryd.underlying28 rfl (info_hash32 _)
      exact results_two Tryd.results13 rfl rfl hlv
  · obtain ⟨k, rfl⟩ : ∃ k : Nat, d = (k : Int) := ⟨d.toNat, by omega⟩
    have hk : k ≤ 32 := by omega
    have hki : (k : Int) ≤ 32 := by omega
    have hk0 : ¬ (k : Int) < 0 := by omega
    have hk1 : ¬ (32 : Int) < (k : Int) := by omega
    have HK := hide hk
    obtain ⟨p, hp⟩ : ∃ p : Nat, 2 ^ k = p := ⟨_, rfl⟩
    have HP := hide hp
    clear hdep hd0 hd1 hk hp
    by_cases hfar : p ≤ i
    · have HC : Hid (ce (k : Int) i P = 10) := ce_far HK.out (by rw [HP.out]; exact hfar)
      have HZ : Hid (ch (k : Int) i h P = hz) := ch_no (by rw [HC.out]; decide)
      have hpi : (p : Int) ≤ (i : Int) := by omega
      go_wp2_with (first
        | (go_at_call 17; refine (places_yes k 0 HK.out (Nat.zero_le _)).mono ?_; rintro e8 w8 ⟨rfl, hw8⟩; have hw9 := hw8.symm; clear hw8; subst hw9; rw [Nat.sub_zero, HP.out])
        | refine wpList_load_mid rfl 28 _ rfl (w.heap.size + 3) 0 rfl (rowV 32 hz) _ (E.out.get 0 rfl).range Tryd.underlying28 rfl (info_hash32 _) ?_
        | refine wpList_store_mid rfl 28 _ _ rfl (w.heap.size + 2) 0 (rowV 32 hz).toArray rfl rfl ((E.out.get 1 rfl).thereA _) (info_hash32A _) (rowV_oneA _ _) ?_)
      have EE := hide (E.out.put 1 rfl hz)
      refine bodyPost_ret (v := .tuple #[.agg (rowV 32 hz).toArray, .int .i64 10]) ?_ rfl ⟨by rw [HC.out, HZ.out], EE.out.below⟩
      have hlv := run_loadVar_mid (P := Tryd.prog) _ _ _ _ _ _ (EE.out.get 1 rfl).range Tryd.underlying28 rfl (info_hash32 _)
      exact results_two Tryd.results13 rfl rfl hlv
    · have HLT : Hid (i < 2 ^ k) := by show _ < _; rw [HP.out]; omega
      have hpi : (i : Int) < (p : Int) := by omega
      go_wp2_with (go_at_call 17; refine (places_yes k 0 HK.out (Nat.zero_le _)).mono ?_; rintro e8 w8 ⟨rfl, hw8⟩; have hw9 := hw8.symm; clear hw8; subst hw9; rw [Nat.sub_zero, HP.out])
      clear hpi hfar HP
      obtain ⟨m, hm⟩ : ∃ m, m + k = 32 := ⟨32 - k, by have := HK.out; omega⟩
      go_loopg [11] m (fun gk t wr => ∃ c : Nat, gk + c = 32 ∧ k ≤ c ∧ t = .int .i64 c ∧ Bxs w wr [(w.heap.size + 3, 32, hz), (w.heap.size + 2, 32, fun _ => 0), (w.heap.size + 1, 1024, pc P), (w.heap.size, 32, h)] ∧ Hid (∀ j, k ≤ j → j < c → sameH (P j) hz = true))
      case atStart => exact ⟨k, hm, Nat.le_refl _, rfl, E.out, fun j h1 h2 => by omega⟩
      case round =>
        clear E hm
        obtain ⟨c, hc, hkc, rfl, he, hall⟩ := hrel
        have HCC := hide hc
        clear hc
        by_cases hlt : c < 32
        · have hci : (c : Int) < 32 := by omega
          have hcn : ¬ (32 : Int) ≤ (c : Int) := by omega
          obtain ⟨F, hF⟩ : ∃ F, P c = F := ⟨_, rfl⟩
          have HF := hide hF
          have hse := fun w => eqHash F hz w
          have E := hide (he.after (bMe wr).drew)
          clear he hF
          go_wp2_with fail
          refine wp_region_held_drew (S := fun w1 => Bxs w w1 [(w.heap.size + 3, 32, hz), (w.heap.size + 2, 32, fun _ => 0), (w.heap.size + 1, 1024, pc P), (w.heap.size, 32, h)]) (by kernel_rfl) E.out (fun _ => ?_)
          refine tk0 (v := .int .i64 (c : Int)) (by kernel_rfl) (by kernel_rfl) (by kernel_rfl) (fun _ _ _ h => h) E.out (Or.inl ⟨by rfl, fun w hw => by go_simp; try (with_reducible rfl)⟩) ?_
          simp only [Act.put, List.setIfInBounds_toArray, List.set_cons_zero, List.set_cons_succ]
          refine tk1 (v := .pointer (some ⟨w.heap.size + 1, c * 32, none⟩)) (by kernel_rfl) (by kernel_rfl) (by kernel_rfl) (fun _ _ _ h => h) E.out (Or.inl ⟨by rfl, fun w hw => by go_simp; try (with_reducible rfl)⟩) ?_
          simp only [Act.put, List.setIfInBounds_toArray, List.set_cons_zero, List.set_cons_succ]
          refine tk2 (by kernel_rfl) (by kernel_rfl) (by kernel_rfl) (fun _ _ _ h => h) E.out (yieldsIf_load_mid (by rfl) _ _ rfl (w.heap.size + 1) (c * 32) rfl (rowV 32 F) _ (fun _ hw => by have q := (hw.get 2 rfl).lev c (by omega); rw [HF.out] at q; exact q) Tryd.underlying28 rfl (info_hash32 _)) ?_
          simp only [Act.put, List.setIfInBounds_toArray, List.set_cons_zero, List.set_cons_succ]
          refine tk3 (by kernel_rfl) (by kernel_rfl) (by kernel_rfl) (fun _ _ _ h => h) E.out (yieldsIf_load_mid (by rfl) _ _ rfl (w.heap.size + 3) (0) rfl (rowV 32 hz) _ (fun _ hw => (hw.get 0 rfl).range) Tryd.underlying28 rfl (info_hash32 _)) ?_
          simp only [Act.put, List.setIfInBounds_toArray, List.set_cons_zero, List.set_cons_succ]
          cases hs : sameH F hz with
          | true =>
            rw [hs] at hse
            refine tk4 (v := .bool false) (by kernel_rfl) (by kernel_rfl) (by kernel_rfl) (fun _ _ _ h => h) E.out (Or.inl ⟨by rfl, fun w hw => by go_simp; try (with_reducible rfl)⟩) ?_
            simp only [Act.put, List.setIfInBounds_toArray, List.set_cons_zero, List.set_cons_succ]
            refine wpAnyH_done (by kernel_rfl) ?_ _
            try simp only [Act.put]
            clear hse
            generalize wr.drew = w4 at *
            go_wp2
            go_roundg (gk - 1)
            case measure => have := HCC.out; omega
            case rel => exact ⟨c + 1, by have := HCC.out; omega, by omega, by go_num, E.out, fun j h1 h2 => by
              by_cases e : j = c
              · rw [e, HF.out]; exact hs
              · exact hall.out j h1 (by omega)⟩
          | false =>
            rw [hs] at hse
            refine tk4 (v := .bool true) (by kernel_rfl) (by kernel_rfl) (by kernel_rfl) (fun _ _ _ h => h) E.out (Or.inl ⟨by rfl, fun w hw => by go_simp; try (with_reducible rfl)⟩) ?_
            simp only [Act.put, List.setIfInBounds_toArray, List.set_cons_zero, List.set_cons_succ]
            refine wpAnyH_done (by kernel_rfl) ?_ _
            try simp only [Act.put]
            have HEB : Hid (endB P k = false) := by
              show _ = _
              cases e : endB P k
              · rfl
              · have := (endB_iff P k).1 e c hkc hlt
                rw [HF.out, hs] at this
                cases this
            have HC : Hid (ce (k : Int) i P = 6) := ce_form HK.out HLT.out HEB.out
            have HZ : Hid (ch (k : Int) i h P = hz) := ch_no (by rw [HC.out]; decide)
            clear hse
            generalize wr.drew = w4 at *
            go_wp2_with (first
              | refine wpList_load_mid rfl 28 _ rfl (w.heap.size + 3) 0 rfl (rowV 32 hz) _ (E.out.get 0 rfl).range Tryd.underlying28 rfl (info_hash32 _) ?_
              | refine wpList_store_mid rfl 28 _ _ rfl (w.heap.size + 2) 0 (rowV 32 hz).toArray rfl rfl ((E.out.get 1 rfl).thereA _) (info_hash32A _) (rowV_oneA _ _) ?_)
            have EE := hide (E.out.put 1 rfl hz)
            refine bodyPost_ret (v := .tuple #[.agg (rowV 32 hz).toArray, .int .i64 6]) ?_ rfl ⟨by rw [HC.out, HZ.out], EE.out.below⟩
            have hlv := run_loadVar_mid (P := Tryd.prog) _ _ _ _ _ _ (EE.out.get 1 rfl).range Tryd.underlying28 rfl (info_hash32 _)
            exact results_two Tryd.results13 rfl rfl hlv
        · obtain rfl : c = 32 := by have := HCC.out; omega
          have HEB : Hid (endB P k = true) := (endB_iff P k).2 fun j h1 h2 => hall.out j h1 h2
          have HC : Hid (ce (k : Int) i P = 0) := ce_ok HK.out HLT.out HEB.out
          have HZ : Hid (ch (k : Int) i h P = cl i P h k) := ch_ok HK.out HLT.out HEB.out
          have E := hide he
          clear he hall HCC hkc hlt HEB HLT
          go_wp2_with fail
          go_loopg [1, 38] k (fun gk t1 t wr => ∃ b : Nat, gk + b = k ∧ t = .int .i64 b ∧ t1 = .int .u64 ((i / 2 ^ b : Nat) : Int) ∧ Bxs w wr [(w.heap.size + 3, 32, hz), (w.heap.size + 2, 32, fun _ => 0), (w.heap.size + 1, 1024, pc P), (w.heap.size, 32, (cl i P h b))])
          case atStart => exact ⟨0, by omega, rfl, by simp, E.out⟩
          case round =>
            clear E
            obtain ⟨b, hb0, rfl, rfl, he⟩ := hrel
            have HB := hide hb0
            clear hb0
            obtain ⟨C, hC⟩ : ∃ C, cl i P h b = C := ⟨_, rfl⟩
            have HCL := hide hC
            have HCO : Hid (Hok C) := by rw [← hC]; exact cl_ok HH.out b
            rw [hC] at he
            clear hC
            obtain ⟨r, hr⟩ : ∃ r, i / 2 ^ b = r := ⟨_, rfl⟩
            have HR := hide hr
            have hri : (r : Int) ≤ 18446744073709551615 := by have := Nat.div_le_self i (2 ^ b); omega
            have HNX : Hid (i / 2 ^ (b + 1) = r / 2) := by show _ = _; rw [Nat.pow_succ, ← Nat.div_div_eq_div_mul, hr]
            rw [hr]
            clear hr
            by_cases hlt : b < k
            · have hbi : (b : Int) < (k : Int) := by omega
              have hb32 : ¬ (32 : Int) ≤ (b : Int) := by omega
              have hwr2 : IntKind.u64.wrap ((r : Int) / 2) = (r : Int) / 2 := by rw [IntKind.wrap_u64]; omega
              obtain ⟨F, hF⟩ : ∃ F, P b = F := ⟨_, rfl⟩
              have HF := hide hF
              have HFO : Hid (Hok F) := by rw [← hF]; exact HPO.out b
              have E := hide (he.after (bMe wr).drew)
              clear hF he
              by_cases hev : r % 2 = 0
              · have hevi : (r : Int) % 2 = 0 := by omega
                have HN : Hid (cl i P h (b + 1) = dnode C F) := by show _ = _; rw [cl_even (by rw [HR.out]; exact hev), HCL.out, HF.out]
                go_wp2_with fail
                refine wp_region_held_drew (S := fun w1 => ∃ G : Nat → Int, Bxs w w1 [(w.heap.size + 3, 32, hz), (w.heap.size + 2, 32, fun _ => 0), (w.heap.size + 1, 1024, pc P), (w.heap.size, 32, G)]) (by kernel_rfl) ⟨_, E.out⟩ (fun _ => ?_)
                refine tk1 (v := .int .i64 (b : Int)) (by kernel_rfl) (by kernel_rfl) (by kernel_rfl) (fun _ _ _ h => h) ⟨_, E.out⟩ (Or.inl ⟨by rfl, fun w hw => by go_simp; try (with_reducible rfl)⟩) ?_
                simp only [Act.put, List.setIfInBounds_toArray, List.set_cons_zero, List.set_cons_succ]
                refine tk2 (v := .pointer (some ⟨w.heap.size + 1, b * 32, none⟩)) (by kernel_rfl) (by kernel_rfl) (by kernel_rfl) (fun _ _ _ h => h) ⟨_, E.out⟩ (Or.inl ⟨by rfl, fun w hw => by go_simp; try (with_reducible rfl)⟩) ?_
                simp only [Act.put, List.setIfInBounds_toArray, List.set_cons_zero, List.set_cons_succ]
                refine tk3 (by kernel_rfl) (by kernel_rfl) (by kernel_rfl) (fun _ _ _ h => h) ⟨_, E.out⟩ (yieldsIf_load_mid (by rfl) _ _ rfl (w.heap.size + 1) (b * 32) rfl (rowV 32 F) _ (fun _ hw => by obtain ⟨_, hw⟩ := hw; have q := (hw.get 2 rfl).lev b (by omega); rw [HF.out] at q; exact q) Tryd.underlying28 rfl (info_hash32 _)) ?_
                simp only [Act.put, List.setIfInBounds_toArray, List.set_cons_zero, List.set_cons_succ]
                refine wpAnyH_ready (rs := [0]) (by kernel_rfl) (by simp) ?_
                refine rd0 (fun K hK => ?_) AllReadyH.nil
                rw [if_pos (by rfl)]
                refine wp_load_mid 28 _ rfl (w.heap.size) (0) rfl (rowV 32 C) _ ((E.out.get 3 rfl).range) Tryd.underlying28 rfl (info_hash32 _) ?_
                refine hK.out _ _ ⟨_, E.out⟩ (fun _ => ?_)
                clear hK K
                simp only [Act.put, List.setIfInBounds_toArray, List.set_cons_zero, List.set_cons_succ]
                refine wpAnyH_ready (rs := [4]) (by kernel_rfl) (by simp) ?_
                refine rd4 (fun K hK => ?_) AllReadyH.nil
                go_simp
                refine (refnode_any C F HCO.out HFO.out (HT.out.below E.out.below)).mono ?_
                rintro e w5 ⟨rfl, hb⟩
                simp only []
                replace E := hide (E.out.after hb)
                clear hb
                obtain ⟨N, hN⟩ : ∃ N, dnode C F = N := ⟨_, rfl⟩
                rw [hN] at HN
                rw [hN]
                clear hN
                refine hK.out _ _ ⟨_, E.out⟩ (fun _ => ?_)
                clear hK K
                refine wpAnyH_ready (rs := [5]) (by kernel_rfl) (by simp) ?_
                refine rd5 (fun K hK => ?_) AllReadyH.nil
                rw [if_pos (by rfl)]
                refine wp_store_mid _ _ _ rfl (w.heap.size) (0) (rowV 32 N).toArray rfl rfl ((E.out.get 3 rfl).thereA _) (info_hash32A _) (rowV_oneA _ _) ?_
                have E5 : Hid (Bxs w (w5.setCells w.heap.size 0 (rowV 32 N)) [(w.heap.size + 3, 32, hz), (w.heap.size + 2, 32, fun _ => 0), (w.heap.size + 1, 1024, pc P), (w.heap.size, 32, N)]) := E.out.put 3 rfl N
                refine hK.out _ _ ⟨_, E5.out⟩ (fun _ => ?_)
                clear hK K
                refine wpAnyH_done (by kernel_rfl) ?_ _
                try simp only [Act.put]
                generalize w5.setCells w.heap.size 0 (rowV 32 N) = w6 at *
                clear E
                go_wp2
                go_roundg (k - b - 1)
                case measure => have := HB.out; omega
                case rel => exact ⟨b + 1, by omega, by go_num, by rw [HNX.out]; go_num, by rw [HN.out]; exact E5.out⟩
              · have hevi : (r : Int) % 2 = 1 := by omega
                have HN : Hid (cl i P h (b + 1) = dnode F C) := by show _ = _; rw [cl_odd (by rw [HR.out]; exact hev), HCL.out, HF.out]
                go_wp2_with fail
                refine wp_region_held_drew (S := fun w1 => ∃ G : Nat → Int, Bxs w w1 [(w.heap.size + 3, 32, hz), (w.heap.size + 2, 32, fun _ => 0), (w.heap.size + 1, 1024, pc P), (w.heap.size, 32, G)]) (by kernel_rfl) ⟨_, E.out⟩ (fun _ => ?_)
                refine tk0 (v := .int .i64 (b : Int)) (by kernel_rfl) (by kernel_rfl) (by kernel_rfl) (fun _ _ _ h => h) ⟨_, E.out⟩ (Or.inl ⟨by rfl, fun w hw => by go_simp; try (with_reducible rfl)⟩) ?_
                simp only [Act.put, List.setIfInBounds_toArray, List.set_cons_zero, List.set_cons_succ]
                refine tk1 (v := .pointer (some ⟨w.heap.size + 1, b * 32, none⟩)) (by kernel_rfl) (by kernel_rfl) (by kernel_rfl) (fun _ _ _ h => h) ⟨_, E.out⟩ (Or.inl ⟨by rfl, fun w hw => by go_simp; try (with_reducible rfl)⟩) ?_
                simp only [Act.put, List.setIfInBounds_toArray, List.set_cons_zero, List.set_cons_succ]
                refine tk2 (by kernel_rfl) (by kernel_rfl) (by kernel_rfl) (fun _ _ _ h => h) ⟨_, E.out⟩ (yieldsIf_load_mid (by rfl) _ _ rfl (w.heap.size + 1) (b * 32) rfl (rowV 32 F) _ (fun _ hw => by obtain ⟨_, hw⟩ := hw; have q := (hw.get 2 rfl).lev b (by omega); rw [HF.out] at q; exact q) Tryd.underlying28 rfl (info_hash32 _)) ?_
                simp only [Act.put, List.setIfInBounds_toArray, List.set_cons_zero, List.set_cons_succ]
                refine wpAnyH_ready (rs := [3]) (by kernel_rfl) (by simp) ?_
                refine rd3 (fun K hK => ?_) AllReadyH.nil
                rw [if_pos (by rfl)]
                refine wp_load_mid 28 _ rfl (w.heap.size) (0) rfl (rowV 32 C) _ ((E.out.get 3 rfl).range) Tryd.underlying28 rfl (info_hash32 _) ?_
                refine hK.out _ _ ⟨_, E.out⟩ (fun _ => ?_)
                clear hK K
                simp only [Act.put, List.setIfInBounds_toArray, List.set_cons_zero, List.set_cons_succ]
                refine wpAnyH_ready (rs := [4]) (by kernel_rfl) (by simp) ?_
                refine rd4 (fun K hK => ?_) AllReadyH.nil
                go_simp
                refine (refnode_any F C HFO.out HCO.out (HT.out.below E.out.below)).mono ?_
                rintro e w5 ⟨rfl, hb⟩
                simp only []
                replace E := hide (E.out.after hb)
                clear hb
                obtain ⟨N, hN⟩ : ∃ N, dnode F C = N := ⟨_, rfl⟩
                rw [hN] at HN
                rw [hN]
                clear hN
                refine hK.out _ _ ⟨_, E.out⟩ (fun _ => ?_)
                clear hK K
                refine wpAnyH_ready (rs := [5]) (by kernel_rfl) (by simp) ?_
                refine rd5 (fun K hK => ?_) AllReadyH.nil
                rw [if_pos (by rfl)]
                refine wp_store_mid _ _ _ rfl (w.heap.size) (0) (rowV 32 N).toArray rfl rfl ((E.out.get 3 rfl).thereA _) (info_hash32A _) (rowV_oneA _ _) ?_
                have E5 : Hid (Bxs w (w5.setCells w.heap.size 0 (rowV 32 N)) [(w.heap.size + 3, 32, hz), (w.heap.size + 2, 32, fun _ => 0), (w.heap.size + 1, 1024, pc P), (w.heap.size, 32, N)]) := E.out.put 3 rfl N
                refine hK.out _ _ ⟨_, E5.out⟩ (fun _ => ?_)
                clear hK K
                refine wpAnyH_done (by kernel_rfl) ?_ _
                try simp only [Act.put]
                generalize w5.setCells w.heap.size 0 (rowV 32 N) = w6 at *
                clear E
                go_wp2
                go_roundg (k - b - 1)
                case measure => have := HB.out; omega
                case rel => exact ⟨b + 1, by omega, by go_num, by rw [HNX.out]; go_num, by rw [HN.out]; exact E5.out⟩
            · obtain rfl : b = k := by have := HB.out; omega
              have E := hide he
              clear he
              go_wp2_with (first
                | refine wpList_load_mid rfl 28 _ rfl (w.heap.size) 0 rfl (rowV 32 C) _ (E.out.get 3 rfl).range Tryd.underlying28 rfl (info_hash32 _) ?_
                | refine wpList_store_mid rfl 28 _ _ rfl (w.heap.size + 2) 0 (rowV 32 C).toArray rfl rfl ((E.out.get 1 rfl).thereA _) (info_hash32A _) (rowV_oneA _ _) ?_)
              have EE := hide (E.out.put 1 rfl C)
              refine bodyPost_ret (v := .tuple #[.agg (rowV 32 C).toArray, .int .i64 0]) ?_ rfl ⟨by rw [HC.out, HZ.out, HCL.out], EE.out.below⟩
              have hlv := run_loadVar_mid (P := Tryd.prog) _ _ _ _ _ _ (EE.out.get 1 rfl).range Tryd.underlying28 rfl (info_hash32 _)
              exact results_two Tryd.results13 rfl rfl hlv
end Go.Proofs.YtjkhboejhcbdpaaDoor
