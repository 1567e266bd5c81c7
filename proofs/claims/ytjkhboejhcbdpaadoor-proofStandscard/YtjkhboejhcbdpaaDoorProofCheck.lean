/- The contract of proof.ends over this translation. The contract of proof.Climb over this translation (written by gen-proofclimb.py). The contract of proof.Check over this translation (written by gen-proofcheck.py). -/
import Derived.Test.YtjkhboejhcbdpaaDoorProofEq
import Derived.Test.YtjkhboejhcbdpaaDoorDomEmpty
/- The contract of proof.ends over this translation. -/
namespace Go.Proofs.YtjkhboejhcbdpaaDoor
open Go.RowKit Go.Lib
attribute [local go_sem] setCell_drewN alloc_drewN eqHash

set_option maxRecDepth 100000 in
set_option maxHeartbeats 4000000 in
theorem ends_any {w : World} (P : Pf) (d : Nat) (hd : d ≤ 32) :
    Calls Tryd.prog 23 #[.agg (rowV 1024 (pc P)).toArray, .int .i64 d] w fun e w' => e = .returned (.bool (endB P d)) ∧ Below w.heap.size w w' := by
  have hdi : (d : Int) ≤ 32 := by omega
  have HD := hide hd
  have E0 : Hid (Bxs w (w.alloc (.cells (rowV 1024 (pc P)).toArray 29)) [(w.heap.size, 1024, pc P)]) := (Bxs.none w).new (BRow.box w 1024 (pc P) _ rfl)
  clear hd
  by_cases h32 : d = 32
  · subst h32
    have HE : Hid (endB P 32 = true) := (endB_iff P 32).2 fun k h1 h2 => by omega
    go_enter Tryd.func23, Tryd.ntmps23
    go_wp2_with fail
    generalize w.alloc (.cells (rowV 1024 (pc P)).toArray 29) = w1 at *
    go_loopg [10] 1 (fun gk t wr => gk = 1 ∧ t = .int .i64 0 ∧ wr = w1)
    case atStart => exact ⟨rfl, rfl, rfl⟩
    case round =>
      obtain ⟨rfl, rfl, rfl⟩ := hrel
      go_wp2
      go_ret
      exact ⟨by rw [HE.out]; rfl, E0.out.below⟩
  · have hne : ¬ 32 = d := fun e => h32 e.symm
    obtain ⟨m, hm⟩ : ∃ m, 32 - d = m := ⟨_, rfl⟩
    have HM : Hid (m + d = 32) := by have := HD.out; show _ = _; omega
    go_enter Tryd.func23, Tryd.ntmps23
    go_wp2_with fail
    generalize w.alloc (.cells (rowV 1024 (pc P)).toArray 29) = w1 at *
    clear hm h32 hne
    go_loopg [10] m (fun gk t wr => ∃ b : Nat, gk + b = m ∧ t = .int .i64 b ∧ Bxs w wr [(w.heap.size, 1024, pc P)] ∧ Hid (∀ k, d ≤ k → k < d + b → sameH (P k) hz = true))
    case atStart => exact ⟨0, by omega, rfl, E0.out, fun k h1 h2 => by omega⟩
    case round =>
      clear E0
      obtain ⟨b, hb0, rfl, he, hall⟩ := hrel
      have E := hide he; have HK := hide hb0
      clear he hb0
      by_cases hlt : b < m
      · have hbi : (b : Int) < (m : Int) := by omega
        have hmi : (m : Int) ≤ 32 := by have := HM.out; omega
        obtain ⟨F, hF⟩ : ∃ F, P (d + b) = F := ⟨_, rfl⟩
        have HF := hide hF
        have R1 : Hid (Bxs w (wr.alloc (.cells #[.int .u8 0, .int .u8 0, .int .u8 0, .int .u8 0, .int .u8 0, .int .u8 0, .int .u8 0, .int .u8 0, .int .u8 0, .int .u8 0, .int .u8 0, .int .u8 0, .int .u8 0, .int .u8 0, .int .u8 0, .int .u8 0, .int .u8 0, .int .u8 0, .int .u8 0, .int .u8 0, .int .u8 0, .int .u8 0, .int .u8 0, .int .u8 0, .int .u8 0, .int .u8 0, .int .u8 0, .int .u8 0, .int .u8 0, .int .u8 0, .int .u8 0, .int .u8 0] 28)) [(wr.heap.size, 32, fun _ => 0), (w.heap.size, 1024, pc P)]) := E.out.new (BRow.zeros32 wr rfl)
        have hrow : Hid (wr.rangeAt w.heap.size (d * 32 + b * 32) (rowV 32 F)) := by
          have := (E.out.get 0 rfl).lev (d + b) (by have := HM.out; omega)
          rw [hF] at this
          rwa [Nat.add_mul] at this
        clear hF
        go_wp2_with (first
          | refine wpList_load_mid rfl 28 _ rfl w.heap.size (d * 32 + b * 32) rfl (rowV 32 F) _ hrow.out Tryd.underlying28 rfl (info_hash32 _) ?_
          | refine wpList_store_stop rfl 28 _ _ rfl wr.heap.size 0 (rowV 32 F) rfl rfl ((R1.out.get 0 rfl).thereA F) (info_hash32A F) (rowV_oneA _ _) ?_)
        intro w3 hw3
        have E3 : Hid (Bxs w w3 [(wr.heap.size, 32, F), (w.heap.size, 1024, pc P)]) := by
          show Bxs _ _ _
          rw [hw3.out]; exact R1.out.put 0 rfl F
        have hzq := fun w => eqHashZ F w
        clear hw3 R1 hrow E
        generalize wr.heap.size = g at *
        cases hs : sameH F hz with
        | true =>
          rw [hs] at hzq
          go_wp2_with (refine wpList_load_mid rfl 28 _ rfl g 0 rfl (rowV 32 F) _ (E3.out.get 0 rfl).range Tryd.underlying28 rfl (info_hash32 _) ?_)
          go_roundg (m - b - 1)
          case measure => have := HK.out; omega
          case rel => exact ⟨b + 1, by omega, by go_num, E3.out.tail, fun k h1 h2 => by
            by_cases e : k = d + b
            · rw [e, HF.out]; exact hs
            · exact hall.out k h1 (by omega)⟩
        | false =>
          rw [hs] at hzq
          have HE : Hid (endB P d = false) := by
            show _ = _
            cases e : endB P d
            · rfl
            · have := (endB_iff P d).1 e (d + b) (by omega) (by have := HM.out; omega)
              rw [HF.out, hs] at this
              cases this
          go_wp2_with (refine wpList_load_mid rfl 28 _ rfl g 0 rfl (rowV 32 F) _ (E3.out.get 0 rfl).range Tryd.underlying28 rfl (info_hash32 _) ?_)
          go_ret
          exact ⟨by rw [HE.out]; rfl, E3.out.below⟩
      · obtain rfl : b = m := by have := HK.out; omega
        have HE : Hid (endB P d = true) := (endB_iff P d).2 fun k h1 h2 => hall.out k h1 (by have := HM.out; omega)
        go_wp2
        go_ret
        exact ⟨by rw [HE.out]; rfl, E.out.below⟩
end Go.Proofs.YtjkhboejhcbdpaaDoor

/- The contract of proof.Climb over this translation (written by gen-proofclimb.py). -/
namespace Go.Proofs.YtjkhboejhcbdpaaDoor
open Go.RowKit Go.Lib
attribute [local go_sem] setCell_drewN alloc_drewN

set_option maxRecDepth 100000 in
set_option maxHeartbeats 8000000 in
theorem climb_any {w : World} (d : Int) (i : Nat) (h : Hs) (P : Pf) (hd0 : -9223372036854775808 ≤ d) (hd1 : d ≤ 9223372036854775807) (hi : i ≤ 18446744073709551615) (hh : Hok h) (hP : Pok P) (ht : Tab w 1) :
    Calls Tryd.prog 12 #[.int .i64 d, .int .u64 i, .agg (rowV 32 h).toArray, .agg (rowV 1024 (pc P)).toArray] w fun e w' => e = .returned (.tuple #[.agg (rowV 32 (ch d i h P)).toArray, .int .i64 (ce d i P)]) ∧ Below w.heap.size w w' := by
  have HT := hide ht; have HH := hide hh; have HPO := hide hP
  have E0 : Hid (Bxs w (((w.alloc (.cells (rowV 32 h).toArray 28)).alloc (.cells (rowV 1024 (pc P)).toArray 29)).alloc (.cells #[.int .u8 0, .int .u8 0, .int .u8 0, .int .u8 0, .int .u8 0, .int .u8 0, .int .u8 0, .int .u8 0, .int .u8 0, .int .u8 0, .int .u8 0, .int .u8 0, .int .u8 0, .int .u8 0, .int .u8 0, .int .u8 0, .int .u8 0, .int .u8 0, .int .u8 0, .int .u8 0, .int .u8 0, .int .u8 0, .int .u8 0, .int .u8 0, .int .u8 0, .int .u8 0, .int .u8 0, .int .u8 0, .int .u8 0, .int .u8 0, .int .u8 0, .int .u8 0] 28)) [(w.heap.size + 2, 32, fun _ => 0), (w.heap.size + 1, 1024, pc P), (w.heap.size, 32, h)]) :=
    (((Bxs.none w).add rfl (BRow.box w 32 h _ rfl)).add (by simp) (BRow.box _ 1024 (pc P) _ (by simp))).add (by simp) (BRow.zeros32 _ (by simp))
  clear ht hh hP
  by_cases hdep : d < 0 ∨ 32 < d
  · have HC : Hid (ce d i P = 1) := ce_dep hdep
    have HZ : Hid (ch d i h P = hz) := ch_no (by rw [HC.out]; decide)
    rw [HC.out, HZ.out]
    go_enter Tryd.func12, Tryd.ntmps12
    rcases hdep with hdep | hdep
    · go_wp2_with (refine wpList_store_mid rfl 28 _ _ rfl (w.heap.size + 2) 0 (rowV 32 hz).toArray rfl rfl ((E0.out.get 0 rfl).thereA _) (info_hash32A _) (rowV_oneA _ _) ?_)
      have EE := hide (E0.out.put 0 rfl hz)
      refine bodyPost_ret (v := .tuple #[.agg (rowV 32 hz).toArray, .int .i64 1]) ?_ rfl ⟨rfl, EE.out.below⟩
      have hlv := run_loadVar_mid (P := Tryd.prog) _ _ _ _ _ _ (EE.out.get 0 rfl).range Tryd.underlying28 rfl (info_hash32 _)
      exact results_two Tryd.results12 rfl rfl hlv
    · go_wp2_with (refine wpList_store_mid rfl 28 _ _ rfl (w.heap.size + 2) 0 (rowV 32 hz).toArray rfl rfl ((E0.out.get 0 rfl).thereA _) (info_hash32A _) (rowV_oneA _ _) ?_)
      have EE := hide (E0.out.put 0 rfl hz)
      refine bodyPost_ret (v := .tuple #[.agg (rowV 32 hz).toArray, .int .i64 1]) ?_ rfl ⟨rfl, EE.out.below⟩
      have hlv := run_loadVar_mid (P := Tryd.prog) _ _ _ _ _ _ (EE.out.get 0 rfl).range Tryd.underlying28 rfl (info_hash32 _)
      exact results_two Tryd.results12 rfl rfl hlv
  · obtain ⟨k, rfl⟩ : ∃ k : Nat, d = (k : Int) := ⟨d.toNat, by omega⟩
    have hk : k ≤ 32 := by omega
    have hki : (k : Int) ≤ 32 := by omega
    have hk0 : ¬ (k : Int) < 0 := by omega
    have hk1 : ¬ (32 : Int) < (k : Int) := by omega
    have HK := hide hk
    clear hdep hd0 hd1 hk
    obtain ⟨q, hq⟩ : ∃ q, i / 2 ^ k = q := ⟨_, rfl⟩
    have hdq : (i : Int) / 2 ^ k = (q : Int) := by rw [← hq]; simp
    have hp : 0 < 2 ^ k := Nat.two_pow_pos k
    by_cases hfar : q = 0
    · subst hfar
      have HLT : Hid (i < 2 ^ k) := (Nat.div_eq_zero_iff_lt hp).1 hq
      clear hq hp
      go_enter Tryd.func12, Tryd.ntmps12
      go_wp2_with (refine wpList_load_mid rfl 29 _ rfl (w.heap.size + 1) 0 rfl (rowV 1024 (pc P)) _ (E0.out.get 1 rfl).range Tryd.underlying29 rfl (info_pf _) ?_)
      generalize ((w.alloc (.cells (rowV 32 h).toArray 28)).alloc (.cells (rowV 1024 (pc P)).toArray 29)).alloc (.cells #[.int .u8 0, .int .u8 0, .int .u8 0, .int .u8 0, .int .u8 0, .int .u8 0, .int .u8 0, .int .u8 0, .int .u8 0, .int .u8 0, .int .u8 0, .int .u8 0, .int .u8 0, .int .u8 0, .int .u8 0, .int .u8 0, .int .u8 0, .int .u8 0, .int .u8 0, .int .u8 0, .int .u8 0, .int .u8 0, .int .u8 0, .int .u8 0, .int .u8 0, .int .u8 0, .int .u8 0, .int .u8 0, .int .u8 0, .int .u8 0, .int .u8 0, .int .u8 0] 28) = w1 at *
      refine (ends_any P k HK.out).mono ?_
      rintro e w2 ⟨rfl, hb⟩
      replace E0 := hide (E0.out.after hb)
      clear hb hdq
      cases hend : endB P k with
      | false =>
        have HC : Hid (ce (k : Int) i P = 6) := ce_form HK.out HLT.out hend
        have HZ : Hid (ch (k : Int) i h P = hz) := ch_no (by rw [HC.out]; decide)
        go_wp2_with (refine wpList_store_mid rfl 28 _ _ rfl (w.heap.size + 2) 0 (rowV 32 hz).toArray rfl rfl ((E0.out.get 0 rfl).thereA _) (info_hash32A _) (rowV_oneA _ _) ?_)
        have EE := hide (E0.out.put 0 rfl hz)
        refine bodyPost_ret (v := .tuple #[.agg (rowV 32 hz).toArray, .int .i64 6]) ?_ rfl ⟨by rw [HC.out, HZ.out], EE.out.below⟩
        have hlv := run_loadVar_mid (P := Tryd.prog) _ _ _ _ _ _ (EE.out.get 0 rfl).range Tryd.underlying28 rfl (info_hash32 _)
        exact results_two Tryd.results12 rfl rfl hlv
      | true =>
        have HC : Hid (ce (k : Int) i P = 0) := ce_ok HK.out HLT.out hend
        have HZ : Hid (ch (k : Int) i h P = cl i P h k) := ch_ok HK.out HLT.out hend
        have E1 : Hid (Bxs w (w2.alloc (.cells #[.int .u8 0, .int .u8 0, .int .u8 0, .int .u8 0, .int .u8 0, .int .u8 0, .int .u8 0, .int .u8 0, .int .u8 0, .int .u8 0, .int .u8 0, .int .u8 0, .int .u8 0, .int .u8 0, .int .u8 0, .int .u8 0, .int .u8 0, .int .u8 0, .int .u8 0, .int .u8 0, .int .u8 0, .int .u8 0, .int .u8 0, .int .u8 0, .int .u8 0, .int .u8 0, .int .u8 0, .int .u8 0, .int .u8 0, .int .u8 0, .int .u8 0, .int .u8 0] 28)) [(w2.heap.size, 32, fun _ => 0), (w.heap.size + 2, 32, fun _ => 0), (w.heap.size + 1, 1024, pc P), (w.heap.size, 32, h)]) := E0.out.new (BRow.zeros32 w2 rfl)
        clear hend HLT
        go_wp2_with (first
          | refine wpList_load_mid rfl 28 _ rfl (w.heap.size) 0 rfl (rowV 32 h) _ (E0.out.get 2 rfl).range Tryd.underlying28 rfl (info_hash32 _) ?_
          | refine wpList_store_stop rfl 28 _ _ rfl (w2.heap.size) 0 (rowV 32 h) rfl rfl ((E1.out.get 0 rfl).thereA h) (info_hash32A h) (rowV_oneA _ _) ?_)
        intro w3 hw3
        have E : Hid (Bxs w w3 [(w2.heap.size, 32, cl i P h 0), (w.heap.size + 2, 32, fun _ => 0), (w.heap.size + 1, 1024, pc P), (w.heap.size, 32, h)]) := by
          show Bxs _ _ _
          rw [hw3.out]; exact E1.out.put 0 rfl h
        clear hw3 E1 E0
        generalize w2.heap.size = g at *
        go_wp2_with fail
        go_loopg [34] k (fun gk t wr => ∃ b : Nat, gk + b = k ∧ t = .int .i64 b ∧ Bxs w wr [(g, 32, cl i P h b), (w.heap.size + 2, 32, fun _ => 0), (w.heap.size + 1, 1024, pc P), (w.heap.size, 32, h)])
        case atStart => exact ⟨0, by omega, rfl, E.out⟩
        case round =>
          clear E
          obtain ⟨b, hb0, rfl, he⟩ := hrel
          have E := hide he; have HB := hide hb0
          clear he hb0
          obtain ⟨C, hC⟩ : ∃ C, cl i P h b = C := ⟨_, rfl⟩
          have HCL := hide hC
          have HCO : Hid (Hok C) := by rw [← hC]; exact cl_ok HH.out b
          rw [hC] at E
          clear hC
          by_cases hlt : b < k
          · have hbi : (b : Int) < (k : Int) := by omega
            obtain ⟨r, hr⟩ : ∃ r, i / 2 ^ b = r := ⟨_, rfl⟩
            have hdr : (i : Int) / 2 ^ b = (r : Int) := by rw [← hr]; simp
            have hri : (r : Int) ≤ 18446744073709551615 := by have := Nat.div_le_self i (2 ^ b); omega
            have HR := hide hr
            obtain ⟨F, hF⟩ : ∃ F, P b = F := ⟨_, rfl⟩
            have HF := hide hF
            have HFO : Hid (Hok F) := by rw [← hF]; exact HPO.out b
            have hrow : Hid (wr.rangeAt (w.heap.size + 1) (b * 32) (rowV 32 F)) := by
              have := (E.out.get 2 rfl).lev b (by have := HK.out; omega)
              rwa [hF] at this
            have E1 : Hid (Bxs w (wr.alloc (.cells #[.int .u8 0, .int .u8 0, .int .u8 0, .int .u8 0, .int .u8 0, .int .u8 0, .int .u8 0, .int .u8 0, .int .u8 0, .int .u8 0, .int .u8 0, .int .u8 0, .int .u8 0, .int .u8 0, .int .u8 0, .int .u8 0, .int .u8 0, .int .u8 0, .int .u8 0, .int .u8 0, .int .u8 0, .int .u8 0, .int .u8 0, .int .u8 0, .int .u8 0, .int .u8 0, .int .u8 0, .int .u8 0, .int .u8 0, .int .u8 0, .int .u8 0, .int .u8 0] 28)) [(wr.heap.size, 32, fun _ => 0), (g, 32, C), (w.heap.size + 2, 32, fun _ => 0), (w.heap.size + 1, 1024, pc P), (w.heap.size, 32, h)]) := E.out.new (BRow.zeros32 wr rfl)
            clear hr hF
            by_cases hev : r % 2 = 0
            · have hevi : (r : Int) % 2 = 0 := by omega
              have HN : Hid (cl i P h (b + 1) = dnode C F) := by show _ = _; rw [cl_even (by rw [HR.out]; exact hev), HCL.out, HF.out]
              go_wp2_with (first
                | refine wpList_load_mid rfl 28 _ rfl (w.heap.size + 1) (b * 32) rfl (rowV 32 F) _ hrow.out Tryd.underlying28 rfl (info_hash32 _) ?_
                | refine wpList_store_stop rfl 28 _ _ rfl (wr.heap.size) 0 (rowV 32 F) rfl rfl ((E1.out.get 0 rfl).thereA F) (info_hash32A F) (rowV_oneA _ _) ?_)
              intro w4 hw4
              have E4 : Hid (Bxs w w4 [(wr.heap.size, 32, F), (g, 32, C), (w.heap.size + 2, 32, fun _ => 0), (w.heap.size + 1, 1024, pc P), (w.heap.size, 32, h)]) := by
                show Bxs _ _ _
                rw [hw4.out]; exact E1.out.put 0 rfl F
              clear hw4 E1 E hrow
              generalize wr.heap.size = g4 at *
              go_wp2_with (first
                | refine wpList_load_mid rfl 28 _ rfl (g) 0 rfl (rowV 32 C) _ (E4.out.get 1 rfl).range Tryd.underlying28 rfl (info_hash32 _) ?_
                | refine wpList_load_mid rfl 28 _ rfl (g4) 0 rfl (rowV 32 F) _ (E4.out.get 0 rfl).range Tryd.underlying28 rfl (info_hash32 _) ?_)
              refine (node_any C F HCO.out HFO.out (HT.out.below E4.out.below)).mono ?_
              rintro e w5 ⟨rfl, hb⟩
              replace E4 := hide (E4.out.after hb)
              clear hb
              obtain ⟨N, hN⟩ : ∃ N, dnode C F = N := ⟨_, rfl⟩
              rw [hN] at HN
              rw [hN]
              clear hN
              go_wp2_with (refine wpList_store_stop rfl 28 _ _ rfl (g) 0 (rowV 32 N) rfl rfl ((E4.out.get 1 rfl).thereA N) (info_hash32A N) (rowV_oneA _ _) ?_)
              intro w6 hw6
              have E6 : Hid (Bxs w w6 [(g4, 32, F), (g, 32, N), (w.heap.size + 2, 32, fun _ => 0), (w.heap.size + 1, 1024, pc P), (w.heap.size, 32, h)]) := by
                show Bxs _ _ _
                rw [hw6.out]; exact E4.out.put 1 rfl N
              clear hw6 E4
              go_wp2
              go_roundg (k - b - 1)
              case measure => have := HB.out; omega
              case rel => exact ⟨b + 1, by omega, by go_num, by rw [HN.out]; exact E6.out.tail⟩
            · have hevi : (r : Int) % 2 = 1 := by omega
              have HN : Hid (cl i P h (b + 1) = dnode F C) := by show _ = _; rw [cl_odd (by rw [HR.out]; exact hev), HCL.out, HF.out]
              go_wp2_with (first
                | refine wpList_load_mid rfl 28 _ rfl (w.heap.size + 1) (b * 32) rfl (rowV 32 F) _ hrow.out Tryd.underlying28 rfl (info_hash32 _) ?_
                | refine wpList_store_stop rfl 28 _ _ rfl (wr.heap.size) 0 (rowV 32 F) rfl rfl ((E1.out.get 0 rfl).thereA F) (info_hash32A F) (rowV_oneA _ _) ?_)
              intro w4 hw4
              have E4 : Hid (Bxs w w4 [(wr.heap.size, 32, F), (g, 32, C), (w.heap.size + 2, 32, fun _ => 0), (w.heap.size + 1, 1024, pc P), (w.heap.size, 32, h)]) := by
                show Bxs _ _ _
                rw [hw4.out]; exact E1.out.put 0 rfl F
              clear hw4 E1 E hrow
              generalize wr.heap.size = g4 at *
              go_wp2_with (first
                | refine wpList_load_mid rfl 28 _ rfl (g) 0 rfl (rowV 32 C) _ (E4.out.get 1 rfl).range Tryd.underlying28 rfl (info_hash32 _) ?_
                | refine wpList_load_mid rfl 28 _ rfl (g4) 0 rfl (rowV 32 F) _ (E4.out.get 0 rfl).range Tryd.underlying28 rfl (info_hash32 _) ?_)
              refine (node_any F C HFO.out HCO.out (HT.out.below E4.out.below)).mono ?_
              rintro e w5 ⟨rfl, hb⟩
              replace E4 := hide (E4.out.after hb)
              clear hb
              obtain ⟨N, hN⟩ : ∃ N, dnode F C = N := ⟨_, rfl⟩
              rw [hN] at HN
              rw [hN]
              clear hN
              go_wp2_with (refine wpList_store_stop rfl 28 _ _ rfl (g) 0 (rowV 32 N) rfl rfl ((E4.out.get 1 rfl).thereA N) (info_hash32A N) (rowV_oneA _ _) ?_)
              intro w6 hw6
              have E6 : Hid (Bxs w w6 [(g4, 32, F), (g, 32, N), (w.heap.size + 2, 32, fun _ => 0), (w.heap.size + 1, 1024, pc P), (w.heap.size, 32, h)]) := by
                show Bxs _ _ _
                rw [hw6.out]; exact E4.out.put 1 rfl N
              clear hw6 E4
              go_wp2
              go_roundg (k - b - 1)
              case measure => have := HB.out; omega
              case rel => exact ⟨b + 1, by omega, by go_num, by rw [HN.out]; exact E6.out.tail⟩
          · obtain rfl : b = k := by have := HB.out; omega
            go_wp2_with (first
              | refine wpList_load_mid rfl 28 _ rfl (g) 0 rfl (rowV 32 C) _ (E.out.get 0 rfl).range Tryd.underlying28 rfl (info_hash32 _) ?_
              | refine wpList_store_mid rfl 28 _ _ rfl (w.heap.size + 2) 0 (rowV 32 C).toArray rfl rfl ((E.out.get 1 rfl).thereA _) (info_hash32A _) (rowV_oneA _ _) ?_)
            have EE := hide (E.out.put 1 rfl C)
            refine bodyPost_ret (v := .tuple #[.agg (rowV 32 C).toArray, .int .i64 0]) ?_ rfl ⟨by rw [HC.out, HZ.out, HCL.out], EE.out.below⟩
            have hlv := run_loadVar_mid (P := Tryd.prog) _ _ _ _ _ _ (EE.out.get 1 rfl).range Tryd.underlying28 rfl (info_hash32 _)
            exact results_two Tryd.results12 rfl rfl hlv
    · have HC : Hid (ce (k : Int) i P = 10) := ce_far HK.out (by
        rcases Nat.lt_or_ge i (2 ^ k) with h | h
        · exact absurd (hq.symm.trans (Nat.div_eq_of_lt h)) hfar
        · exact h)
      have HZ : Hid (ch (k : Int) i h P = hz) := ch_no (by rw [HC.out]; decide)
      rw [HC.out, HZ.out]
      have hqi : 0 < (q : Int) := by omega
      clear hq hp
      go_enter Tryd.func12, Tryd.ntmps12
      go_wp2_with (refine wpList_store_mid rfl 28 _ _ rfl (w.heap.size + 2) 0 (rowV 32 hz).toArray rfl rfl ((E0.out.get 0 rfl).thereA _) (info_hash32A _) (rowV_oneA _ _) ?_)
      have EE := hide (E0.out.put 0 rfl hz)
      refine bodyPost_ret (v := .tuple #[.agg (rowV 32 hz).toArray, .int .i64 10]) ?_ rfl ⟨rfl, EE.out.below⟩
      have hlv := run_loadVar_mid (P := Tryd.prog) _ _ _ _ _ _ (EE.out.get 0 rfl).range Tryd.underlying28 rfl (info_hash32 _)
      exact results_two Tryd.results12 rfl rfl hlv
end Go.Proofs.YtjkhboejhcbdpaaDoor

/- The contract of proof.Check over this translation (written by gen-proofcheck.py). -/
namespace Go.Proofs.YtjkhboejhcbdpaaDoor
open Go.RowKit Go.Lib
attribute [local go_sem] setCell_drewN alloc_drewN eqHash

/-- What is checked, by its number. -/
def ck (d : Int) (root : Hs) (n i : Nat) (h : Hs) (P : Pf) : Int := if ce d i P = 0 then (if n ≤ i then 10 else if sameH (ch d i h P) root = true then 0 else 14) else ce d i P
theorem ret_err {a b : Int} (h : a = b) : Ending.returned (.int .i64 a) = .returned (.int .i64 b) := by rw [h]
set_option maxRecDepth 100000 in
set_option maxHeartbeats 8000000 in
theorem check_any {w : World} (d : Int) (root : Hs) (n i : Nat) (h : Hs) (P : Pf) (hd0 : -9223372036854775808 ≤ d) (hd1 : d ≤ 9223372036854775807) (hi : i ≤ 18446744073709551615) (hh : Hok h) (hP : Pok P) (ht : Tab w 1) :
    Calls Tryd.prog 14 #[.int .i64 d, .agg (rowV 32 root).toArray, .int .u64 n, .int .u64 i, .agg (rowV 32 h).toArray, .agg (rowV 1024 (pc P)).toArray] w fun e w' => e = .returned (.int .i64 (ck d root n i h P)) ∧ Below w.heap.size w w' := by
  have HT := hide ht; have HH := hide hh; have HPO := hide hP; have HD0 := hide hd0; have HD1 := hide hd1; have HI := hide hi
  have E0 : Hid (Bxs w (((w.alloc (.cells (rowV 32 root).toArray 28)).alloc (.cells (rowV 32 h).toArray 28)).alloc (.cells (rowV 1024 (pc P)).toArray 29)) [(w.heap.size + 2, 1024, pc P), (w.heap.size + 1, 32, h), (w.heap.size, 32, root)]) :=
    (((Bxs.none w).add rfl (BRow.box w 32 root _ rfl)).add (by simp) (BRow.box _ 32 h _ (by simp))).add (by simp) (BRow.box _ 1024 (pc P) _ (by simp))
  clear ht hh hP hd0 hd1 hi
  go_enter Tryd.func14, Tryd.ntmps14
  go_wp2_with (first
    | refine wpList_load_mid rfl 29 _ rfl (w.heap.size + 2) 0 rfl (rowV 1024 (pc P)) _ (E0.out.get 0 rfl).range Tryd.underlying29 rfl (info_pf _) ?_
    | refine wpList_load_mid rfl 28 _ rfl (w.heap.size + 1) 0 rfl (rowV 32 h) _ (E0.out.get 1 rfl).range Tryd.underlying28 rfl (info_hash32 _) ?_)
  generalize ((w.alloc (.cells (rowV 32 root).toArray 28)).alloc (.cells (rowV 32 h).toArray 28)).alloc (.cells (rowV 1024 (pc P)).toArray 29) = w1 at *
  refine (climb_any d i h P HD0.out HD1.out HI.out HH.out HPO.out (HT.out.below E0.out.below)).mono ?_
  rintro e w2 ⟨rfl, hb⟩
  replace E0 := hide (E0.out.after hb)
  clear hb
  obtain ⟨H, hH⟩ : ∃ H, ch d i h P = H := ⟨_, rfl⟩
  obtain ⟨c, hc⟩ : ∃ c, ce d i P = c := ⟨_, rfl⟩
  have HC := hide hc; have HHH := hide hH
  rw [hH, hc]
  have E1 : Hid (Bxs w (w2.alloc (.cells #[.int .u8 0, .int .u8 0, .int .u8 0, .int .u8 0, .int .u8 0, .int .u8 0, .int .u8 0, .int .u8 0, .int .u8 0, .int .u8 0, .int .u8 0, .int .u8 0, .int .u8 0, .int .u8 0, .int .u8 0, .int .u8 0, .int .u8 0, .int .u8 0, .int .u8 0, .int .u8 0, .int .u8 0, .int .u8 0, .int .u8 0, .int .u8 0, .int .u8 0, .int .u8 0, .int .u8 0, .int .u8 0, .int .u8 0, .int .u8 0, .int .u8 0, .int .u8 0] 28)) [(w2.heap.size, 32, fun _ => 0), (w.heap.size + 2, 1024, pc P), (w.heap.size + 1, 32, h), (w.heap.size, 32, root)]) := E0.out.new (BRow.zeros32 w2 rfl)
  have hcc : c = 0 ∨ c = 1 ∨ c = 6 ∨ c = 10 := by rw [← hc]; exact ce_cases d i P
  clear hc hH
  go_wp2_with (refine wpList_store_stop rfl 28 _ _ rfl (w2.heap.size) 0 (rowV 32 H) rfl rfl ((E1.out.get 0 rfl).thereA H) (info_hash32A H) (rowV_oneA _ _) ?_)
  intro w3 hw3
  have E : Hid (Bxs w w3 [(w2.heap.size, 32, H), (w.heap.size + 2, 1024, pc P), (w.heap.size + 1, 32, h), (w.heap.size, 32, root)]) := by
    show Bxs _ _ _
    rw [hw3.out]; exact E1.out.put 0 rfl H
  clear hw3 E1 E0
  generalize w2.heap.size = g at *
  by_cases h0 : c = 0
  · subst h0
    clear hcc
    by_cases hin : n ≤ i
    · have HR : Hid (ck d root n i h P = 10) := by show _ = _; rw [ck, if_pos HC.out, if_pos hin]
      have hini : (n : Int) ≤ (i : Int) := by omega
      go_wp2
      go_ret
      exact ⟨ret_err HR.out.symm, E.out.below⟩
    · have hini : (i : Int) < (n : Int) := by omega
      have hse := fun w => eqHash H root w
      cases hs : sameH H root with
      | true =>
        rw [hs] at hse
        have HR : Hid (ck d root n i h P = 0) := by show _ = _; rw [ck, if_pos HC.out, if_neg hin, HHH.out, if_pos hs]
        clear hs
        go_wp2_with (first
          | refine wpList_load_mid rfl 28 _ rfl (g) 0 rfl (rowV 32 H) _ (E.out.get 0 rfl).range Tryd.underlying28 rfl (info_hash32 _) ?_
          | refine wpList_load_mid rfl 28 _ rfl (w.heap.size) 0 rfl (rowV 32 root) _ (E.out.get 3 rfl).range Tryd.underlying28 rfl (info_hash32 _) ?_)
        go_ret
        exact ⟨ret_err HR.out.symm, E.out.below⟩
      | false =>
        rw [hs] at hse
        have HR : Hid (ck d root n i h P = 14) := by show _ = _; rw [ck, if_pos HC.out, if_neg hin, HHH.out, hs, if_neg (by decide)]
        clear hs
        go_wp2_with (first
          | refine wpList_load_mid rfl 28 _ rfl (g) 0 rfl (rowV 32 H) _ (E.out.get 0 rfl).range Tryd.underlying28 rfl (info_hash32 _) ?_
          | refine wpList_load_mid rfl 28 _ rfl (w.heap.size) 0 rfl (rowV 32 root) _ (E.out.get 3 rfl).range Tryd.underlying28 rfl (info_hash32 _) ?_)
        go_ret
        exact ⟨ret_err HR.out.symm, E.out.below⟩
  · have HR : Hid (ck d root n i h P = c) := by show _ = _; rw [ck, if_neg (by rw [HC.out]; exact h0), HC.out]
    go_wp2
    go_ret
    exact ⟨ret_err HR.out.symm, E.out.below⟩
end Go.Proofs.YtjkhboejhcbdpaaDoor
